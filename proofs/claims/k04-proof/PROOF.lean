import PyProof.Rows.All
import Wide.All
import OpenK.AllK
import Wide.FinOn
import KE.KExcInit
import KE.KExcMake
import KE.KIsAll
import HandS.ForMost
import HandS.Exc
import HandS.ExcOwn
import HandS.ExcInit
import HandS.ExcIs
import HandS.ExcField
import HandS.IsInst
import HandS.Defaults
import KE.KExcIs
import HandS.Walk
import HandS.Zip
import HandS.Wide
import HandS.WideBits
import HandS.DeepEq
import HandS.EndBits
import HandS.Head2
import HandS.HeadHook2
import PyProof.ReprRoads
import KE.KCallOwn
import HandS.More
import PyProof.InstEq
import HandS.MakeKwOnly
import HandS.Codes
import HandS.ClsMeth
import HandS.TryMany
import HandS.EndTab
import HandS.HeadHook4
import HandS.Property
import HandS.HeadNt
import HandS.HeadHook3
import HandS.TupSets
import HandS.Keys
import HandS.SetBool
import HandS.Deep
import HandS.Iter
import OpenK.KMeth
import KE.KOpsOwn
import HandS.DictTup
import HandS.Dict
import KE.KDictPairs
import HandS.Small
import HandS.Conv
import HandS.StrMore
import HandS.TupLe
import HandS.FStr
import HandS.RaiseMore
import PySem.Challenge.RW_thirdback_k04_whole_kinds_and_their_rule
set_option Elab.async false
set_option linter.all false
set_option maxRecDepth 100000
set_option maxHeartbeats 4000000
/-! an own error class over ValueError, LookupError, ArithmeticError alike: it is called (by place or by name), its object gets its first attribute -/
namespace L2.Tb
open PySem PySem.W PySem.Calls PyProof.Rows PySem.HandSPX
/-- a built-in base: its name, its makers, its mro -/
structure Bs where
  B : String
  newId : String
  initId : String
  bm : List Value
structure Bs.Ok (b : Bs) : Prop where
  F : ExcBaseFacts b.B b.newId b.initId b.bm
  S : StoreFacts b.B b.bm "object.__setattr__" "object"
section
variable {prog : Program} {w : World} {A : Around} {R : Result → Shared → Prop} {h : Heap} {g : Array GenState} {dr : Drawn} {tk : Nat} {os : OsState} {b : Bs} {C fI : Addr} {us : List Value} {kw : List (Str × Value)}
/-- C's class object is that of an own class over b -/
def OwnC (h : Heap) (b : Bs) (C : Addr) (bm : List Value) : Prop := ∃ nm q N bs hdct sn sub ab col dd k0 k1 k2 k3 k5, h.get? C = some (excClassObj nm q C N bs bm hdct sn sub ab col dd k0 k1 k2 k3 k5 b.newId)
/-- what the two makers leave behind: the args, the object -/
abbrev laidH (h : Heap) (C : Addr) (us : List Value) : Heap := (h.push (kdv_tup us)).push (excO C h.objs.size)
theorem own_new {bm : List Value} (o : OwnC h b C bm) (F : ExcBaseFacts b.B b.newId b.initId b.bm) (is : ∀ T : String, (Value.ref C :: bm).contains (.type T) = b.bm.contains (.type T)) (hz : us.length ≤ sizeLine) :
    (∀ {M : Model} {A' : Around} {E : Value → Shared → Prop} {Q : Unit → Shared → Prop}, Q () ⟨h, g, dr, tk, os⟩ → wpAny M A' (checkBuiltinCall b.newId ⟨.ref C :: us, kw⟩) Q E ⟨h, g, dr, tk, os⟩) ∧
    ∀ {R' : Result → Shared → Prop}, R' (.ok (.ret (.ref (h.objs.size + 1)))) ⟨laidH h C us, g, dr, tk, os⟩ → codeAny (model prog w) A (.builtin b.newId ⟨.ref C :: us, kw⟩) R' ⟨h, g, dr, tk, os⟩ := by
  obtain ⟨nm, q, N, bs, hdct, sn, sub, ab, col, dd, k0, k1, k2, k3, k5, hC⟩ := o
  have yes := (is b.B).trans F.hasB
  have no1 := (is "AttributeError").trans F.noAttr
  have no2 := (is "NameError").trans F.noName
  constructor
  · intro M A' E Q hq
    have star := F.noStar
    simp only [checkBuiltinCall, F.newKind, F.newSplit, F.newRow]
    repeat (first | (refine wpAny_isSubtype_exc hC ?_; rw [yes]) | refine wpAny_staticBase_exc hC ?_ | refine wpAny_madeBy_exc hC ?_ | refine wpAny_loadPart_at hC ?_ | simp only [bne_self_eq_false, Bool.false_eq_true, if_false] | wp_step)
    exact hq
  · intro R' hq
    have ends := F.ends
    refine codeAny_builtinAt F.entry ?_
    unfold Builtin.«BaseException.__new__»
    refine PySem.wpAt_bind ?_
    show PySem.wpAt _ _ _ (stack >>= _) _ _ _
    refine PySem.wpAt_bind (PySem.wpAt_stack fun _ _ => PySem.wpAt_of_wpAny ?_)
    wp_walk
    refine PySem.wpAt_of_wpAny ?_
    rw [F.owner]
    repeat (first | with_reducible refine wpAny_madeHere_exc F.canon hC ?_ | (with_reducible refine wpAny_isSubtype_exc hC ?_; first | rw [no1] | rw [no2] | rw [yes]) | with_reducible refine wpAny_loadPart_at hC ?_ | wp_step)
    show R' _ _
    rw [Heap.size_push]
    exact hq
/-- C(us, kw), C's own __init__ at fI -/
theorem own_call {bm : List Value} (o : OwnC h b C bm) (ok : b.Ok) (hT : ∀ T : String, bm.contains (.type T) = b.bm.contains (.type T)) (hi : Looks (model prog w) h (typeLookup (.ref C) "__init__") (some (.ref fI)))
    (hb : ∀ self, Looks (model prog w) h (bindSpecial (.ref fI) self) (.ref fI, [self])) (hz : us.length ≤ sizeLine)
    (hq : codeAny (model prog w) (A.under (.builtin "type.__call__" ⟨.ref C :: us, kw⟩)) (.call (.ref fI) ⟨.ref (h.objs.size + 1) :: us, kw⟩) (InitBack (h.objs.size + 1) R) ⟨laidH h C us, g, dr, tk, os⟩) :
    codeAny (model prog w) A (.call (.ref C) ⟨us, kw⟩) R ⟨h, g, dr, tk, os⟩ := by
  have keep : ∀ a x, h.get? a = some x → (laidH h C us).get? a = some x := fun a x e => Heap.get?_push_of_some _ (Heap.get?_push_of_some _ e)
  have there : (laidH h C us).get? (h.objs.size + 1) = some (excO C h.objs.size) := by heap_get
  have self : (Value.ref C :: bm).contains (.ref C) = true := by simp
  have new := @own_new prog w ((A.under (.builtin "type.__call__" ⟨.ref C :: us, kw⟩))) h g dr tk os b C us kw bm o ok.F (fun T => by rw [List.contains_cons, hT]; rfl) hz
  obtain ⟨nm, q, N, bs, hdct, sn, sub, ab, col, dd, k0, k1, k2, k3, k5, hC⟩ := o
  have hC2 := keep _ _ hC
  have ty : (⟨h, g, dr, tk, os⟩ : Shared).TypeIs (.ref C) "type" := ⟨_, hC, rfl⟩
  have l1 := tc_lookup
  have l2 := tc_bind (.ref C)
  have l3 := tc_sub
  refine codeAny_of_tree ?_
  show wpAny _ _ (callAny (.ref C) _) _ _ _
  repeat (any_goals (first | assumption | with_reducible refine wpAny_loadPart_at hC ?_ | wp_step))
  refine ⟨rfl, codeAny_call_builtin_at (Code.quiet_builtin _ (by decide +kernel)) entry_typeCall ?_⟩
  simp only [checkBuiltinCall, tc_kind, tc_split]
  repeat (any_goals (first | assumption | with_reducible refine wpAny_loadPart_at hC ?_ | with_reducible refine wpAny_onRaise ?_ | with_reducible refine wpAny_map ?_ | wp_step))
  repeat (first | with_reducible refine wpAny_madeBy_exc hC ?_ | with_reducible refine wpAny_loadPart_at hC ?_ | wp_step)
  refine codeAny_call_builtin_code (Code.quiet_builtin _ ok.F.quiet) (new.1 (new.2 ?_))
  show wpAny _ _ _ _ _ _
  unfold isInstance
  repeat (first | with_reducible refine wpAny_loadPart_at there ?_ | (with_reducible refine wpAny_isSubtype_exc hC2 ?_; rw [self]) | wp_step)
  show wpAny _ _ (typeLookup (.ref C) _) _ _ _
  refine (hi.keeps keep).at (wpAny_holding (wpAny_bind (((hb _).keeps keep).at (wpAny_bind (wpAny_call (codeAny_mono hq fun r s' z => ?_))))))
  match r, z with
  | .error e, z => exact z
  | .ok (.ret v), ⟨e, z⟩ =>
    subst e
    first
      | exact wpAny_pure (wpAny_pure z)
      | (wp_walk; exact z)
end
/-! ### self.name = v on an own error that has no dict yet -/
section
variable {prog : Program} {w : World} {A : Around} {R : Result → Shared → Prop} {hp : Heap} {g : Array GenState} {dr : Drawn} {tk : Nat} {os : OsState}
theorem own_store {K : Frag} {name : Str} {t1 : Tok} {v : Value} {x C t0 : Addr} {b : Bs} (ok : b.Ok) (X : K.In hp) (hx : hp.get? x = some (excObj C t0 none .none)) (ov : excOver K C b.bm = true) (hd : hasDictIn K C = true) (no : findIn K (.ref C) name = some none)
    (hq : ∀ h' tk' dx, (∀ b o, b ≠ x → hp.get? b = some o → h'.get? b = some o) → hp.objs.size ≤ dx → dx ≠ x → h'.get? x = some (excObj C t0 (some dx) .none) → h'.Ns1 dx (fun y => if y = name then some v else none) → R (.ok (.ret .none)) ⟨h', g, dr, tk', os⟩) :
    codeAny (model prog w) A (.call (.builtin "object.__setattr__") ⟨[.ref x, .str name t1, v], []⟩) R ⟨hp, g, dr, tk, os⟩ := by
  have far : x ≠ hp.objs.size := Nat.ne_of_lt (Heap.lt_size hx)
  obtain ⟨cd, hc, hd'⟩ := any_some hd
  refine osa_openX (s := ⟨hp, g, dr, tk, os⟩) (od := none) (r := none) ok.S X ⟨hx, rfl, rfl, trivial⟩ ov (by unfold takerIn; rw [no]; rfl) fun bb => ?_
  refine wpAny_bind (wpAny_pure (wpAny_bind (instanceDict_exc (s := ⟨hp, g, dr, tk, os⟩) hx (looks_clsIn X hc) hd' ?_)))
  have hx1 := (hp.get?_push_of_some (dictOf [] 0) hx)
  refine store_in_new ⟨_, #[], _, (Heap.get?_update_ne _ _ _ _ far.symm).trans (Heap.get?_push_at rfl rfl), rfl, fun e he => absurd he (by simp), fun _ => rfl⟩ fun h' tk' hn hs => ?_
  refine hq h' tk' hp.objs.size (fun a o ne ho => (hs.2 a (Nat.ne_of_lt (Heap.lt_size ho))).trans ((Heap.get?_update_ne _ _ _ _ ne).trans (Heap.get?_push_of_some _ ho))) (Nat.le_refl _) far.symm ?_ hn
  exact (hs.2 x far).trans (Heap.get?_update_self _ hx1 rfl)
end
end L2.Tb
set_option Elab.async false
set_option linter.all false
set_option maxRecDepth 100000
set_option maxHeartbeats 4000000
namespace L2.Tb
open PySem PySem.Spec PyProof.Rows L2
def bVE : Bs := ⟨"ValueError", "ValueError.__new__", "ValueError.__init__", [.type "ValueError", .type "Exception", .type "BaseException", .type "object"]⟩
def bLE : Bs := ⟨"LookupError", "LookupError.__new__", "LookupError.__init__", [.type "LookupError", .type "Exception", .type "BaseException", .type "object"]⟩
def bAE : Bs := ⟨"ArithmeticError", "ArithmeticError.__new__", "ArithmeticError.__init__", [.type "ArithmeticError", .type "Exception", .type "BaseException", .type "object"]⟩
theorem bVE_ok : bVE.Ok := ⟨PySem.F.excBase_ValueError, PySem.F.store_ValueError⟩
theorem bLE_ok : bLE.Ok := ⟨PySem.F.excBase_LookupError, PySem.F.store_LookupError⟩
theorem bAE_ok : bAE.Ok := ⟨PySem.F.excBase_ArithmeticError, PySem.F.store_ArithmeticError⟩
/-- an own exception class over the base b -/
structure EC (K : PySem.W.Frag) (b : Bs) (C : Addr) : Prop where
  ok : b.Ok
  own : PySem.W.excInitIn K C b.bm b.newId = true
  sa : PySem.W.findIn K (.ref C) "__setattr__" = some (some (.builtin "object.__setattr__"))
  kC : PySem.W.keepIn K (.ref C) = true
  ex : ExcC K C
  ov : PySem.W.excOver K C b.bm = true
def ecB (K : PySem.W.Frag) (b : Bs) (C : Addr) : Bool := PySem.W.excOver K C b.bm && (
  PySem.W.excInitIn K C b.bm b.newId && (decide (PySem.W.findIn K (.ref C) "__setattr__" = some (some (.builtin "object.__setattr__"))) && (PySem.W.keepIn K (.ref C) &&
  (decide (PySem.W.findIn K (.ref C) "__getattribute__" = some (some (.builtin "BaseException.__getattribute__"))) && (decide (PySem.W.findIn K (.ref C) "__getattr__" = some none) &&
  (decide (PySem.W.subIn K (.ref C) (.type "BaseException") = some true) && (PySem.W.hasDictIn K C && (decide (PySem.W.findIn K (.ref C) "__class__" = some (some (.builtin "object.__class__"))) &&
  (decide (PySem.W.specialIn K (.builtin "object.__class__") "__get__" = some (some (.builtin "getset_descriptor.__get__"))) && (decide (PySem.W.takesIn K (.builtin "object.__class__") = some true) &&
  decide (PySem.W.mroIn K C (.type "object") = some true)))))))))))
theorem ecB_ok {K : PySem.W.Frag} {b : Bs} {C : Addr} (ok : b.Ok) (h : ecB K b C = true) : EC K b C := by
  unfold ecB at h
  simp only [Bool.and_eq_true, decide_eq_true_eq] at h
  obtain ⟨h0, h1, h2, h3, h4, h5, h6, h7, h8, h9, h10, h11⟩ := h
  exact ⟨ok, h1, h2, h3, ⟨h4, h5, h6, h7, h8, h9, h10, h11⟩, h0⟩
section
variable {K : PySem.W.Frag} {b : Bs} {C : Addr}
theorem EC.cd (T : EC K b C) : ∃ cd, PySem.W.clsIn K C = some cd ∧ PySem.W.excTail b.bm cd.mro = true ∧ cd.mro.isEmpty = false ∧ cd.hasDict = true := by
  have q := T.own
  unfold PySem.W.excInitIn at q
  obtain ⟨cd2, hc2, hd2⟩ := PySem.W.any_some (show (PySem.W.clsIn K C).any (·.hasDict) = true from T.ex.hd)
  split at q
  · rename_i dd cd sl ho
    split at q
    · rename_i C' bm k0 k1 k2 k3 n k5 hm hs
      simp only [Bool.and_eq_true, beq_iff_eq, Bool.not_eq_true'] at q
      obtain ⟨⟨⟨rfl, rfl⟩, hdel⟩, ht⟩ := q
      have e : PySem.W.clsIn K C' = some cd := by unfold PySem.W.clsIn; rw [ho] <;> rfl
      have e3 := Option.some.inj (e.symm.trans hc2)
      subst e3
      refine ⟨_, e, ?_, ?_, hd2⟩
      · rw [hm]
        exact ht
      · rw [hm]
        rfl
    · cases q
  · cases q
end
section
variable {X : Cx} {pins : List (Addr × Obj)} {σ : St} {H : Hp} {s : Shared} {b : Bs} {a C dx : Addr} {f : Str} {y : V} {u : Value} {Q : Unit → Shared → Prop} {E : Value → Shared → Prop} {A : Around}
/-- self.f = y, the first one -/
theorem osv_new (T : EC X.K b C) (I : Inv X pins σ H s) (e : H a = some (exo a C none)) (hno : PySem.W.findIn X.K (.ref C) f = some none) (ry : RelV y u)
    (h : ∀ dx s', H dx = none → dx ≠ a → Inv X pins σ (upd (upd H dx (exd dx [(f, y)])) a (exo a C (some dx))) s' → Q () s') : wpAny (model X.prog X.w) A (setAttr (.ref a) f u) Q E s := by
  obtain ⟨t1, ho⟩ := exo_at I.hok e
  refine PySem.W.set_plain I.kIn (od := none) ⟨ho, rfl, rfl, trivial⟩ T.sa (own_store T.ok I.kIn ho T.ov T.ex.hd hno fun h' tk' dx k dn dne hx hn => ?_)
  have fresh : H dx = none := I.hok.fresh dn
  -- the heap behind the store, seen from what was there
  have other : ∀ {c : Addr} {o : HO}, H c = some o → c ≠ a → upd (upd H dx (exd dx [(f, y)])) a (exo a C (some dx)) c = some o := fun q n => by rw [upd_ne n, upd_ne (ne_of_none q fresh)]; exact q
  have ne : ∀ {c : Addr}, H c = none → c ≠ a := fun n z => by rw [z, e] at n; cases n
  have lt : ∀ {c : Addr} {o : Obj}, s.heap.get? c = some o → c ≠ dx := fun q => Nat.ne_of_lt (Nat.lt_of_lt_of_le (Heap.lt_size q) dn)
  refine h dx _ fresh dne (I.un (t' := tk') { keep := fun c o q n _ _ => k c o (ne n) q, slot := fun c o q n _ _ => ⟨o.slots, k c o (ne n) q⟩, free := fun c o q n _ => ?_, there := fun c o q _ => ?_, tups := fun c xs q => other q (at_ne e q exo_tup), frzs := fun c o v q => other q (at_ne e q exo_frz), tbls := fun c ps q => ⟨#[], ?_⟩ } fun c o q => ?_)
  · rw [upd_ne (ne n), upd_ne (lt q)]
    exact n
  · by_cases z : c = a
    · exact ⟨_, by rw [z]; exact hx⟩
    · exact ⟨o, k c o z q⟩
  · rw [other q (at_ne e q exo_tbl)]
    simp
  · by_cases z : c = a
    · subst z
      rw [upd_same] at q
      cases q
      exact exo_ok hx
    · rw [upd_ne z] at q
      by_cases z2 : c = dx
      · subst z2
        rw [upd_same] at q
        cases q
        exact exd_ok hn (relO_put (fs := []) ry fun _ => True.intro)
      · rw [upd_ne z2] at q
        refine (I.hok c o q).stay (fun d v hc z' => k d v ?_ z') (fun d hc => other hc (at_ne e hc exo_own)) fun d xs hc => other hc (at_ne e hc exo_tup)
        rcases hc with rfl | hc
        · exact z
        · exact at_ne e hc exo_own
end
/-- self.f = e -/
def tOsv (K : PySem.W.Frag) (f : Str) (to te : TE) : TS := fun D σ H => te σ H fun y H1 => to σ H1 fun x H2 => ∃ (a C : Addr) (b : Bs), x = .ref a ∧ EC K b C ∧ PySem.W.findIn K (.ref C) f = some none ∧
  H2 a = some (exo a C none) ∧ ∀ dx, H2 dx = none → dx ≠ a → D.nx σ (upd (upd H2 dx (exd dx [(f, y)])) a (exo a C (some dx)))
/-- C(e, ..), C's own __init__ keeping sp: the exception as a value -/
def tMkV (C : Addr) (sp : Sp) (ta : TA) : TE := fun σ H Q => ta σ H fun vs H1 => vs.length ≤ 1000 ∧ ∀ a, H1 a = none → sp (.ref a :: vs) (upd H1 a (exo a C none)) (fun v H2 => v = .non ∧ Q (.ref a) H2) E0
/-- e.f of an exception -/
def tXv (K : PySem.W.Frag) (f : Str) (te : TE) : TE := fun σ H Q => te σ H fun x H1 => ∃ (a C dx : Addr) (b : Bs) (fs : List (Str × V)) (v : V), x = .ref a ∧ EC K b C ∧ PySem.W.findIn K (.ref C) f = some none ∧
  H1 a = some (exo a C (some dx)) ∧ H1 dx = some (exd dx fs) ∧ fs.lookup f = some v ∧ Q v H1
/-- isinstance(e, c) -/
def rIsX (K : PySem.W.Frag) : List V → Hp → VK → Prop := fun xs H Q => ∃ (a C : Addr) (od : Option Addr) (c : V) (u : Value) (b : Bs) (r : Bool), xs = [.ref a, c] ∧ ClsV c u ∧ H a = some (exo a C od) ∧ (∀ d, od = some d → ∃ fs, H d = some (exd d fs)) ∧ EC K b C ∧
  PySem.W.kitOne K (.ref C) u = some r ∧ Q (.bl r) H
section
variable {X : Cx} {o e : Expr} {es : List Expr} {to te : TE} {ta : TA} {f : Str} {p p' p1 p2 pos : Pos}
theorem ps_osv (ho : PE X o to) (he : PE X e te) (hs : swapsWith e (some (.Attribute o f p')) pos.line X.env = pure false := by rfl) : PS X (.Assign [.Attribute o f p'] e pos) (tOsv X.K f to te) := by
  refine ⟨fun pins s σ H D I h => ?_⟩
  refine plainObj_wpAny_Assign_Attribute (thn (he.run pins s σ H _ I h) fun v s1 ⟨y, H1, I1, r1, q1⟩ => thn (ho.run pins s1 σ H1 _ I1 q1) fun u s2 ⟨x, H2, I2, r2, a, C, b, ex, T, hno, ea, q⟩ => ?_) hs
  subst ex
  obtain rfl : u = Value.ref a := r2
  exact osv_new T I2 ea hno r1 fun dx s' n ne J => ⟨σ, _, J, q dx n ne⟩
/-- the exception that is made: its object lies, not yet its dict -/
theorem made_inv {pins : List (Addr × Obj)} {σ : St} {H1 : Hp} {hp : Heap} {g : Array GenState} {dr : Drawn} {tk : Nat} {os : OsState} {C : Addr} (us : List Value) (I1 : Inv X pins σ H1 ⟨hp, g, dr, tk, os⟩) :
    Inv X pins σ (upd H1 (hp.objs.size + 1) (exo (hp.objs.size + 1) C none)) ⟨(hp.push (PySem.W.kdv_tup us)).push (PySem.HandSPX.excO C hp.objs.size), g, dr, tk, os⟩ := by
  have kk : ∀ b o, hp.get? b = some o → ((hp.push (PySem.W.kdv_tup us)).push (PySem.HandSPX.excO C hp.objs.size)).get? b = some o := fun b o e => Heap.get?_push_of_some _ (Heap.get?_push_of_some _ e)
  have hget : ((hp.push (PySem.W.kdv_tup us)).push (PySem.HandSPX.excO C hp.objs.size)).get? (hp.objs.size + 1) = some (PySem.HandSPX.excO C hp.objs.size) := by heap_get
  exact I1.laid (t' := tk) (a := hp.objs.size + 1) (o := exo (hp.objs.size + 1) C none) (h' := (hp.push (PySem.W.kdv_tup us)).push (PySem.HandSPX.excO C hp.objs.size)) kk (Nat.le_succ _) (exo_ok hget)
theorem run_mkV {CX : CXT} {C fI : Addr} {b : Bs} {k : Nat} {fd : FuncData} {ps : List Str} {sp : Sp} {pins : List (Addr × Obj)} {σ : St} {H1 : Hp} {s1 : Shared} {Q : VK} {us zs : List Value} {ws : List V} {kw : List (Str × Value)} (T : EC X.K b C)
    (iC : PySem.W.findIn X.K (.ref C) "__init__" = some (some (.ref fI))) (tI : PySem.W.typeIn X.K (.ref fI) = some (.type "function"))
    (F1 : FnOk X.prog X.w X.K X.mg X.base CX k fI fd ps sp) (hr : Room (k + 1) X.A) (hx : Passes CX X E0) (I1 : Inv X pins σ H1 s1) (hus : us.length ≤ sizeLine)
    (hz : ∀ (sh : Shared) (a : Addr), X.K.In sh.heap → BindsTo sh fd ⟨Value.ref a :: us, kw⟩ (ps.zip (Value.ref a :: zs))) (r2 : Vals ws zs)
    (h : ∀ a, H1 a = none → sp (.ref a :: ws) (upd H1 a (exo a C none)) (fun v H2 => v = .non ∧ Q (.ref a) H2) E0) :
    wpAny (model X.prog X.w) X.A (call (.ref C) us kw) (EP X pins σ Q) X.xe s1 := by
  obtain ⟨nm, N, qn, bs, bm, hdct, sn, sub, ab, col, dd, k0, k1, k2, k3, k5, hC, hT⟩ := PySem.W.excInit_of I1.kIn T.own
  obtain ⟨hp, g, dr, tk, os⟩ := s1
  have hn : H1 (hp.objs.size + 1) = none := I1.hok.fresh (Nat.le_succ _)
  have hq := h (hp.objs.size + 1) hn
  have I2 := made_inv (C := C) us I1
  have r3 : Vals (V.ref (hp.objs.size + 1) :: ws) (Value.ref (hp.objs.size + 1) :: zs) := .cons rfl r2
  refine wpAny_call (own_call ⟨nm, qn, N, bs, hdct, sn, sub, ab, col, dd, k0, k1, k2, k3, k5, hC⟩ T.ok hT (PySem.W.looks_findIn I1.kIn iC) (fun self => PySem.W.bind_fn I1.kIn self tI) hus
    (codeAny_mono (F1.run _ X.stack _ _ ⟨Value.ref (hp.objs.size + 1) :: us, kw⟩ (Value.ref (hp.objs.size + 1) :: zs) _ _ E0 (hr.make C us kw) (I2.env0.make C us kw) (hz _ _ I2.kIn) r3 hq) fun r s' hq' => ?_))
  cases r with
  | error er => exact hx pins σ _ _ er s' I2 hq'
  | ok fl =>
    cases fl with
    | ret u =>
      obtain ⟨v, H', I3, rv, ev, q3⟩ := I2.after hq'
      subst ev
      exact ⟨rv, ⟨V.ref (hp.objs.size + 1), H', I3, rfl, q3⟩⟩
    | next => exact False.elim hq'
    | brk => exact False.elim hq'
    | cont => exact False.elim hq'
/-- C(e, ..) -/
theorem pe_mkV {CX : CXT} {x : Str} {C fI : Addr} {b : Bs} {k : Nat} {fd : FuncData} {ps : List Str} {sp : Sp} (T : EC X.K b C) (iC : PySem.W.findIn X.K (.ref C) "__init__" = some (some (.ref fI))) (tI : PySem.W.typeIn X.K (.ref fI) = some (.type "function"))
    (F1 : FnOk X.prog X.w X.K X.mg X.base CX k fI fd ps sp) (hr : Room (k + 1) X.A) (hb : Binds X.K fd ps []) (hx : Passes CX X E0) (hg : Gl X x) (hm : X.mg x = some (.ref C)) (ha : PA X (e :: es) ta)
    (hdb : (x == ("__debug__" : Str)) = false := by decide) (he : starEach (e :: es) X.env = (false, eval e X.env) :: starEach es X.env := by rfl) (hpl : (backTo pos (starEach es X.env)).any (·.1) = false := by rfl) :
    PE X (.Call (.Name x p) (e :: es) [] pos) (tMkV C sp ta) := by
  refine ⟨fun pins s σ H Q I h => ?_⟩
  refine wpAny_Call_Name_kw (ld_glob I hg hm ?_ hdb)
  refine PySem.W.callWith_K (h₀ := X.base) I.ok.mod.kin T.kC (thn (ha.run pos pins s σ H _ I h) fun us s1 ⟨vs, H1, I1, r1, hz, q1⟩ => ⟨I1.kIn, ?_⟩) he hpl
  have hus : us.length ≤ sizeLine := by
    rw [← Paired.length r1, sizeLine_eq]
    omega
  have hl : (Value.ref 0 :: us).length = ps.length := by
    have z := F1.len _ _ _ _ (q1 s1.heap.objs.size (I1.hok.fresh (Nat.le_refl _)))
    rw [← z, List.length_cons, List.length_cons, Paired.length r1]
  refine run_mkV (us := us) (kw := []) (zs := us) T iC tI F1 hr hx I1 hus (fun sh a X' => ?_) r1 q1
  have z := hb sh (Value.ref a :: us) X' (by rw [List.append_nil]; exact hl)
  rw [List.append_nil] at z
  exact z
/-- C(f = e) -/
theorem pe_mkVK {CX : CXT} {x : Str} {C fI : Addr} {b : Bs} {k : Nat} {fd : FuncData} {ps ks : List Str} {sp : Sp} {kws : List Keyword} {tk : TA} (T : EC X.K b C) (iC : PySem.W.findIn X.K (.ref C) "__init__" = some (some (.ref fI))) (tI : PySem.W.typeIn X.K (.ref fI) = some (.type "function"))
    (F1 : FnOk X.prog X.w X.K X.mg X.base CX k fI fd ps sp) (hr : Room (k + 1) X.A) (hb : ∀ (sh : Shared) (a : Addr) (zs : List Value), zs.length = ks.length → BindsTo sh fd ⟨[Value.ref a], ks.zip zs⟩ (ps.zip (Value.ref a :: zs))) (hx : Passes CX X E0) (hg : Gl X x) (hm : X.mg x = some (.ref C)) (hkw : PK X kws tk)
    (hps : ps.length = ks.length + 1) (hall : (backToKw pos (keywordEach kws X.env)).all (·.1.isSome) = true := by rfl) (hks : (backToKw pos (keywordEach kws X.env)).filterMap (·.1) = ks := by rfl) (hdb : (x == ("__debug__" : Str)) = false := by decide)
    (hpl : ((backTo pos (starEach [] X.env)).any (·.1) || (backToKw pos (keywordEach kws X.env)).any (·.1.isNone)) = false := by rfl) :
    PE X (.Call (.Name x p) [] kws pos) (tMkV C sp tk) := by
  refine ⟨fun pins s σ H Q I h => ?_⟩
  refine wpAny_Call_Name_kw (ld_glob I hg hm ?_ hdb)
  refine PySem.W.callWith_KW0 (h₀ := X.base) I.ok.mod.kin T.kC hall ?_ hpl
  refine thn (hkw.run pos pins s σ H _ I h) fun ws s2 ⟨zs, H2, I2, rz, hz, q2⟩ => ⟨I2.kIn, ?_⟩
  rw [hks]
  have hl : ws.length = ks.length := by
    have z := F1.len _ _ _ _ (q2 s2.heap.objs.size (I2.hok.fresh (Nat.le_refl _)))
    rw [List.length_cons, hps] at z
    rw [← Paired.length rz]
    omega
  exact run_mkV (us := []) (kw := ks.zip ws) (zs := ws) T iC tI F1 hr hx I2 (Nat.zero_le _) (fun sh a _ => hb sh a ws hl) rz q2
/-- C(), no __init__ of its own -/
theorem pe_mkV0 {x : Str} {C : Addr} {b : Bs} (T : EC X.K b C) (iC : PySem.W.findIn X.K (.ref C) "__init__" = some (some (.builtin b.initId))) (hg : Gl X x) (hm : X.mg x = some (.ref C))
    (hdb : (x == ("__debug__" : Str)) = false := by decide) :
    PE X (.Call (.Name x p) [] [] pos) (fun _ H Q => ∀ a, H a = none → Q (.ref a) (upd H a (exo a C none))) := by
  refine ⟨fun pins s σ H Q I h => ?_⟩
  refine wpAny_Call_Name_kw (ld_glob I hg hm ?_ hdb)
  refine PySem.W.callWith_K0 I.kIn T.kC ?_
  show wpAny _ _ (call (.ref C) []) _ _ _
  obtain ⟨nm, N, qn, bs, bm, hdct, sn, sub, ab, col, dd, k0, k1, k2, k3, k5, hC, hT⟩ := PySem.W.excInit_of I.kIn T.own
  obtain ⟨hp, g, dr, tk, os⟩ := s
  refine PySem.W.call_B T.ok.F hT hC (PySem.W.looks_findIn I.kIn iC) (Nat.zero_le _) fun h' k e1 e2 => ?_
  have hn : H (hp.objs.size + 1) = none := I.hok.fresh (Nat.le_succ _)
  exact ⟨.ref (hp.objs.size + 1), _, I.laid (t' := tk) (a := hp.objs.size + 1) k (Nat.le_succ _) (exo_ok e1), rfl, h _ hn⟩
theorem pe_xv {n : Str} (he : PE X e te) (hb : attributeBase e n X.env (eval e X.env) = eval e X.env := by rfl) : PE X (.Attribute e n pos) (tXv X.K n te) := by
  refine ⟨fun pins s σ H Q I h => ?_⟩
  refine attr_of hb (thn (he.run pins s σ H _ I h) fun u s1 hh => ?_)
  obtain ⟨x, H1, I1, rx, a, C, dx, b, fs, v, ex, T, hno, ea, ed, l, q⟩ := hh
  subst ex
  obtain rfl : u = Value.ref a := rx
  obtain ⟨t1, ho⟩ := exo_at I1.hok ea
  obtain ⟨mA, hns, hr⟩ := exd_at I1.hok ed
  obtain ⟨od, hod, hl⟩ := lookIn_ns hns
  obtain ⟨u, hu, ru⟩ := RelO.some_of (v := v) (o := mA n) (by rw [← l]; exact hr n)
  have J : PySem.W.InstAt s1.heap a { cls := .ref C, dict := some dx, data := .fields #[.ref t1, .none, .none, .none, .bool false, .none] } C (some od) := ⟨ho, rfl, rfl, hod⟩
  exact HandSPX.exc_get I1.kIn J T.ex.hg T.ex.hk T.ex.hs (PySem.W.findObj_own T.ex.hd hno rfl (by rw [hl, hu])) (handed_of ru) ⟨v, H1, I1.tok _, ru, q⟩
theorem call_isX : CallR X (.builtin "isinstance") (rIsX X.K) := by
  intro pins s σ H xs us Q I r h
  obtain ⟨a, C, od, c, u, b, rr, rfl, k, ea, hd, T, e, q⟩ := h
  obtain ⟨u1, u2, rfl, r1, r2⟩ := vals2 r
  have e2 := k.eq r2
  subst e2
  obtain rfl : u1 = Value.ref a := r1
  obtain ⟨t1, ho⟩ := exo_at I.hok ea
  have hcl : (PySem.W.clsIn X.K C).isSome = true := by
    obtain ⟨cd, hc, _⟩ := T.cd
    rw [hc]
    rfl
  have fin : ∀ tk, EP X pins σ Q (.bool rr) { s with toks := tk } := fun tk => ⟨.bl rr, H, I.tok tk, rfl, q⟩
  cases od with
  | none =>
    have J : PySem.W.InstAt s.heap a { cls := .ref C, dict := none, data := .fields #[.ref t1, .none, .none, .none, .bool false, .none] } C none := ⟨ho, rfl, rfl, trivial⟩
    exact PySem.W.kia_one (PySem.W.kitx_exc hcl T.ex.hg T.ex.hk T.ex.hs T.ex.ha T.ex.hn T.ex.ht T.ex.hm) I.kIn J e (fun z => nomatch z) fin
  | some dd =>
    obtain ⟨fs, ed⟩ := hd dd rfl
    obtain ⟨mA, hns, hr⟩ := exd_at I.hok ed
    obtain ⟨od, es, ep, hod, _⟩ := hns
    have J : PySem.W.InstAt s.heap a { cls := .ref C, dict := some dd, data := .fields #[.ref t1, .none, .none, .none, .bool false, .none] } C (some od) := ⟨ho, rfl, rfl, hod⟩
    exact PySem.W.kia_one (PySem.W.kitx_exc hcl T.ex.hg T.ex.hk T.ex.hs T.ex.ha T.ex.hn T.ex.ht T.ex.hm) I.kIn J e (fun z => nomatch z) fin
end
end L2.Tb
set_option Elab.async false
set_option linter.all false
set_option maxRecDepth 100000
set_option maxHeartbeats 4000000
namespace L2.Tb
open PySem PySem.Spec PyProof.Rows
/-! ### a def of the module that is called by its name -/
structure Cal (P : Program) (w : World) (K : PySem.W.Frag) (mg : Str → Option Value) (base : Heap) (k : Nat) (x : Str) (sp : Sp) : Prop where
  ex : ∃ (f : Addr) (fd : FuncData) (ps : List Str), FnOk P w K mg base L2.CX0 k f fd ps sp ∧ mg x = some (.ref f) ∧ PySem.W.keepIn K (.ref f) = true ∧ Binds K fd ps []
abbrev FnP (K : PySem.W.Frag) (x : Str) (st : Stmt) (f : Addr) (fd : FuncData) : Prop := FunD K x x (defArgs st) (defBody st) (defScope st) [] [] f fd
section
variable {P : Program} {w : World} {K : PySem.W.Frag} {mg : Str → Option Value} {base : Heap} {x : Str} {st : Stmt} {f : Addr} {fd : FuncData} {N ps : List Str} {k : Nat} {sp : Sp}
theorem cal_mk (F : FnP K x st f fd) (hm : mg x = some (.ref f)) (S : FnScope N ps (defScope st))
    (hb : ∀ (kV doc pm : Value) (an : Option Addr) (cdv ct : Value) (us : List Value), us.length = ps.length → bindArgs (PySem.W.fnOf x x (defArgs st) (defBody st) (defScope st) .none kV doc pm an cdv ct) ⟨us, []⟩ = pure (ps.zip us))
    (len : ∀ vs H Q E, sp vs H Q E → vs.length = ps.length)
    (hbody : ∀ (cdv : Value) (A : Around) (outer : List Env) (s : Shared) (H : Hp) (vs : List V) (Q : VK) (E : XK), Room k (A.deeper (envOfC x (defScope st) s.heap.objs.size f cdv)) → sp vs H Q E →
      ∃ t, PSs (cxOf L2.CX0 P w K mg base N x (defScope st) f cdv A outer s H E).nox (defBody st) t ∧ t { nx := fun _ H' => Q .non H', rt := Q } (start N vs) H) : Cal P w K mg base (k + 1) x sp :=
  ⟨f, fd, ps, F.ok S len fun cdv A outer s H vs Q E hr h => let ⟨t, a, b⟩ := hbody cdv A outer s H vs Q E hr h; ⟨t, a.nox, b⟩, hm, F.kp, F.bindsN hb⟩
theorem Cal.imp {sp' : Sp} (c : Cal P w K mg base k x sp) (h : ∀ vs H Q E, sp' vs H Q E → sp vs H Q E) : Cal P w K mg base k x sp' := by
  obtain ⟨f, fd, ps, F, a, b, d⟩ := c.ex
  exact ⟨f, fd, ps, F.imp h, a, b, d⟩
end
section
variable {X : Cx} {k j : Nat} {x : Str} {sp : Sp} {p pos : Pos} {e : Expr} {es : List Expr} {t : TA}
theorem pe_cal (c : Cal X.prog X.w X.K X.mg X.base k x sp) (hr : Room j X.A) (hk : k ≤ j) (hg : Gl X x) (ha : PA X (e :: es) t)
    (hdb : (x == ("__debug__" : Str)) = false := by decide) (he : starEach (e :: es) X.env = (false, eval e X.env) :: starEach es X.env := by rfl) (hpl : (backTo pos (starEach es X.env)).any (·.1) = false := by rfl) :
    PE X (.Call (.Name x p) (e :: es) [] pos) (tCall sp [] E0 t) := by
  obtain ⟨f, fd, ps, F, hm, kp, b⟩ := c.ex
  exact pe_call F (hr.mono hk) hg hm kp b .nil pass0 ha hdb he hpl
theorem pe_cal0 (c : Cal X.prog X.w X.K X.mg X.base k x sp) (hr : Room j X.A) (hk : k ≤ j) (hg : Gl X x)
    (hdb : (x == ("__debug__" : Str)) = false := by decide) : PE X (.Call (.Name x p) [] [] pos) (tCall sp [] E0 tNil) := by
  obtain ⟨f, fd, ps, F, hm, kp, b⟩ := c.ex
  exact pe_call0 F (hr.mono hk) hg hm kp b .nil pass0 hdb
end
/-! ### heaps: all but p stands -/
def SameB (p : Addr) (H H' : Hp) : Prop := ∀ b o, b ≠ p → H b = some o → H' b = some o
theorem SameB.refl (p : Addr) (H : Hp) : SameB p H H := fun _ _ _ h => h
theorem SameB.trans {p : Addr} {H H1 H2 : Hp} (a : SameB p H H1) (b : SameB p H1 H2) : SameB p H H2 := fun c o n h => b c o n (a c o n h)
theorem SameB.of {p : Addr} {H H' : Hp} (a : Same H H') : SameB p H H' := fun c o _ h => a c o h
theorem SameB.set {p : Addr} {H : Hp} {o : HO} : SameB p H (upd H p o) := fun c u n h => by rw [upd_ne n]; exact h
theorem same_new {H : Hp} {p : Addr} {o : HO} (h : H p = none) : Same H (upd H p o) := fun b u e => by rw [upd_ne (ne_of_none e h)]; exact e
theorem SameB.put {p : Addr} {H H' : Hp} {o : HO} (a : SameB p H H') : SameB p H (upd H' p o) := fun c u n h => by rw [upd_ne n]; exact a c u n h
/-! ### the purse -/
structure Purse (H : Hp) (p : Addr) : Prop where
  ex : ∃ st dg c : Int, H p = some (.lst [.int st, .int dg, .int c]) ∧ 0 ≤ st ∧ st < 2147483563 ∧ 0 ≤ dg
theorem Purse.same {H H' : Hp} {p : Addr} (h : Purse H p) (s : Same H H') : Purse H' p := by
  obtain ⟨st, dg, c, e, r⟩ := h.ex
  exact ⟨st, dg, c, s _ _ e, r⟩
theorem Purse.sameB {H H' : Hp} {p q : Addr} (h : Purse H p) (n : p ≠ q) (s : SameB q H H') : Purse H' p := by
  obtain ⟨st, dg, c, e, r⟩ := h.ex
  exact ⟨st, dg, c, s _ _ n e, r⟩
theorem divp_small {i j : Int} (h0 : 0 < j) (h1 : j < 2 ^ 200) : CDivP i j := by
  refine ⟨h0, ?_⟩
  unfold Builtin.divisionGoesByPylong
  have hb : j.natAbs.log2 < 200 := PySem.Flt.log2_lt_of (by decide) (by omega)
  have hj : ¬ (j == 0) = true := by simpa using (show j ≠ 0 by omega)
  show (decide ((if j == 0 then 0 else j.natAbs.log2 / 30 + 1) > 300) && _) = false
  rw [if_neg hj, decide_eq_false (by omega), Bool.false_and]
/-! ### odd values, alike values -/
def flatS : V → Bool
  | .non => true | .bl _ => true | .int _ => true | .str _ => true
  | _ => false
theorem flatS_B {x : V} (h : flatS x = true) : flatB x = true := by
  cases x <;> first | rfl | cases h
def Al (H : Hp) : Nat → V → V → Prop
  | 0, x, y => x = y ∧ flatS x = true
  | n + 1, x, y => (x = y ∧ flatS x = true) ∨
    (∃ a b xs ys, x = .ref a ∧ y = .ref b ∧ H a = some (.lst xs) ∧ H b = some (.lst ys) ∧ xs.length ≤ 1000 ∧ Paired (Al H n) xs ys) ∨
    (∃ a b xs ys, x = .ref a ∧ y = .ref b ∧ H a = some (.tup xs) ∧ H b = some (.tup ys) ∧ xs.length ≤ 1000 ∧ Paired (Al H n) xs ys) ∨
    (∃ (a : Addr) (kvs : List (Key × V)), x = .ref a ∧ y = .ref a ∧ H a = some (.dK kvs) ∧ ∀ kv ∈ kvs, valV kvs kv.1 = some kv.2 ∧ (flatS kv.2 = true ∨ ∃ b, kv.2 = .ref b))
theorem Al.mono {H H' : Hp} : ∀ {n : Nat} {x y : V}, (∀ b o, H b = some o → (∀ l, o = .lst l → l.length ≠ 3) → H' b = some o) → (∀ b l, H b = some (.lst l) → l.length = 3 → ∃ l', H' b = some (.lst l')) → Same H H' → Al H n x y → Al H' n x y
  | 0, _, _, _, _, _, h => h
  | n + 1, x, y, k1, k2, s, h => by
    have ih : ∀ {xs ys : List V}, Paired (Al H n) xs ys → Paired (Al H' n) xs ys := fun p => Paired.mapP p fun a b q => Al.mono k1 k2 s q
    rcases h with h | ⟨a, b, xs, ys, h1, h2, h3, h4, h5, h6⟩ | ⟨a, b, xs, ys, h1, h2, h3, h4, h5, h6⟩ | ⟨a, kvs, h1, h2, h3, h4⟩
    · exact .inl h
    · exact .inr (.inl ⟨a, b, xs, ys, h1, h2, s _ _ h3, s _ _ h4, h5, ih h6⟩)
    · exact .inr (.inr (.inl ⟨a, b, xs, ys, h1, h2, s _ _ h3, s _ _ h4, h5, ih h6⟩))
    · exact .inr (.inr (.inr ⟨a, kvs, h1, h2, s _ _ h3, h4⟩))
theorem Al.same {H H' : Hp} {n : Nat} {x y : V} (h : Al H n x y) (s : Same H H') : Al H' n x y := Al.mono (fun b o e _ => s b o e) (fun b l e _ => ⟨l, s _ _ e⟩) s h
def Od (H : Hp) : Nat → V → Prop
  | 0, v => flatS v = true
  | n + 1, v => flatS v = true ∨ (∃ a xs, v = .ref a ∧ H a = some (.lst xs) ∧ xs.length ≤ 1 ∧ ∀ x ∈ xs, Od H n x) ∨ (∃ a xs, v = .ref a ∧ H a = some (.tup xs) ∧ xs.length ≤ 3 ∧ ∀ x ∈ xs, Od H n x) ∨
    (∃ (a : Addr) (kvs : List (Key × V)), v = .ref a ∧ H a = some (.dK kvs) ∧ kvs.length ≤ 1 ∧ ∀ kv ∈ kvs, flatS kv.2 = true ∨ ∃ b, kv.2 = .ref b)
theorem Od.keep {H H' : Hp} {p : Addr} {st dg c : V} (hp : H p = some (.lst [st, dg, c])) (s : SameB p H H') : ∀ {n : Nat} {v : V}, Od H n v → Od H' n v
  | 0, _, h => h
  | n + 1, v, h => by
    rcases h with h | ⟨a, xs, h1, h2, h3, h4⟩ | ⟨a, xs, h1, h2, h3, h4⟩ | ⟨a, kvs, h1, h2, h3, h4⟩
    · exact .inl h
    · refine .inr (.inl ⟨a, xs, h1, s _ _ (fun e => ?_) h2, h3, fun x hx => (h4 x hx).keep hp s⟩)
      rw [e, hp] at h2
      cases h2
      simp at h3
    · refine .inr (.inr (.inl ⟨a, xs, h1, s _ _ (fun e => ?_) h2, h3, fun x hx => (h4 x hx).keep hp s⟩))
      rw [e, hp] at h2
      cases h2
    · refine .inr (.inr (.inr ⟨a, kvs, h1, s _ _ (fun e => ?_) h2, h3, h4⟩))
      rw [e, hp] at h2
      cases h2
theorem Od.same {H H' : Hp} (s : Same H H') : ∀ {n : Nat} {v : V}, Od H n v → Od H' n v
  | 0, _, h => h
  | n + 1, v, h => by
    rcases h with h | ⟨a, xs, h1, h2, h3, h4⟩ | ⟨a, xs, h1, h2, h3, h4⟩ | ⟨a, kvs, h1, h2, h3, h4⟩
    · exact .inl h
    · exact .inr (.inl ⟨a, xs, h1, s _ _ h2, h3, fun x hx => (h4 x hx).same s⟩)
    · exact .inr (.inr (.inl ⟨a, xs, h1, s _ _ h2, h3, fun x hx => (h4 x hx).same s⟩))
    · exact .inr (.inr (.inr ⟨a, kvs, h1, s _ _ h2, h3, h4⟩))
theorem paired_self {α : Type} {R : α → α → Prop} : ∀ {xs : List α}, (∀ x ∈ xs, R x x) → Paired R xs xs
  | [], _ => .nil
  | x :: xs, h => .cons (h x (List.mem_cons_self ..)) (paired_self fun y hy => h y (List.mem_cons_of_mem _ hy))
theorem Od.al {H : Hp} : ∀ {n : Nat} {v : V}, Od H n v → Al H n v v
  | 0, _, h => ⟨rfl, h⟩
  | n + 1, v, h => by
    rcases h with h | ⟨a, xs, h1, h2, h3, h4⟩ | ⟨a, xs, h1, h2, h3, h4⟩ | ⟨a, kvs, h1, h2, h3, h4⟩
    · exact .inl ⟨rfl, h⟩
    · exact .inr (.inl ⟨a, a, xs, xs, h1, h1, h2, h2, by omega, paired_self fun x hx => (h4 x hx).al⟩)
    · exact .inr (.inr (.inl ⟨a, a, xs, xs, h1, h1, h2, h2, by omega, paired_self fun x hx => (h4 x hx).al⟩))
    · refine .inr (.inr (.inr ⟨a, kvs, h1, h1, h2, fun kv hk => ⟨?_, h4 kv hk⟩⟩))
      match kvs, h3, hk with
      | [q], _, hk =>
        obtain rfl : kv = q := by simpa using hk
        simp [valV]
/-- x == y where both are one scalar or one dict -/
def rSelf : R2 := fun x y H Q => x = y ∧ (flatS x = true ∨ ∃ (a : Addr) (kvs : List (Key × V)), x = .ref a ∧ H a = some (.dK kvs) ∧ ∀ kv ∈ kvs, valV kvs kv.1 = some kv.2 ∧ (flatS kv.2 = true ∨ ∃ b, kv.2 = .ref b)) ∧ Q (.bl true) H
theorem op_self {X : Cx} (hu : X.A.units + 64 < cLine) : OpR X (compareOp .Eq) rSelf := by
  intro pins s σ H x y v u Q I rx ry h
  obtain ⟨rfl, h, q⟩ := h
  rcases h with h | ⟨a, kvs, rfl, ha, hk⟩
  · refine op_eq pins s σ H x x v u Q I rx ry ⟨?_, by rw [decide_eq_true rfl]; exact q⟩
    cases x <;> first | rfl | cases h
  · refine op_eqV hu pins s σ H _ _ v u Q I rx ry ⟨1, by decide, .inr ⟨a, a, kvs, kvs, rfl, rfl, ha, ha, rfl, fun p hp => ⟨p.2, (hk p hp).1, ?_⟩⟩, q⟩
    rcases (hk p hp).2 with z | ⟨b, z⟩
    · exact .inl ⟨rfl, flatS_B z⟩
    · exact .inr (.inl ⟨b, z, z⟩)
end L2.Tb
set_option Elab.async false
set_option linter.all false
set_option maxRecDepth 100000
set_option maxHeartbeats 4000000
namespace L2.Tb
open PySem PySem.Spec PyProof.Rows
/-! ### an error class with one attribute, as the law meets it -/
def spInit (K : PySem.W.Frag) (f : Str) : Sp := fun vs H Q _ => ∃ (a C : Addr) (b : Bs) (v : V), vs = [.ref a, v] ∧ EC K b C ∧ PySem.W.findIn K (.ref C) f = some none ∧ H a = some (exo a C none) ∧
  ∀ dx, H dx = none → dx ≠ a → Q .non (upd (upd H dx (exd dx [(f, v)])) a (exo a C (some dx)))
/-- at a: an error of the class at C whose attribute f is v -/
def ErAt (H : Hp) (a C : Addr) (f : Str) (v : V) : Prop := ∃ dx, H a = some (exo a C (some dx)) ∧ H dx = some (exd dx [(f, v)])
theorem ErAt.same {H H' : Hp} {a C : Addr} {f : Str} {v : V} (h : ErAt H a C f v) (s : Same H H') : ErAt H' a C f v := by
  obtain ⟨dx, h1, h2⟩ := h
  exact ⟨dx, s _ _ h1, s _ _ h2⟩
structure ErC (P : Program) (w : World) (K : PySem.W.Frag) (mg : Str → Option Value) (base : Heap) (x f : Str) (b : Bs) (C : Addr) : Prop where
  mgC : mg x = some (.ref C)
  ec : EC K b C
  no : PySem.W.findIn K (.ref C) f = some none
  init : ∃ (fI : Addr) (fd : FuncData), PySem.W.findIn K (.ref C) "__init__" = some (some (.ref fI)) ∧ PySem.W.typeIn K (.ref fI) = some (.type "function") ∧ FnOk P w K mg base L2.CX0 1 fI fd ["self", f] (spInit K f) ∧ Binds K fd ["self", f] [] ∧
    ∀ (sh : Shared) (a : Addr) (zs : List Value), zs.length = [f].length → BindsTo sh fd ⟨[Value.ref a], [f].zip zs⟩ (("self" :: [f] : List Str).zip (Value.ref a :: zs))
section
variable {P : Program} {w : World} {K : PySem.W.Frag} {mg : Str → Option Value} {base : Heap} {f : Str} {fI : Addr} {fd : FuncData} {qual : Str} {params : Arguments} {scope : Scope} {p1 p2 p3 p4 : Pos}
theorem init_ok (F : FunD K "__init__" qual params [.Assign [.Attribute (.Name "self" p1) f p2] (.Name f p3) p4] scope [] [] fI fd) (S : FnScope ["self", f] ["self", f] scope)
    (h0 : scope.names.lookup ("self" : Str) = some .local) (h1 : scope.names.lookup f = some .local) (hd : (f == ("__debug__" : Str)) = false) (hcd : (f == ("__classdict__" : Str)) = false) : FnOk P w K mg base L2.CX0 1 fI fd ["self", f] (spInit K f) := by
  refine F.ok S (fun vs H Q E h => ?_) (fun cdv A outer s H vs Q E hr h => ?_)
  · obtain ⟨a, C, b, v, rfl, _⟩ := h
    rfl
  · obtain ⟨a, C, b, v, rfl, T, hno, ha, k⟩ := h
    refine ⟨_, pss_one (ps_osv (pe_var (i := 0) rfl (.inl h0)) (pe_var (i := 1) rfl (.inl h1) hd hcd)), ?_⟩
    exact ⟨_, rfl, _, rfl, a, C, b, rfl, T, hno, ha, fun dx n ne => k dx n ne⟩
end
/-- a reading, weakened behind -/
def tUp (te : TE) : TE := fun σ H Q => ∃ Q' : VK, te σ H Q' ∧ ∀ v H1, Q' v H1 → Q v H1
theorem pe_up {X : Cx} {e : Expr} {te : TE} (he : PE X e te) : PE X e (tUp te) :=
  ⟨fun pins s σ H Q I h => let ⟨Q', h1, h2⟩ := h; thn (he.run pins s σ H Q' I h1) fun u s1 ⟨v, H1, I1, r, q⟩ => ⟨v, H1, I1, r, h2 v H1 q⟩⟩
/-- the reading of an error made by place or by name -/
def tEr (C : Addr) (f : Str) (te : TE) : TE := fun σ H Q => te σ H fun v H1 => ∀ a H2, Same H1 H2 → H1 a = none → ErAt H2 a C f v → Q (.ref a) H2
section
variable {X : Cx} {x f : Str} {b : Bs} {C : Addr} {p pos : Pos} {e : Expr} {te : TE}
theorem er_run {v : V} {H1 : Hp} {Q : VK} (T : EC X.K b C) (hno : PySem.W.findIn X.K (.ref C) f = some none) (q : ∀ a H2, Same H1 H2 → H1 a = none → ErAt H2 a C f v → Q (.ref a) H2) (a : Addr) (n : H1 a = none) :
    spInit X.K f [.ref a, v] (upd H1 a (exo a C none)) (fun u H2 => u = .non ∧ Q (.ref a) H2) E0 := by
  refine ⟨a, C, b, v, rfl, T, hno, upd_same, fun dx nd ne => ⟨rfl, q a _ (fun c o h => ?_) n ⟨dx, upd_same, by rw [upd_ne ne, upd_same]⟩⟩⟩
  have hca : c ≠ a := ne_of_none h n
  have hcd : c ≠ dx := fun z => by
    rw [z] at h
    rw [upd_ne ne] at nd
    rw [nd] at h
    cases h
  rw [upd_ne hca, upd_ne hcd, upd_ne hca]
  exact h
theorem pe_er (E : ErC X.prog X.w X.K X.mg X.base x f b C) {j : Nat} (hr : Room j X.A) (hj : 2 ≤ j) (hg : Gl X x) (he : PE X e te) (hdb : (x == ("__debug__" : Str)) = false := by decide) (hs : starEach [e] X.env = (false, eval e X.env) :: starEach [] X.env := by rfl) :
    PE X (.Call (.Name x p) [e] [] pos) (tEr C f te) := by
  obtain ⟨fI, fd, h1, h2, h3, h4, _⟩ := E.init
  exact ⟨fun pins s σ H Q I h => (pe_mkV E.ec h1 h2 h3 (hr.mono hj) h4 pass0 hg E.mgC (pa_cons (pe_up he) pa_nil hs) hdb hs (by rfl)).run pins s σ H Q I ⟨_, h, fun v H1 q => ⟨Nat.le_of_ble_eq_true rfl, fun a n => er_run E.ec E.no q a n⟩⟩⟩
theorem pe_erK (E : ErC X.prog X.w X.K X.mg X.base x f b C) {j : Nat} {kpos : Pos} (hr : Room j X.A) (hj : 2 ≤ j) (hg : Gl X x) (he : PE X e te) (hdb : (x == ("__debug__" : Str)) = false := by decide)
    (hall : (backToKw pos (keywordEach [⟨some f, e, kpos⟩] X.env)).all (·.1.isSome) = true := by rfl) (hks : (backToKw pos (keywordEach [⟨some f, e, kpos⟩] X.env)).filterMap (·.1) = [f] := by rfl)
    (hpl : ((backTo pos (starEach [] X.env)).any (·.1) || (backToKw pos (keywordEach [⟨some f, e, kpos⟩] X.env)).any (·.1.isNone)) = false := by rfl) :
    PE X (.Call (.Name x p) [] [⟨some f, e, kpos⟩] pos) (tEr C f te) := by
  obtain ⟨fI, fd, h1, h2, h3, h4, h5⟩ := E.init
  exact ⟨fun pins s σ H Q I h => (pe_mkVK (ks := [f]) E.ec h1 h2 h3 (hr.mono hj) h5 pass0 hg E.mgC (pk_cons (pe_up he) pk_nil) rfl hall hks hdb hpl).run pins s σ H Q I ⟨_, h, fun v H1 q => ⟨Nat.le_of_ble_eq_true rfl, fun a n => er_run E.ec E.no q a n⟩⟩⟩
end
end L2.Tb
set_option Elab.async false
set_option linter.all false
set_option maxRecDepth 100000
set_option maxHeartbeats 4000000
namespace L2.Tb
open PySem PySem.Spec PyProof.Rows
/-! ### a def's promise at one place of the stack (for what hangs on the stack: repr) -/
section
variable {P : Program} {w : World} {K : PySem.W.Frag} {mg : Str → Option Value} {base : Heap} {f : Addr} {fd : FuncData} {ps : List Str} {sp : Sp} {A : Around}
def RunsAt (P : Program) (w : World) (K : PySem.W.Frag) (mg : Str → Option Value) (base : Heap) (f : Addr) (fd : FuncData) (ps : List Str) (sp : Sp) (A : Around) : Prop :=
  ∀ (outer : List Env) (s : Shared) (H : Hp) (args : Args) (us : List Value) (vs : List V) (Q : VK) (E : XK), Env0 P w K mg base A outer s H → BindsTo s fd args (ps.zip us) → Vals vs us → vs.length = ps.length → sp vs H Q E →
    codeAny (model P w) A (.call (.ref f) args) (CR L2.CX0 outer P w H s Q E) s
/-- how a body's end becomes the call's end -/
theorem end_call {s s' : Shared} {H : Hp} {Q : VK} {E : XK} {fl : Flow} {N : List Str} {x : Str} {sc : Scope} {cdv : Value} {outer : List Env}
    (h : SP (cxOf L2.CX0 P w K mg base N x sc f cdv A outer s H E) [] { nx := fun _ H' => Q .non H', rt := Q } fl s') : CR L2.CX0 outer P w H s Q E (.ok (.ret (match (generalizing := false) fl with | .ret v => v | _ => .none))) s' := by
  match fl, h with
  | .ret u, ⟨v, σ', H', J, rv, q⟩ => exact ⟨v, H', J.os, J.bare, J.base, J.hok, rv, q⟩
  | .next, ⟨σ', H', J, q⟩ => exact ⟨.non, H', J.os, J.bare, J.base, J.hok, rfl, q⟩
  | .brk, ⟨_, _, _, q⟩ => exact q.elim
  | .cont, ⟨_, _, _, q⟩ => exact q.elim
theorem runs_body {x : Str} {st : Stmt} {N : List Str} {k : Nat} (F : FnP K x st f fd) (S : FnScope N ps (defScope st)) (hr : Room (k + 1) A)
    (hbody : ∀ (cdv : Value) (outer : List Env) (s : Shared) (H : Hp) (vs : List V) (Q : VK) (E : XK), Room k (A.deeper (envOfC x (defScope st) s.heap.objs.size f cdv)) → sp vs H Q E →
      ∃ t, PSs (cxOf L2.CX0 P w K mg base N x (defScope st) f cdv A outer s H E) (defBody st) t ∧ t { nx := fun _ H' => Q .non H', rt := Q } (start N vs) H) : RunsAt P w K mg base f fd ps sp A := by
  obtain ⟨oc, od, dV, kV, doc, pm, an, cdv, ct, osl, rfl, lk, hcd, _, _⟩ := F.ex
  intro outer s H args us vs Q E e0 hb r hl hsp
  have here : ∀ {b o}, base.get? b = some o → s.heap.get? b = some o := fun e => (e0.bs _ _ e).1
  have KX : K.In s.heap := e0.mod.kin.keeps fun _ _ e => here e
  obtain ⟨t, ht, hq⟩ := hbody cdv outer s H vs Q E (hr.deeper _) hsp
  refine codeAny_call_function hr.depth (KX _ _ lk) rfl S.co S.gen rfl (PySem.W.codeRec_of KX hcd) (hb _ _ _ _ (wpAny_newFunctionEnv_cells S.kind (fun y hy => ?_) fun env he s1 i => ?_))
  · exact (S.par y.1 (List.of_mem_zip hy).1).imp_right fun q => ⟨q, PySem.W.cellsFrom_some _ _ _ (.inl q)⟩
  · rw [he]
    rw [he] at i
    exact ⟨(e0.mod.nolimit.keeps fun _ _ e => here e).keeps i.toInCall.keep, codeAny_func (wpAny_mono (ht.run [] s1 _ H _ (inv_start S hr.hd e0 hl r i) hq) (fun fl s' h => end_call h) fun _ _ h => h)⟩
end
section
variable {X : Cx} {f : Addr} {fd : FuncData} {ps : List Str} {sp : Sp} {x : Str} {p pos : Pos}
/-- x(), x a def without parameters that runs here -/
theorem pe_at0 (R : RunsAt X.prog X.w X.K X.mg X.base f fd [] sp X.A) (hg : Gl X x) (hm : X.mg x = some (.ref f)) (hk : PySem.W.keepIn X.K (.ref f) = true) (hb : ∀ s : Shared, X.K.In s.heap → BindsTo s fd ⟨[], []⟩ []) (hdb : (x == ("__debug__" : Str)) = false := by decide) :
    PE X (.Call (.Name x p) [] [] pos) (fun _ H Q => sp [] H Q E0) := by
  refine ⟨fun pins s σ H Q I h => wpAny_Call_Name_kw (ld_glob I hg hm (PySem.W.callWith_K0 I.kIn hk (wpAny_call (codeAny_mono (R X.stack s H ⟨[], []⟩ [] [] Q E0 I.env0 (hb s I.kIn) .nil rfl h) fun r s' hq => ?_))) hdb)⟩
  match r, hq with
  | .error e, hq => exact pass0 pins σ H s e s' I hq
  | .ok (.ret u), hq => exact I.after hq
end
section
variable {X : Cx}
def rReprD (K : PySem.W.Frag) : List V → Hp → VK → Prop := fun vs H Q => ∃ (a : Addr) (d : PyData), vs = [.ref a] ∧ Dp K H (.ref a) d ∧ d.showable = true ∧ d.hasDict = false ∧ d.depth ≤ 60 ∧ d.shown.length ≤ sizeLine ∧ Q (.str d.shown) H
theorem call_reprD (hg : X.A.guards = some []) (hu : X.A.units + 64 < cLine) : CallR X (.builtin "repr") (rReprD X.K) := by
  intro pins s σ H vs us Q I r h
  obtain ⟨a, d, rfl, hd, h1, h2, h3, h4, q⟩ := h
  rw [Vals.ref1 r]
  obtain ⟨as, rr⟩ := Dp.reads I d (.ref a) (.ref a) hd rfl
  exact repr_of_reads' rr h1 (fun z => by rw [h2] at z; cases z) hg (by omega) (fun _ _ e => e) (fun h' u tk hk => ⟨.str d.shown, H, I.kept hk, ⟨u, rfl⟩, q⟩) h4
end
/-! ### the end, at the place of the law's call -/
theorem law_at {P : Program} {w : World} {K : PySem.W.Frag} {mg mb : Str → Option Value} {fa a : Addr} {fd : FuncData} {x : Str} {sp : Sp} {s1 : Shared} {vs : List Value} {ns : List Int} (KX : K.In s1.heap) (hns : s1.heap.Ns mainGlobals mg) (hb : s1.heap.Ns builtinsNs mb)
    (hbb : ∀ x : Str, x ≠ "__name__" → mb x = bootBuiltins x) (hlim : s1.heap.NoLimit) (hg : s1.gens = #[]) (ha : s1.heap.get? a = some { cls := .type "list", data := .seq vs.toArray }) (hi : IntsAre vs ns) (hl : ns.length ≤ sizeLine)
    (R : ∀ base : Heap, K.In base → base.Ns mainGlobals mg → RunsAt P w K mg base fa fd [x] sp callerA) (hbind : ∀ (s : Shared) (u : Value), BindsTo s fd ⟨[u], []⟩ [(x, u)])
    (hsp : ∀ H : Hp, SqL K H a (ns.map V.int) → (∀ b o, H b = some o → ∃ u xs, o = .frz u (.lst xs)) → sp [.ref a] H (fun v _ => v = .bl true) fun _ _ _ => False) :
    codeAny (model P w) callerA (.call (.ref fa) ⟨[.ref a], []⟩) (fun r s' => r = .ok (.ret (.bool true)) ∧ OldK s1.heap s'.heap ∧ s'.os = s1.os ∧ AllBare s'.gens) s1 := by
  let ob : Obj := { cls := .type "list", data := .seq vs.toArray }
  let H : Hp := fun b => if b = a ∧ K.lookup a = none then some (.frz ob (.lst (ns.map V.int))) else none
  have hH : ∀ b o, H b = some o → b = a ∧ K.lookup a = none ∧ o = .frz ob (.lst (ns.map V.int)) := fun b o e => by
    by_cases c : b = a ∧ K.lookup a = none
    · have e' := (if_pos c).symm.trans e
      cases e'
      exact ⟨c.1, c.2, rfl⟩
    · have e' := (if_neg c).symm.trans e
      cases e'
  have free : ∀ b o, s1.heap.get? b = some o → (b = a → (K.lookup a).isSome = true ∨ ∃ es ep, o.data = .dict es ep) → H b = none := fun b o e c => by
    cases q : H b with
    | none => rfl
    | some u =>
      obtain ⟨rfl, hk, _⟩ := hH b u q
      rcases c rfl with z | ⟨es, ep, z⟩
      · rw [hk] at z
        cases z
      · rw [ha] at e
        cases e
        cases z
  have ns1 : ∀ {b : Addr} {m : Str → Option Value}, s1.heap.Ns b m → (hidT s1.heap H).Ns b m := fun {b m} ⟨o, es, ep, e, d, r⟩ => ⟨o, es, ep, hidT_get e (free b o e fun _ => .inr ⟨es, ep, d⟩), d, r⟩
  have kin : K.In (hidT s1.heap H) := fun b o e => hidT_get (KX b o e) (free b o (KX b o e) fun z => .inl (by rw [← z, e]; rfl))
  have rv := vals_ints hi
  have sq : SqL K H a (ns.map V.int) := by
    cases hk : K.lookup a with
    | none => exact .inl (.inr ⟨ob, if_pos ⟨rfl, hk⟩⟩)
    | some o =>
      have e := KX a o hk
      rw [ha] at e
      cases e
      exact .inr ⟨_, vs.toArray, _, hk, rfl, rfl, rfl, by rw [List.size_toArray, hi.length]; exact hl, by simpa using rv⟩
  have hok : HOk P w H s1.heap := fun b u z => by
    obtain ⟨rfl, _, rfl⟩ := hH b u z
    exact ⟨ha, by rw [List.length_map]; exact hl, vs, _, rv, ha⟩
  obtain ⟨mc, l1, l2⟩ := hlim
  have e0 : Env0 P w K mg (hidT s1.heap H) callerA [] s1 H := ⟨rfl, ⟨kin, ns1 hns, ⟨mb, ns1 hb, hbb⟩, ⟨mc, ns1 l1, l2⟩⟩, fun _ _ e => of_hidT e, Nat.le_of_eq (hidT_size _ _), trivial, fun b hb => (nomatch hb), hok, .of_eq hg⟩
  refine codeAny_mono (R _ kin (ns1 hns) [] s1 H _ [.ref a] [.ref a] (fun v _ => v = .bl true) (fun _ _ _ => False) e0 (hbind s1 (.ref a)) (.cons rfl .nil) rfl (hsp H sq fun b o e => ⟨_, _, (hH b o e).2.2⟩)) fun r s' h => ?_
  match r, h with
  | .error e, h => exact h.elim
  | .ok (.ret u), ⟨v, H', os, bare, un, hok', r', q⟩ =>
    subst q
    obtain rfl : u = Value.bool true := r'
    refine ⟨rfl, OldK.of_keep fun b o e => ?_, os, bare⟩
    cases z : H b with
    | none => exact un.keep b o e z (fun z => nomatch z) (fun z => nomatch z)
    | some o2 =>
      obtain ⟨rfl, _, rfl⟩ := hH b o2 z
      rw [ha] at e
      cases e
      exact (hok' b _ (un.frzs b ob _ z)).1
theorem walk_at {l : PySem.W.OpenLaw} {n : Nat} {q : Program} {loose : List Str} {XP : (Str → Option Value) → Heap → Prop} {YP : World → Heap → Prop} {d : DefRec} {x : Str} (hn : l.most = some n) (hn2 : n ≤ sizeLine) (hdf : d.params.defaults = [])
    (F : ∀ (w : World) (mg : Str → Option Value) (fa : Addr) (h : Heap), YP w h → h.Ns mainGlobals mg → mg d.name = some (.ref fa) → ∃ (K : PySem.W.Frag) (fd : FuncData) (sp : Sp), K.In h ∧ (∀ (s : Shared) (u : Value), BindsTo s fd ⟨[u], []⟩ [(x, u)]) ∧
      (∀ (H : Hp) (a : Addr) (ns : List Int), ns.length ≤ n → (∀ z ∈ ns, Builtin.Int.intBits z ≤ 1048576) → SqL K H a (ns.map V.int) → sp [.ref a] H (fun v _ => v = .bl true) fun _ _ _ => False) ∧
      ∀ base : Heap, K.In base → base.Ns mainGlobals mg → RunsAt l.prog w K mg base fa fd [x] sp callerA) :
    PySem.W.WalkO q loose XP YP l.row.toRowW d [] (fun f vs => PySem.call f vs) := by
  refine Att.attach_callB hn hdf fun w s0 s1 mg mb fa o pm cd doc a vs ns G Y ho hd hcd hmg hobj hints hlen hbits hg => ?_
  obtain ⟨K, fd, sp, KX, hb, hsp, R⟩ := F w mg fa _ Y G.T.g hmg
  exact law_at KX G.T.g G.T.b G.T.builtins G.T.nolimit hg hobj hints (Nat.le_trans hlen hn2) R hb fun H sq _ => hsp H a ns hlen hbits sq
end L2.Tb
set_option Elab.async false
set_option linter.all false
set_option maxRecDepth 100000
set_option maxHeartbeats 4000000
namespace L2.Tb
open PySem PySem.Spec PyProof.Rows
section
variable {X : Cx} {x f : Str} {b : Bs} {C : Addr} {p pos : Pos} {e : Expr} {te : TE}
/-- the reading of an error that is made to be raised -/
def tErR (C : Addr) (f : Str) (te : TE) : St → Hp → XK → Prop := fun σ H Q => te σ H fun v H1 => ∀ d H', Same H1 H' → H1 d = none → H' d = some (.xd [(f, v)]) → Q (.ref C) (some d) H'
theorem pmk_er (E : ErC X.prog X.w X.K X.mg X.base x f b C) (ty : PySem.W.typeIn X.K (.ref C) = some (.type "type")) {j : Nat} (hr : Room j X.A) (hj : 2 ≤ j) (hg : Gl X x) (he : PE X e te) (hdb : (x == ("__debug__" : Str)) = false := by decide)
    (hs : starEach [e] X.env = (false, eval e X.env) :: starEach [] X.env := by rfl) (hpl : (backTo pos (starEach [] X.env)).any (·.1) = false := by rfl) : PMk X (.Call (.Name x p) [e] [] pos) (tErR C f te) := by
  intro pins s σ H Q I h
  obtain ⟨fI, fd, h1, h2, F1, hb, _⟩ := E.init
  have ha : PA X [e] (tCons (tUp te) tNil) := pa_cons (pe_up he) pa_nil hs
  refine wpAny_Call_Name_kw (ld_glob I hg E.mgC ?_ hdb)
  refine PySem.W.callWith_K (h₀ := X.base) I.ok.mod.kin E.ec.kC (thn (ha.run pos pins s σ H (fun vs H1 => ∃ v, vs = [v] ∧ ∀ d H', Same H1 H' → H1 d = none → H' d = some (.xd [(f, v)]) → Q (.ref C) (some d) H') I ⟨_, h, fun v H1 q => ⟨v, rfl, q⟩⟩) fun us s1 hh => ?_) hs hpl
  obtain ⟨vs, H1, I1, r1, v, rfl, q1⟩ := hh
  refine ⟨I1.kIn, ?_⟩
  show wpAny _ _ (call (.ref C) us) _ _ _
  obtain ⟨nm, N, qn, bs, bm, hdct, sn, sub, ab, col, dd, k0, k1, k2, k3, k5, hC, hT⟩ := PySem.W.excInit_of I1.kIn E.ec.own
  obtain ⟨hp, g, dr, tk, os⟩ := s1
  have hn : H1 (hp.objs.size + 1) = none := I1.hok.fresh (Nat.le_succ _)
  have keep : ∀ c o, hp.get? c = some o → (laidH hp C us).get? c = some o := fun c o q => Heap.get?_push_of_some _ (Heap.get?_push_of_some _ q)
  have hus : us.length ≤ sizeLine := by
    rw [← Paired.length r1]
    exact Nat.le_of_ble_eq_true rfl
  have hl : (Value.ref (hp.objs.size + 1) :: us).length = (["self", f] : List Str).length := by
    rw [List.length_cons, ← Paired.length r1]
    rfl
  have I2 := made_inv (C := C) us I1
  have bind : BindsTo ⟨(hp.push (PySem.W.kdv_tup us)).push (PySem.HandSPX.excO C hp.objs.size), g, dr, tk, os⟩ fd ⟨Value.ref (hp.objs.size + 1) :: us, []⟩ ((["self", f] : List Str).zip (Value.ref (hp.objs.size + 1) :: us)) := by
    have z := hb _ (Value.ref (hp.objs.size + 1) :: us) I2.kIn (by rw [List.append_nil]; exact hl)
    rw [List.append_nil] at z
    exact z
  refine wpAny_call (own_call ⟨nm, qn, N, bs, hdct, sn, sub, ab, col, dd, k0, k1, k2, k3, k5, hC⟩ E.ec.ok hT (PySem.W.looks_findIn I1.kIn h1) (fun self => PySem.W.bind_fn I1.kIn self h2) hus
    (codeAny_mono (F1.run _ X.stack _ _ ⟨Value.ref (hp.objs.size + 1) :: us, []⟩ (Value.ref (hp.objs.size + 1) :: us) [V.ref (hp.objs.size + 1), v]
      (fun u H2 => u = .non ∧ ∃ d, H2 (hp.objs.size + 1) = some (exo (hp.objs.size + 1) C (some d)) ∧ H2 d = some (exd d [(f, v)]) ∧ H1 d = none ∧ Q (.ref C) (some d) (upd (del H2 (hp.objs.size + 1)) d (.xd [(f, v)]))) E0 ((hr.mono hj).make C us []) (I2.env0.make C us []) bind (.cons rfl r1) ?_) fun r s' hq => ?_))
  · refine ⟨_, C, b, v, rfl, E.ec, E.no, upd_same, fun dx nd ne => ⟨rfl, dx, upd_same, by rw [upd_ne ne, upd_same], ?_, q1 dx _ (fun c o q => ?_) ?_ upd_same⟩⟩
    · rw [upd_ne ne] at nd
      exact nd
    · have hca : c ≠ hp.objs.size + 1 := ne_of_none q hn
      have hcd : c ≠ dx := fun z => by
        rw [z] at q
        rw [upd_ne ne] at nd
        rw [nd] at q
        cases q
      rw [upd_ne hcd, del_ne hca, upd_ne hca, upd_ne hcd, upd_ne hca]
      exact q
    · rw [upd_ne ne] at nd
      exact nd
  · match r, hq with
    | .error er, hq => exact hq.elim
    | .ok (.ret u), ⟨w, H2, os2, bare2, un2, hok2, rv, ev, d, ea, ed, hd1, q2⟩ =>
      subst ev
      obtain ⟨h2, g2, d2, t2, os'⟩ := s'
      exact ⟨rv, mk_end (raises_own E.ec.ex.hs ty) I1 (Nat.le_succ _) keep un2 hok2 os2 bare2 ea ed hd1 q2⟩
end
end L2.Tb
set_option Elab.async false
set_option linter.all false
set_option maxRecDepth 100000
set_option maxHeartbeats 4000000
/-! an object of an own class: str(x) by its __str__, x == y by its __eq__ (any outcome) -/
namespace L2.Tb
open PySem PySem.Spec PyProof.Rows
section
variable {X : Cx} {C f : Addr} {fd : FuncData} {ps : List Str} {sp : Sp} {k : Nat}
theorem relV_str {z : Str} {u : Value} (r : RelV (.str z) u) : ∃ t, u = .str z t := r
def rStrOwn (C : Addr) (sp : Sp) : List V → Hp → VK → Prop := fun xs H Q => ∃ (a dx : Addr) (fs : List (Str × V)), xs = [.ref a] ∧ H a = some (.ins C dx fs) ∧ sp [.ref a] H (fun v H' => ∃ z, v = .str z ∧ Q (.str z) H') E0
theorem call_strOwn (F : FnOk X.prog X.w X.K X.mg X.base L2.CX0 k f fd ps sp) (hr : Room (k + 2) X.A) (hs : PySem.W.findIn X.K (.ref C) "__str__" = some (some (.ref f))) (hf : PySem.W.isFn X.K (.ref f) = true) (hb : Binds X.K fd ps []) : CallR X (.type "str") (rStrOwn C sp) := by
  intro pins s σ H xs us Q I r h
  obtain ⟨a, dx, fs, rfl, ea, h⟩ := h
  rw [Vals.ref1 r]
  obtain ⟨mA, O, _⟩ := ins_get I.hok ea
  obtain ⟨od, J, _⟩ := O.look
  have r2 : Room k X.A.in1.in1 := hr.in1.in1
  have hl := F.len _ _ _ _ h
  refine PySem.W.kso_call (hr.in1.in1.units0) I.kIn J hs hf (wpAny_call (codeAny_mono (F.run X.A.in1.in1 X.stack s H ⟨[.ref a], []⟩ [.ref a] [.ref a] _ E0 r2 I.env0.in1.in1 (by
    have z := hb s [.ref a] I.kIn (by simpa using hl)
    simpa using z) (.cons rfl .nil) h) fun r s' hq => ?_))
  match r, hq with
  | .error e, hq => exact hq.elim
  | .ok (.ret u), hq =>
    obtain ⟨v, H', I', rv, z, ev, q⟩ := I.after hq
    rw [ev] at rv
    obtain ⟨t, rfl⟩ := relV_str rv
    exact ⟨.str z, H', I', ⟨t, rfl⟩, q⟩
def rOwnEq (K : PySem.W.Frag) (C : Addr) (sp : Sp) : R2 := fun x y H Q => ∃ (a dx : Addr) (fs : List (Str × V)) (t : Value), x = .ref a ∧ H a = some (.ins C dx fs) ∧ TyX K H y t ∧ PySem.W.notFirst K C t = true ∧ sp [.ref a, y] H Q E0
theorem cmp_back {Q : Value → Shared → Prop} {u : Value} {s' : Shared} {v : V} (r : RelV v u) (q : Q u s') : PySem.W.CmpBack Q u s' := by
  cases u <;> first | exact q | (cases v <;> first | (obtain ⟨t, e⟩ := r; cases e; done) | (cases r; done))
theorem op_ownEq (F : FnOk X.prog X.w X.K X.mg X.base L2.CX0 k f fd ps sp) (hr : Room k X.A) (hs : PySem.W.findIn X.K (.ref C) "__eq__" = some (some (.ref f))) (hf : PySem.W.isFn X.K (.ref f) = true) (hb : Binds X.K fd ps []) : OpR X (compareOp .Eq) (rOwnEq X.K C sp) := by
  intro pins s σ H x y v u Q I rx ry h
  obtain ⟨a, dx, fs, t, rfl, ea, ty, nf, h⟩ := h
  obtain rfl : v = Value.ref a := rx
  obtain ⟨mA, O, _⟩ := ins_get I.hok ea
  obtain ⟨od, J, _⟩ := O.look
  obtain ⟨m, hF⟩ := I.fr
  obtain ⟨Pt, kt, pt, _⟩ := kit_of I ry ty
  have hl := F.len _ _ _ _ h
  refine PySem.W.cmp_K (op := .Eq) (tb := t) hr.units0 hF I.ok.mod.kin J (kt.ty _ _ I.kIn pt) nf hs hf (wpAny_call (codeAny_mono (F.run X.A X.stack s H ⟨[.ref a, u], []⟩ [.ref a, u] [.ref a, y] _ E0 hr I.env0 (by
    have z := hb s [.ref a, u] I.kIn (by simpa using hl)
    simpa using z) (.cons rfl (.cons ry .nil)) h) fun r s' hq => ?_))
  match r, hq with
  | .error e, hq => exact hq.elim
  | .ok (.ret u2), hq =>
    obtain ⟨v2, H', I', rv, q⟩ := I.after hq
    exact cmp_back rv ⟨v2, H', I', rv, q⟩
end
end L2.Tb
set_option Elab.async false
set_option linter.all false
set_option maxRecDepth 100000
set_option maxHeartbeats 4000000
/-! x != y where x's class has an __eq__ of its own and no __ne__ -/
namespace L2.Tb
open PySem PySem.Spec PyProof.Rows
section
variable {prog : Program} {w : World} {A : Around} {E : Value → Shared → Prop} {s : Shared} {K : PySem.W.Frag} {x C f : Addr} {ox : Obj} {od : Option Obj} {b : Value}
theorem ne_body {Q : Fin → Shared → Prop} (hu : A.units < cLine) (X : K.In s.heap) (I : PySem.W.InstAt s.heap x ox C od) (he : PySem.W.findIn K (.ref C) "__eq__" = some (some (.ref f))) (hf : PySem.W.isFn K (.ref f) = true)
    (h : wpAny (model prog w) A (call (.ref f) [.ref x, b]) (fun v s' => ∃ c, v = .bool c ∧ Q (.done (.ret (.bool (!c)))) s') E s) : wpAny (model prog w) A (Builtin.«object.__ne__» ⟨[.ref x, b], []⟩) Q E s := by
  unfold Builtin.«object.__ne__»
  refine wpAny_bind (wpAny_of_eq (show _ = (pure (Value.ref x, [b]) : Sem (Value × List Value)) from rfl) ?_)
  refine wpAny_bind (wpAny_cRoomFor hu (wpAny_bind (PySem.W.ifBound_K X I he hf (wpAny_mono h (fun v s' hv => ?_) fun _ _ e => e))))
  obtain ⟨c, rfl, q⟩ := hv
  exact wpAny_bind (wpAny_truthy_bool (wpAny_pure q))
theorem ne_call {Q : Value → Shared → Prop} (hu : A.in1.units < cLine) (X : K.In s.heap) (I : PySem.W.InstAt s.heap x ox C od) (hm : PySem.W.mroIn K C (.type "object") = some true) (he : PySem.W.findIn K (.ref C) "__eq__" = some (some (.ref f))) (hf : PySem.W.isFn K (.ref f) = true)
    (h : wpAny (model prog w) A.in1 (call (.ref f) [.ref x, b]) (fun v s' => ∃ c, v = .bool c ∧ Q (.bool (!c)) s') E s) : wpAny (model prog w) A (call (.builtin "object.__ne__") [.ref x, b]) Q E s :=
  wpAny_call (codeAny_call_builtin F.cmp_object.ne.plain F.cmpEntry_ne (PySem.W.check_slot F.cmpKind_ne F.cmpSplit_ne (I.type.andThen (PySem.W.looks_mroIn X hm)) (F.cmpArgs_ne _ _) (ne_body hu X I he hf h)))
theorem bound_ne {args : List Value} {Q : Option Value → Shared → Prop} (X : K.In s.heap) (I : PySem.W.InstAt s.heap x ox C od) (hs : PySem.W.findIn K (.ref C) "__ne__" = some (some (.builtin "object.__ne__")))
    (h : wpAny (model prog w) A (call (.builtin "object.__ne__") (.ref x :: args)) (fun v => Q (some v)) E s) : wpAny (model prog w) A (callSpecialIfBound? (.ref x) "__ne__" args) Q E s := by
  have run : wpAny (model prog w) A (call (.builtin "object.__ne__") ([.ref x] ++ args) >>= fun v => pure (some v)) Q E s := wpAny_bind (wpAny_mono h (fun _ _ q => wpAny_pure q) fun _ _ q => q)
  simp only [callSpecialIfBound?, bindSpecialIfBound?]
  refine wpAny_holding (wpAny_bind (wpAny_bind (wpAny_bind (I.type.here ((PySem.W.looks_findIn X hs).here (wpAny_bind (wpAny_askSetting (wpAny_ite ?_))))))))
  split
  · exact wpAny_bind (wpAny_of_eq (F.cmp_object.ne.bind _) (wpAny_pure (by exact run)))
  · exact wpAny_tryCatch (wpAny_bind (wpAny_of_eq (F.cmp_object.ne.bind _) (wpAny_pure (by exact run))))
theorem rc_ne {Q : Value → Shared → Prop} {tb : Value} (hu : A.units + 2 < cLine) (X : K.In s.heap) (I : PySem.W.InstAt s.heap x ox C od) (hb : PySem.W.Looks (model prog w) s.heap (typeOf b) tb) (hn : PySem.W.notFirst K C tb = true) (hm : PySem.W.mroIn K C (.type "object") = some true)
    (hs : PySem.W.findIn K (.ref C) "__ne__" = some (some (.builtin "object.__ne__"))) (he : PySem.W.findIn K (.ref C) "__eq__" = some (some (.ref f))) (hf : PySem.W.isFn K (.ref f) = true)
    (h : wpAny (model prog w) A.in1 (call (.ref f) [.ref x, b]) (fun v s' => ∃ c, v = .bool c ∧ Q (.bool (!c)) s') E s) : wpAny (model prog w) A (richCompare .NotEq (.ref x) b) Q E s := by
  have one : wpAny (model prog w) A (tryCompare (.ref x) (cmpInfo .NotEq).2.1 b) (fun r s' => ∃ c, r = some (.bool (!c)) ∧ Q (.bool (!c)) s') E s := by
    unfold tryCompare
    refine wpAny_bind (bound_ne X I hs (ne_call (show A.units + 1 < cLine by omega) X I hm he hf (wpAny_mono h (fun v s' hv => ?_) fun _ _ e => e)))
    obtain ⟨c, e, q⟩ := hv
    exact ⟨c, e, wpAny_pure ⟨c, rfl, q⟩⟩
  unfold richCompare
  simp only [oneThing_ref]
  refine wpAny_holding (wpAny_bind (wpAny_cRoomFor (show A.units < cLine by omega) ?_))
  refine wpAny_bind (I.type.here (wpAny_bind (hb.here ?_)))
  split
  · rename_i q
    have e : PySem.W.subIn K tb (.ref C) = some false := (Bool.or_eq_true_iff.mp hn).elim (fun z => absurd q (by rw [beq_iff_eq.mp z]; simp)) fun z => beq_iff_eq.mp z
    refine wpAny_bind ((PySem.W.looks_subIn X e).here ?_)
    simp only [Bool.false_eq_true, if_false]
    refine wpAny_bind (wpAny_mono one (fun r s' z => ?_) fun _ _ e => e)
    obtain ⟨c, rfl, hq⟩ := z
    exact wpAny_pure hq
  · refine wpAny_bind (wpAny_pure ?_)
    simp only [Bool.false_eq_true, if_false]
    refine wpAny_bind (wpAny_mono one (fun r s' z => ?_) fun _ _ e => e)
    obtain ⟨c, rfl, hq⟩ := z
    exact wpAny_pure hq
end
section
variable {X : Cx} {C f : Addr} {fd : FuncData} {ps : List Str} {sp : Sp} {k : Nat}
def rOwnNe (K : PySem.W.Frag) (C : Addr) (sp : Sp) : R2 := fun x y H Q => ∃ (a dx : Addr) (fs : List (Str × V)) (t : Value), x = .ref a ∧ H a = some (.ins C dx fs) ∧ TyX K H y t ∧ PySem.W.notFirst K C t = true ∧ sp [.ref a, y] H (fun v H' => ∃ c, v = .bl c ∧ Q (.bl (!c)) H') E0
theorem op_ownNe (F : FnOk X.prog X.w X.K X.mg X.base L2.CX0 k f fd ps sp) (hr : Room (k + 1) X.A) (hm : PySem.W.mroIn X.K C (.type "object") = some true) (hs : PySem.W.findIn X.K (.ref C) "__ne__" = some (some (.builtin "object.__ne__")))
    (he : PySem.W.findIn X.K (.ref C) "__eq__" = some (some (.ref f))) (hf : PySem.W.isFn X.K (.ref f) = true) (hb : Binds X.K fd ps []) : OpR X (compareOp .NotEq) (rOwnNe X.K C sp) := by
  intro pins s σ H x y v u Q I rx ry h
  obtain ⟨a, dx, fs, t, rfl, ea, ty, nf, h⟩ := h
  obtain rfl : v = Value.ref a := rx
  obtain ⟨mA, O, _⟩ := ins_get I.hok ea
  obtain ⟨od, J, _⟩ := O.look
  obtain ⟨Pt, kt, pt, _⟩ := kit_of I ry ty
  have hl := F.len _ _ _ _ h
  refine rc_ne (tb := t) (by have := hr.un; omega) I.kIn J (kt.ty _ _ I.kIn pt) nf hm hs he hf (wpAny_call (codeAny_mono (F.run X.A.in1 X.stack s H ⟨[.ref a, u], []⟩ [.ref a, u] [.ref a, y] _ E0 hr.in1 I.env0.in1 (by
    have z := hb s [.ref a, u] I.kIn (by simpa using hl)
    simpa using z) (.cons rfl (.cons ry .nil)) h) fun r s' hq => ?_))
  match r, hq with
  | .error e, hq => exact hq.elim
  | .ok (.ret u2), hq =>
    obtain ⟨v2, H', I', rv, c, e, q⟩ := I.after hq
    rw [e] at rv
    obtain rfl : u2 = Value.bool c := rv
    exact ⟨c, rfl, .bl (!c), H', I', rfl, q⟩
end
end L2.Tb
set_option Elab.async false
set_option linter.all false
set_option maxRecDepth 100000
set_option maxHeartbeats 4000000
/-! C(e, .., k = v) where C stands in a local variable -/
namespace L2.Tb
open PySem PySem.Spec PyProof.Rows
theorem pass_none {X : Cx} : Passes (L2.CX X.prog X.w) X (fun _ _ _ => False) := fun _ _ _ _ _ _ _ h => by
  obtain ⟨_, _, _, _, _, _, _, _, _, _, _, _, z⟩ := h
  exact z.elim
section
variable {X : Cx} {CX : CXT} {k n i : Nat} {f C : Addr} {fd : FuncData} {ps ks : List Str} {sp : Sp} {E : XK} {x : Str} {p pos : Pos} {e : Expr} {es : List Expr} {kws : List Keyword} {t tk : TA} {g : List Value → List Value → List Value} {gV : List V → List V → List V}
def tMakeVK (i : Nat) (C : Addr) (n m : Nat) (sp : Sp) (gV : List V → List V → List V) (E : XK) (t tk : TA) : TE := fun σ H Q => σ[i]? = some (some (.ref C)) ∧ tMakeK C n m sp gV E t tk σ H Q
theorem pe_makeVK (M : Mk X.K C f) (F : FnOk X.prog X.w X.K X.mg X.base CX k f fd ps sp) {j : Nat} (hr : Room j X.A) (hj : k + 1 ≤ j) (hN : X.N[i]? = some x) (hv : Vis X.env.scope x) (hb : KBn X.K fd ps (n + 1) ks g gV) (hx : Passes CX X E) (ha : PA X (e :: es) t) (hkw : PK X kws tk)
    (hall : (backToKw pos (keywordEach kws X.env)).all (·.1.isSome) = true := by rfl) (hks : (backToKw pos (keywordEach kws X.env)).filterMap (·.1) = ks := by rfl) (hd : (x == ("__debug__" : Str)) = false := by decide) (hcd : (x == ("__classdict__" : Str)) = false := by decide)
    (he : starEach (e :: es) X.env = (false, eval e X.env) :: starEach es X.env := by rfl) (hpl : ((backTo pos (starEach (e :: es) X.env)).any (·.1) || (backToKw pos (keywordEach kws X.env)).any (·.1.isNone)) = false := by rfl) :
    PE X (.Call (.Name x p) (e :: es) kws pos) (tMakeVK i C n ks.length sp gV E t tk) := by
  refine ⟨fun pins s σ H Q I ⟨hs, h⟩ => wpAny_Call_Name_kw (thn ((pe_var (pos := p) (i := i) hN hv hd hcd).run pins s σ H (fun v H1 => v = .ref C ∧ H1 = H) I ⟨.ref C, hs, rfl, rfl⟩) fun u s1 hh => ?_)⟩
  obtain ⟨v, H1, I1, r1, ev, eH⟩ := hh
  subst ev eH
  cases r1
  refine PySem.W.callWith_KW (h₀ := X.base) I1.ok.mod.kin M.kp hall (thn (ha.run pos pins s1 σ H1 _ I1 h) fun us s2 ⟨vs, H2, I2, r, q⟩ => thn (hkw.run pos pins s2 σ H2 _ I2 q) fun ws s3 ⟨zs, H3, I3, rz, l1, l2, q2⟩ => ⟨I3.kIn, ?_⟩) hpl he
  rw [hks]
  exact run_makeK M F (hr.mono hj) hb hx I3 r rz l1 l2 q2
end
end L2.Tb
set_option Elab.async false
set_option linter.all false
set_option maxRecDepth 100000
set_option maxHeartbeats 4000000
/-! C.m(k = v), m a classmethod; repr of a bool -/
namespace L2.Tb
open PySem PySem.Spec PyProof.Rows
theorem call_repr_bl {X : Cx} : CallR X (.builtin "repr") (fun xs H Q => ∃ b, xs = [.bl b] ∧ Q (.str (if b then "True" else "False")) H) := by
  intro pins s σ H xs us Q I r h
  obtain ⟨b, rfl, q⟩ := h
  obtain ⟨u, rfl, e⟩ := vals1 r
  obtain rfl : u = Value.bool b := e
  exact PySem.P.repr_of_bool ⟨.str _, H, I.tok _, ⟨_, rfl⟩, q⟩
section
variable {X : Cx} {CX : CXT} {k : Nat} {C p g : Addr} {mc : Value} {sp : Sp} {E : XK} {o : Expr} {kws : List Keyword} {m : Str} {pos apos : Pos} {ta : TE} {tk : TA} {pl : Sem Bool} {fd : FuncData} {ps ks : List Str}
theorem pe_cmethK (he : PE X o ta) (r : ClX.CRead X.K C mc) (c : ClX.CMet X.K C mc m p g) (F : FnOk X.prog X.w X.K X.mg X.base CX k g fd ps sp) (hr : Room k X.A) (hx : Passes CX X E) (hkw : PK X kws tk) (hl : ps.length = ks.length + 1)
    (hb : ∀ (sh : Shared) (zs : List Value), zs.length = ks.length → BindsTo sh fd ⟨[.ref C], ks.zip zs⟩ (ps.zip (Value.ref C :: zs)))
    (hall : (backToKw pos (keywordEach kws X.env)).all (·.1.isSome) = true := by rfl) (hks : (backToKw pos (keywordEach kws X.env)).filterMap (·.1) = ks := by rfl)
    (hpl : ((backTo pos (starEach [] X.env)).any (·.1) || (backToKw pos (keywordEach kws X.env)).any (·.1.isNone)) = false := by rfl)
    (ht : eval (.Call (.Attribute o m apos) [] kws pos) X.env = (do
      let ov ← eval o X.env
      standAt apos.atName
      let (f, first) ← holding [ov] (getMethod ov m pl)
      callWith pos f first (backTo pos (starEach [] X.env)) (backToKw pos (keywordEach kws X.env))) := by rfl) :
    PE X (.Call (.Attribute o m apos) [] kws pos) (fun σ H Q => ta σ H fun x H1 => x = .ref C ∧ tk σ H1 fun zs H2 => sp (.ref C :: zs) H2 Q E) := by
  refine ⟨fun pins s σ H Q I h => ?_⟩
  refine PySem.W.methodCall_KW (pl := pl) (thn (he.run pins s σ H _ I h) fun u s1 hh => ?_) ht
  obtain ⟨x, H1, I1, rx, ex, q⟩ := hh
  subst ex
  obtain rfl : u = Value.ref C := rx
  refine ClX.getmethcm_ok I1 r c fun s2 I2 => ?_
  refine PySem.W.callWith_of (P := PySem.W.MethP X.K s1.heap.objs.size g (.ref C)) hpl (PySem.W.keeps_M c.fi) (evalArgs_kw2_nil hall ?_)
  refine thn (hkw.run pos _ s2 σ H1 _ I2 q) fun ws s3 hh => ?_
  obtain ⟨zs, H2, I3, rz, q2⟩ := hh
  refine ⟨⟨ClX.pin_at I3, I3.kIn⟩, ?_⟩
  rw [hks]
  have hw : ws.length = ks.length := by
    have z := F.len _ _ _ _ q2
    rw [List.length_cons, hl] at z
    rw [← rz.length]
    omega
  have run : wpAny (model X.prog X.w) X.A (call (.ref s1.heap.objs.size) [] (ks.zip ws)) (EP X ((s1.heap.objs.size, PySem.W.methodObj (.ref g) (.ref C)) :: pins) σ Q) X.xe s3 := by
    refine wpAny_call (PySem.W.method_call (ClX.pin_at I3) (codeAny_mono (F.run X.A X.stack s3 H2 ⟨[.ref C], ks.zip ws⟩ (.ref C :: ws) (.ref C :: zs) Q E hr I3.env0 (hb s3 ws hw) (.cons rfl rz) q2) fun r s' hq => ?_))
    match r, hq with
    | .error e, hq => exact hx _ σ H2 s3 e s' I3 hq
    | .ok (.ret u2), hq => exact I3.after hq
  exact thn run fun _ _ y => ClX.unpinE y
end
end L2.Tb
set_option Elab.async false
set_option linter.all false
set_option maxRecDepth 100000
set_option maxHeartbeats 4000000
/-! try: .. / except X as e: .. / except Y as e: .. / whatever clause behind, which is never reached -/
namespace L2.Tb
open PySem PySem.Spec PyProof.Rows
abbrev Suite : Type := Addr → Value → Option Addr → TS
/-- the ends of a suite whose name stands in slot i: the name goes -/
def offName (i : Nat) (D : Ends) : Ends := { nx := fun σ H => D.nx (σ.set i none) H, rt := D.rt, bk := fun σ H => D.bk (σ.set i none) H, ct := fun σ H => D.ct (σ.set i none) H }
def wAsMany (K : PySem.W.Frag) (D : Ends) : List (Value × Nat × Suite) → WX
  | [] => fun _ _ _ _ => False
  | (c, i, ts) :: r => fun cls d σ H => ∃ b, PySem.W.exmOne K cls c = some b ∧ (b = true → ∀ a, H a = none → ts a cls d (offName i D) (σ.set i (some (.ref a))) H) ∧ (b = false → wAsMany K D r cls d σ H)
/-- only for slots of the right number -/
def wLen (N : List Str) (W : WX) : WX := fun cls d σ H => σ.length = N.length → W cls d σ H
inductive HdsAs (X : Cx) : List ExceptHandler → List (Value × Nat × Suite) → Prop
  | stop (rest : List ExceptHandler) : HdsAs X rest []
  | cons {x n : Str} {c : Value} {i : Nat} {ts : Suite} {b0 : Stmt} {suite : List Stmt} {np p : Pos} {hds : List ExceptHandler} {l : List (Value × Nat × Suite)} (hi : X.N[i]? = some n) (hln : X.env.kindOf n = some .local) (hc : Names X x c)
      (hsu : ∀ (a : Addr) (oe : Obj) (cls : Value) (d : Option Addr) (pn : List (Addr × Obj)), Zc cls d oe → (∃ vs, oe.data = .fields vs) → PSs (X.suite a ((a, oe) :: pn)) (b0 :: suite) (ts a cls d)) (r : HdsAs X hds l) :
      HdsAs X (.ExceptHandler (some (.Name x np)) (some n) (b0 :: suite) p :: hds) ((c, i, ts) :: l)
section
variable {X : Cx} {body : List Stmt} {h0 : ExceptHandler} {hds : List ExceptHandler} {l : List (Value × Nat × Suite)} {pos : Pos} {tb : WX → TS}
theorem ps_try_asMany (hs : X.stack = X.env :: X.outer) (hf : X.env.frame = some X.env.locals) (hN : X.N.Nodup)
    (hb : ∀ (W : WX) (pn : List (Addr × Obj)) (xe : Value → Shared → Prop), Takes (X.tr pn xe) W → PassesOwn (model X.prog X.w) X.A X.env xe → PSs (X.tr pn xe) body (tb W)) (hh : HdsAs X (h0 :: hds) l) :
    PS X (.Try body (h0 :: hds) [] [] pos) (fun D σ H => tb (wLen X.N (wAsMany X.K D l)) D σ H) := by
  refine ⟨fun pins s σ H D I h => ?_⟩
  have ok := I.ok
  refine wpAny_Try_except (wpAny_mono ((hb (wLen X.N (wAsMany X.K D l)) (X.pn ++ pins) (fun e s1 => wpAny (model X.prog X.w) X.A (noteFrame e X.env) (fun _ s2 => wpAny (model X.prog X.w) X.A (setFlight e none) (fun _ s3 =>
    wpAny (model X.prog X.w) X.A (handleBy e X.env (h0 :: hds)) (SP X pins D) X.xe s3) X.xe s2) X.xe s1) (fun u s' caught => ?_) PassesOwn.looking).run [] s σ H D (I.toTry _) h) (fun f s1 hsp => ?_) fun _ _ he => he)
  · obtain ⟨a, B, sI, pins', σ', H', cls, d, rfl, J', nb, up, sky, na, os, ag, w⟩ := caught
    have J : Inv X pins σ' H' sI := J'.ofTry ok
    replace w := w J.len
    rw [hs] at sky
    show wpAny (model X.prog X.w) X.A (noteFrame (.ref a) X.env) _ _ _
    refine Sky.land Zc.steady (by rw [ok.frames, hs]) hf sky fun h3 fl3 up3 => ?_
    have J3 : Inv X pins σ' H' { s' with heap := h3 } := J.landed nb fl3.1 (up.trans up3) os ag
    obtain ⟨oe3, vs3, he3, hz3, hd3⟩ := fl3.there
    have nfr : a ∉ frs (X.env :: X.outer) := fun hm => by
      obtain ⟨_, o', e', no⟩ := fl3.2.2.1.mem hm
      rw [he3] at e'
      cases e'
      exact no _ hd3
    have nL : a ≠ X.env.locals := fun z => nfr (List.mem_filterMap.mpr ⟨X.env, List.mem_cons_self, by rw [hf, z]⟩)
    have nF : a ∉ X.fs := fun hm => let ⟨e, he, q⟩ := List.mem_filterMap.mp hm; nfr (List.mem_filterMap.mpr ⟨e, List.mem_cons_of_mem _ he, q⟩)
    have S3 := J3.suite he3 hd3 na nL nF
    clear hb h
    generalize h0 :: hds = all at hh ⊢
    induction hh with
    | stop rest => exact w.elim
    | @cons x n c i ts b0 suite np p hds2 l2 hi hln hc hsu r ih =>
      obtain ⟨b, hb1, hyes, hno⟩ := w
      have LT : PySem.W.Looks (model X.prog X.w) h3 (typeOf (.ref a)) cls := fun A Q E s k q => wpAny_typeOf_ref (k _ _ he3) (by rw [hz3.1]; exact q)
      have LM := PySem.W.exm_one (M := model X.prog X.w) J3.kIn LT hb1
      have test : ∀ {Q : Value → Shared → Prop} {E : Value → Shared → Prop}, Q c { s' with heap := h3 } → wpAny (model X.prog X.w) (X.A.mark (some (.ref a))) (eval (.Name x np) X.env) Q E { s' with heap := h3 } := fun q => by
        rcases hc with ⟨hg, hdbg, hm | ⟨hm, hv, hnn⟩⟩
        · exact ld_glob (X := X.suite a ((a, oe3) :: (X.pn ++ pins))) S3 hg hm q hdbg
        · exact ld_blt (X := X.suite a ((a, oe3) :: (X.pn ++ pins))) S3 hg hm hv q hnn hdbg
      refine wpAny_handleBy_cons (codeAny_handlers_test (test (LM.here ?_))) (by intro q; cases q)
      cases b with
      | false => exact ih (hno rfl)
      | true =>
        refine codeAny_handlers_suite_as (HandSPX.lands_againZ fl3 fun h4 fl4 up4 => ?_)
        have J4 : Inv X pins σ' H' { s' with heap := h4 } := J.landed nb fl4.1 ((up.trans up3).trans up4) os ag
        obtain ⟨oe4, vs4, he4, hz4, hd4⟩ := fl4.there
        refine store_ok (X := X.suite a ((a, oe4) :: (X.pn ++ pins))) (v := .ref a) (J4.suite he4 hd4 na nL nF) hN hi (.inl hln) rfl (fun s5 S5 => ?_) (.inr hln)
        refine wpAny_mono ((hsu a oe4 cls d (X.pn ++ pins) hz4 ⟨_, hd4⟩).run [] s5 _ H' _ S5 (hyes rfl a na)) (fun f s6 hsp => ?_) fun _ _ z => z.elim
        have gone : ∀ {σ6 : St} {H6 : Hp} {Q : Shared → Prop}, Inv (X.suite a ((a, oe4) :: (X.pn ++ pins))) [] σ6 H6 s6 → (∀ s7, Inv X pins (σ6.set i none) H6 s7 → Q s7) → wpAny (model X.prog X.w) X.A (do bindName X.env n .none; unbindBehindTheSuite X.env n p) (fun _ s7 => Q s7) X.xe s6 :=
          fun S6 hq => gone_ok (S6.unsuite ok) hN hi hln hq
        match f, hsp with
        | .next, ⟨σ6, H6, S6, q6⟩ => exact gone S6 fun s7 J7 => ⟨_, _, J7, q6⟩
        | .brk, ⟨σ6, H6, S6, q6⟩ => exact gone S6 fun s7 J7 => ⟨_, _, J7, q6⟩
        | .cont, ⟨σ6, H6, S6, q6⟩ => exact gone S6 fun s7 J7 => ⟨_, _, J7, q6⟩
        | .ret u, ⟨v6, σ6, H6, S6, r6, q6⟩ => exact gone S6 fun s7 J7 => ⟨_, _, _, J7, r6, q6⟩
  · match f, hsp with
    | .next, ⟨σ1, H1, J1, q⟩ => exact wpAny_execs_nil ⟨σ1, H1, J1.ofTry ok, q⟩
    | .brk, ⟨σ1, H1, J1, q⟩ => exact ⟨σ1, H1, J1.ofTry ok, q⟩
    | .cont, ⟨σ1, H1, J1, q⟩ => exact ⟨σ1, H1, J1.ofTry ok, q⟩
    | .ret u, ⟨v, σ1, H1, J1, r, q⟩ => exact ⟨v, σ1, H1, J1.ofTry ok, r, q⟩
end
end L2.Tb
set_option Elab.async false
set_option linter.all false
set_option maxRecDepth 100000
set_option maxHeartbeats 4000000
/-! p, q = e1, e2 where the stores stand from the left (one of the targets is no plain local name): the pair made between is not tracked -/
namespace L2.Tb
open PySem PySem.Spec PyProof.Rows
def tPairL (ta : TA) (g : TGs) : TS := fun D σ H => ta σ H fun vs H1 => vs.length = 2 ∧ g vs σ H1 D.nx
variable {X : Cx} {es vs : List Expr} {ta : TA} {g : TGs} {kt k2 : Nat} {pt pt2 pos : Pos}
theorem ps_pairL (calm : X.calm = true) (right : PA X vs ta) (left : PGs X es g)
    (star : (assignEach es X.env).findIdx? (·.1) = none) (even : (assignEach es X.env).length = 2)
    (plain : swappedStores [.Tuple es kt pt] (.Tuple vs k2 pt2) X.env = pure none)
    (noswap : swapsWithSole [.Tuple es kt pt] (.Tuple vs k2 pt2) pos.line X.env = pure false := by rfl)
    (once : (assignEach [.Tuple es kt pt] X.env).map (·.2) = [assign (.Tuple es kt pt) X.env] := by rfl) :
    PS X (.Assign [.Tuple es kt pt] (.Tuple vs k2 pt2) pos) (tPairL ta g) := by
  refine ⟨fun pins s σ H D I h => ?_⟩
  refine wpAny_Assign_stores (Tuple_ (thn (right.run _ pins s σ H _ I h) fun us s1 ⟨ws, H1, I1, r1, q1⟩ => ?_)) noswap plain
  obtain ⟨e2, q1⟩ := q1
  have hlen : us.length = 2 := by rw [← e2]; exact (Vals.length r1).symm
  refine wpAny_newObj_type ?_ (by show us.length ≤ sizeLine; rw [hlen]; decide)
  have I2 : Inv X pins σ H1 { s1 with heap := s1.heap.push { cls := .type "tuple", data := .seq us.toArray } } := I1.kept (t' := s1.toks) fun b o e => Heap.get?_push_of_some _ e
  rw [once]
  show wpAny (model X.prog X.w) X.A (assign (.Tuple es kt pt) X.env (.ref s1.heap.objs.size)) _ _ _
  refine assign_Tuple_tuple (items := us.toArray) (I.ok.hd calm) (IsTup.new s1.heap _) (by simp [even, hlen]) star fun h' hx => ?_
  have I3 := I2.kept (h' := h') (t' := s1.toks) fun b o e => hx b o (Nat.ne_of_lt (Heap.lt_size e)) e
  refine thn (left.run pins _ σ H1 ws _ D.nx I3 (by simpa using r1) q1) fun _ s2 q => ?_
  exact q
end L2.Tb
set_option Elab.async false
set_option linter.all false
set_option maxRecDepth 100000
set_option maxHeartbeats 4000000
namespace L2.Tb
open PySem PySem.Spec PyProof.Rows
/-! ### a def whose code object is known -/
section
variable {P : Program} {w : World} {K : PySem.W.Frag} {mg : Str → Option Value} {base : Heap} {x : Str} {st : Stmt} {fd : FuncData} {N ps : List Str} {k : Nat} {sp : Sp}
/-- as cal_mk, the body being told where the def's code object stands -/
theorem cal_mkC {at_ : Str × Option Str} (F : FnP K x st (He.fAd K at_) fd) (hm : mg x = some (.ref (He.fAd K at_))) (S : FnScope N ps (defScope st))
    (hb : ∀ (kV doc pm : Value) (an : Option Addr) (cdv ct : Value) (us : List Value), us.length = ps.length → bindArgs (PySem.W.fnOf x x (defArgs st) (defBody st) (defScope st) .none kV doc pm an cdv ct) ⟨us, []⟩ = pure (ps.zip us))
    (len : ∀ vs H Q E, sp vs H Q E → vs.length = ps.length)
    (hbody : ∀ (cdv : Value) (A : Around) (outer : List Env) (s : Shared) (H : Hp) (vs : List V) (Q : VK) (E : XK), cdv = .ref (He.codeOf K at_) → Room k (A.deeper (envOfC x (defScope st) s.heap.objs.size (He.fAd K at_) cdv)) → sp vs H Q E →
      ∃ t, PSs (cxOf L2.CX0 P w K mg base N x (defScope st) (He.fAd K at_) cdv A outer s H E).nox (defBody st) t ∧ t { nx := fun _ H' => Q .non H', rt := Q } (start N vs) H) : Cal P w K mg base (k + 1) x sp := by
  obtain ⟨oc, od, dV, kV, doc, pm, an, cdv, ct, osl, rfl, lk, hcd, _, _⟩ := id F.ex
  obtain ⟨c, rfl⟩ := He.codeIn_ref hcd
  have hc : (Value.ref c) = .ref (He.codeOf K at_) := by rw [He.codeOf_eq lk rfl]
  refine ⟨_, _, ps, fn_of lk hcd S len fun A outer s H vs Q E hr h => ?_, hm, F.kp, F.bindsN hb⟩
  obtain ⟨t, a, b⟩ := hbody _ A outer s H vs Q E hc hr h
  exact ⟨t, a.nox, b⟩
end
/-! ### the end at the place of the law's call, some code objects having tables -/
section
variable {P : Program} {w : World} {K : PySem.W.Frag} {mg mb : Str → Option Value} {fa a : Addr} {fd : FuncData} {x : Str} {sp : Sp} {s1 : Shared} {vs : List Value} {ns : List Int} {cs : List (Addr × Addr)}
theorem law_atT (KX : K.In s1.heap) (hns : s1.heap.Ns mainGlobals mg) (hb : s1.heap.Ns builtinsNs mb)
    (hbb : ∀ x : Str, x ≠ "__name__" → mb x = bootBuiltins x) (hlim : s1.heap.NoLimit) (hg : s1.gens = #[]) (hT : ∀ p ∈ cs, s1.heap.get? p.2 = some { cls := .none, data := .fields #[] }) (nT : ∀ p ∈ cs, K.lookup p.2 = none) (C : ∀ p ∈ cs, PySem.W.CodeHd s1.heap p.1 p.2)
    (hbm : ∃ (bm : Addr) (ob : Obj), mg "__builtins__" = some (.ref bm) ∧ bm ≠ builtinsNs ∧ s1.heap.get? bm = some ob ∧ ob.cls = .type "module" ∧ ob.dict = some builtinsNs ∧ ob.data = .plain)
    (ha : s1.heap.get? a = some { cls := .type "list", data := .seq vs.toArray }) (hi : IntsAre vs ns) (hl : ns.length ≤ sizeLine)
    (R : ∀ base : Heap, K.In base → base.Ns mainGlobals mg → (∀ p ∈ cs, LamX.TabB base mg p.1 p.2) → RunsAt P w K mg base fa fd [x] sp callerA) (hbind : ∀ (s : Shared) (u : Value), BindsTo s fd ⟨[u], []⟩ [(x, u)])
    (hsp : ∀ H : Hp, (∀ p ∈ cs, H p.2 = some (.tbl #[])) → SqL K H a (ns.map V.int) → sp [.ref a] H (fun v _ => v = .bl true) fun _ _ _ => False) :
    codeAny (model P w) callerA (.call (.ref fa) ⟨[.ref a], []⟩) (fun r s' => r = .ok (.ret (.bool true)) ∧ OldK s1.heap s'.heap ∧ s'.os = s1.os ∧ AllBare s'.gens) s1 := by
  let ob : Obj := { cls := .type "list", data := .seq vs.toArray }
  let Ts : List Addr := cs.map (·.2)
  let H : Hp := fun b => if b ∈ Ts then some (.tbl #[]) else if b = a ∧ K.lookup a = none then some (.frz ob (.lst (ns.map V.int))) else none
  have tabs : ∀ {b}, b ∈ Ts → ∃ p ∈ cs, p.2 = b := fun h => by
    obtain ⟨p, hp, e⟩ := List.mem_map.mp h
    exact ⟨p, hp, e⟩
  have tab1 : ∀ p ∈ cs, p.2 ∈ Ts := fun p hp => List.mem_map_of_mem hp
  have objT : ∀ {b}, b ∈ Ts → s1.heap.get? b = some { cls := .none, data := .fields #[] } := fun h => by
    obtain ⟨p, hp, rfl⟩ := tabs h
    exact hT p hp
  have aT : a ∉ Ts := fun h => by
    have z := (objT h).symm.trans ha
    cases z
  have hTab : ∀ {b}, b ∈ Ts → H b = some (.tbl #[]) := fun h => if_pos h
  have hNot : ∀ {b}, b ∉ Ts → (b = a → (K.lookup a).isSome = true) → H b = none := fun {b} h1 h2 => by
    refine (if_neg h1).trans (if_neg fun ⟨e, k⟩ => ?_)
    have z := h2 e
    rw [k] at z
    cases z
  have hCase : ∀ b o, H b = some o → (b ∈ Ts ∧ o = .tbl #[]) ∨ (b ∉ Ts ∧ b = a ∧ K.lookup a = none ∧ o = .frz ob (.lst (ns.map V.int))) := fun b o e => by
    by_cases h1 : b ∈ Ts
    · rw [hTab h1] at e
      exact .inl ⟨h1, (Option.some.inj e).symm⟩
    · have e2 : (if b = a ∧ K.lookup a = none then some (HO.frz ob (.lst (ns.map V.int))) else none) = some o := (if_neg h1).symm.trans e
      by_cases h2 : b = a ∧ K.lookup a = none
      · rw [if_pos h2] at e2
        exact .inr ⟨h1, h2.1, h2.2, (Option.some.inj e2).symm⟩
      · rw [if_neg h2] at e2
        cases e2
  have plain : ∀ {b o}, s1.heap.get? b = some o → (∀ u n, o.data ≠ .seq u n) → o.data ≠ .fields #[] → H b = none := fun {b o} e n1 n2 => by
    refine hNot (fun h => n2 ?_) fun h => absurd ?_ (n1 vs.toArray 0)
    · have z := e.symm.trans (objT h)
      cases z
      rfl
    · rw [h, ha] at e
      cases e
      rfl
  have ns1 : ∀ {b : Addr} {m : Str → Option Value}, s1.heap.Ns b m → (hidT s1.heap H).Ns b m := fun {b m} ⟨o, es, ep, e, d, r⟩ =>
    ⟨o, es, ep, hidT_get e (plain e (fun u n z => by rw [d] at z; cases z) (fun z => by rw [d] at z; cases z)), d, r⟩
  have kin : K.In (hidT s1.heap H) := fun b o e => hidT_get (KX b o e) (hNot (fun h => by
    obtain ⟨p, hp, rfl⟩ := tabs h
    rw [nT p hp] at e
    cases e) fun h => by rw [← h, e]; rfl)
  have rv := vals_ints hi
  have sq : SqL K H a (ns.map V.int) := by
    cases hk : K.lookup a with
    | none => exact .inl (.inr ⟨ob, (if_neg aT).trans (if_pos ⟨rfl, hk⟩)⟩)
    | some o =>
      have e := KX a o hk
      rw [ha] at e
      cases e
      exact .inr ⟨_, vs.toArray, _, hk, rfl, rfl, rfl, by rw [List.size_toArray, hi.length]; exact hl, by simpa using rv⟩
  have hok : HOk P w H s1.heap := fun b u z => by
    rcases hCase b u z with ⟨h1, rfl⟩ | ⟨_, rfl, _, rfl⟩
    · exact objT h1
    · exact ⟨ha, by rw [List.length_map]; exact hl, vs, _, rv, ha⟩
  obtain ⟨mc, l1, l2⟩ := hlim
  have e0 : Env0 P w K mg (hidT s1.heap H) callerA [] s1 H := ⟨rfl, ⟨kin, ns1 hns, ⟨mb, ns1 hb, hbb⟩, ⟨mc, ns1 l1, l2⟩⟩, fun _ _ e => of_hidT e, Nat.le_of_eq (hidT_size _ _), trivial, fun b hb => (nomatch hb), hok, .of_eq hg⟩
  have TB : ∀ p ∈ cs, LamX.TabB (hidT s1.heap H) mg p.1 p.2 := fun p hp => by
    have tp := hT p hp
    obtain ⟨og, es, ep, eg, dg, _⟩ := id hns
    refine ⟨?_, ?_, fun z => ?_⟩
    · obtain ⟨o, us, file, tf, flags, tg, inF, text, tt, e1, q⟩ := C p hp
      refine ⟨o, us, file, tf, flags, tg, inF, text, tt, hidT_get e1 (plain e1 (fun u n z => ?_) fun z => ?_), q⟩
      · rw [q.2.1] at z
        cases z
      · rw [q.2.1] at z
        cases z
        exact absurd q.2.2.1 (by simp)
    · obtain ⟨bm, o, b1, b2, b3, b4, b5, b6⟩ := hbm
      refine ⟨bm, o, b1, b2, fun z => ?_, fun z => ?_, hidT_get b3 (plain b3 (fun u n z => ?_) fun z => ?_), b4, b5, b6⟩
      · rw [z, eg] at b3
        cases b3
        rw [dg] at b6
        cases b6
      · rw [z, tp] at b3
        cases b3
        cases b6
      · rw [b6] at z
        cases z
      · rw [b6] at z
        cases z
    · rw [z, tp] at eg
      cases eg
      cases dg
  refine codeAny_mono (R _ kin (ns1 hns) TB [] s1 H _ [.ref a] [.ref a] (fun v _ => v = .bl true) (fun _ _ _ => False) e0 (hbind s1 (.ref a)) (.cons rfl .nil) rfl (hsp H (fun p hp => hTab (tab1 p hp)) sq)) fun r s' h => ?_
  match r, h with
  | .error e, h => exact h.elim
  | .ok (.ret u), ⟨v, H', os, bare, un, hok', r', q⟩ =>
    subst q
    obtain rfl : u = Value.bool true := r'
    have grown : ∀ {b}, b ∈ Ts → ∃ more : Array Value, s'.heap.get? b = some { cls := .none, data := .fields more } := fun {b} h => by
      obtain ⟨more, z⟩ := un.tbls b #[] (hTab h)
      exact ⟨_, hok' b _ z⟩
    have kept : ∀ {b o}, b ∉ Ts → s1.heap.get? b = some o → s'.heap.get? b = some o := fun {b o} h1 e => by
      cases z : H b with
      | none => exact un.keep b o e z (fun z => nomatch z) (fun z => nomatch z)
      | some o2 =>
        rcases hCase b o2 z with ⟨h2, _⟩ | ⟨_, rfl, _, rfl⟩
        · exact absurd h2 h1
        · rw [ha] at e
          cases e
          exact (hok' b _ (un.frzs b ob _ z)).1
    refine ⟨rfl, ⟨fun b o e => ?_, fun b o e => ?_⟩, os, bare⟩
    · by_cases h1 : b ∈ Ts
      · obtain ⟨more, hm⟩ := grown h1
        obtain ⟨p, hp, rfl⟩ := tabs h1
        have z := e.symm.trans (hT p hp)
        cases z
        exact .inr (.inl ⟨((C p hp).tab (hT p hp)).isCodeTable, rfl, #[], more, rfl, by rw [Array.empty_append]; exact hm⟩)
      · exact .inl (kept h1 e)
    · by_cases h1 : b ∈ Ts
      · obtain ⟨more, hm⟩ := grown h1
        exact ⟨_, hm⟩
      · exact ⟨o, kept h1 e⟩
end
theorem walk_atT {l : PySem.W.OpenLaw} {n : Nat} {q : Program} {loose : List Str} {XP : (Str → Option Value) → Heap → Prop} {YP : World → Heap → Prop} {d : DefRec} {x : Str} (hn : l.most = some n) (hn2 : n ≤ sizeLine) (hdf : d.params.defaults = [])
    (F : ∀ (w : World) (mg : Str → Option Value) (fa : Addr) (h : Heap), YP w h → h.Ns mainGlobals mg → mg d.name = some (.ref fa) → ∃ (K : PySem.W.Frag) (fd : FuncData) (sp : Sp) (cs : List (Addr × Addr)), K.In h ∧ (∀ p ∈ cs, h.get? p.2 = some { cls := .none, data := .fields #[] }) ∧
      (∀ p ∈ cs, K.lookup p.2 = none) ∧ (∀ p ∈ cs, PySem.W.CodeHd h p.1 p.2) ∧ (∀ (s : Shared) (u : Value), BindsTo s fd ⟨[u], []⟩ [(x, u)]) ∧
      (∀ (H : Hp) (a : Addr) (ns : List Int), ns.length ≤ n → (∀ z ∈ ns, Builtin.Int.intBits z ≤ 1048576) → (∀ p ∈ cs, H p.2 = some (.tbl #[])) → SqL K H a (ns.map V.int) → sp [.ref a] H (fun v _ => v = .bl true) fun _ _ _ => False) ∧
      ∀ base : Heap, K.In base → base.Ns mainGlobals mg → (∀ p ∈ cs, LamX.TabB base mg p.1 p.2) → RunsAt l.prog w K mg base fa fd [x] sp callerA) :
    PySem.W.WalkO q loose XP YP l.row.toRowW d [] (fun f vs => PySem.call f vs) := by
  refine Att.attach_callB hn hdf fun w s0 s1 mg mb fa o pm cd doc a vs ns G Y ho hd hcd hmg hobj hints hlen hbits hg => ?_
  obtain ⟨K, fd, sp, cs, KX, hT, nT, C, hb, hsp, R⟩ := F w mg fa _ Y G.T.g hmg
  exact law_atT KX G.T.g G.T.b G.T.builtins G.T.nolimit hg hT nT C G.T.bmain hobj hints (Nat.le_trans hlen hn2) R hb fun H hH sq => hsp H a ns hlen hbits hH sq
end L2.Tb
set_option Elab.async false
set_option linter.all false
set_option maxRecDepth 100000
set_option maxHeartbeats 4000000
/-! what a head is asked for: own facts in one Bool, defs at any address, written dicts, empty code tables -/
namespace L2.Tb
open PySem PySem.Spec PyProof.Rows
/-- a plain own class, as isinstance and != ask of it -/
structure InsC (K : PySem.W.Frag) (C : Addr) : Prop where
  ha : PySem.W.findIn K (.ref C) "__class__" = some (some (.builtin "object.__class__"))
  hn : PySem.W.specialIn K (.builtin "object.__class__") "__get__" = some (some (.builtin "getset_descriptor.__get__"))
  ht : PySem.W.takesIn K (.builtin "object.__class__") = some true
  hm : PySem.W.mroIn K C (.type "object") = some true
def insB (K : PySem.W.Frag) (C : Addr) : Bool := He.eqO (PySem.W.findIn K (.ref C) "__class__") (some (some (.builtin "object.__class__"))) && (He.eqO (PySem.W.specialIn K (.builtin "object.__class__") "__get__") (some (some (.builtin "getset_descriptor.__get__"))) &&
  (decide (PySem.W.takesIn K (.builtin "object.__class__") = some true) && decide (PySem.W.mroIn K C (.type "object") = some true)))
theorem insB_ok {K : PySem.W.Frag} {C : Addr} (h : insB K C = true) : InsC K C := by
  obtain ⟨a, h⟩ := He.ba h
  obtain ⟨b, h⟩ := He.ba h
  obtain ⟨c, d⟩ := He.ba h
  exact ⟨He.eqO_ok a, He.eqO_ok b, of_decide_eq_true c, of_decide_eq_true d⟩
/-- a property of the class -/
abbrev pAd (K : PySem.W.Frag) (C : Addr) (f : Str) : Addr := He5.wf K C "property" f
def propB (K : PySem.W.Frag) (C : Addr) (f : Str) : Bool := He.eqO (PySem.W.findIn K (.ref C) f) (some (some (.ref (He.ma K C f)))) && (He.eqO (PySem.W.specialIn K (.ref (He.ma K C f)) "__get__") (some (some (.builtin "property.__get__"))) &&
  (decide (PySem.W.takesIn K (.ref (He.ma K C f)) = some true) && (match PySem.W.recIn K (He.ma K C f) "property" with
    | some (.ref _ :: _) => true
    | _ => false)))
theorem propB_ok {K : PySem.W.Frag} {C : Addr} {f : Str} (h : propB K C f = true) : PropOf K C f (He.ma K C f) (pAd K C f) := by
  obtain ⟨a, h⟩ := He.ba h
  obtain ⟨b, h⟩ := He.ba h
  obtain ⟨c, d⟩ := He.ba h
  refine ⟨He.eqO_ok a, He.eqO_ok b, of_decide_eq_true c, ?_⟩
  unfold pAd He5.wf
  split at d
  · rename_i g r e
    exact ⟨r, by rw [e]⟩
  · cases d
/-- a class that is read by its name; its classmethods -/
abbrev cAd (K : PySem.W.Frag) (C : Addr) (m : Str) : Addr := He5.wf K C "classmethod" m
def creadB (K : PySem.W.Frag) (C : Addr) : Bool := PySem.W.readsIn K C (.type "type") && He.eqO (PySem.W.specialIn K (.ref C) "__getattribute__") (some (some (.builtin "type.__getattribute__")))
theorem creadB_ok {K : PySem.W.Frag} {C : Addr} (h : creadB K C = true) : ClX.CRead K C (.type "type") := ⟨(He.ba h).1, He.eqO_ok (He.ba h).2⟩
def cmetB (K : PySem.W.Frag) (C : Addr) (m : Str) : Bool := He5.wrapB K C "classmethod" "classmethod.__get__" m && PySem.W.fnIn K (cAd K C m)
theorem cmetB_ok {K : PySem.W.Frag} {C : Addr} {m : Str} (h : cmetB K C m = true) : ClX.CMet K C (.type "type") m (He.ma K C m) (cAd K C m) := He5.cmet_of (He.ba h).1 (He.ba h).2
/-! ### what the module's names reach -/
def refsAll (g : Addr → Option Obj) (as : List Addr) : List Addr := as.flatMap fun a => match g a with
  | some o => He.refsD o
  | none => []
def seenAt (g : Addr → Option Obj) : Nat → List Addr → List Addr
  | 0, as => as
  | n + 1, as => as ++ seenAt g n (refsAll g as)
def kH (n : Nat) (g : Addr → Option Obj) : PySem.W.Frag := He.frT g (seenAt g n [mainGlobals] ++ [cStatics])
/-! ### the Hook -/
section
variable (n : Nat) (fb : PySem.W.Frag → Bool) (fn : List He5.DefA) (ts : List He.Tab) (tf : List He.Defn)
abbrev AlH : Type := (Bool × List He.FnW) × List (Option (List (Option (Str × Int))))
def obsH (g : Addr → Option Obj) : AlH := ((fb (kH n g) && (He.tabsB g tf (kH n g) && fn.all fun d => d.ok (kH n g)), fn.map fun d => He5.fnA (kH n g) (d.at_ (kH n g))), ts.map fun t => He.dicW (kH n g) (t.1 (kH n g)))
def valH (w : World) : AlH := ((true, fn.map He5.DefA.val), ts.map fun t => some (He.keysIn w.params t.2))
structure SaysH (w : World) (h : Heap) (K : PySem.W.Frag) : Prop where
  kin : K.In h
  fb : fb K = true
  df : ∀ d ∈ fn, ∃ fd, FunD K d.name d.qual d.params d.body d.scope (d.dvs K) (d.kws K) (d.at_ K) fd
  tb : ∀ t ∈ ts, ∃ es m, KDict K w (t.1 K) es m
  hd : ∀ p ∈ tf, PySem.W.codeHdIn K (He.cT K p).1 (He.cT K p).2 = true
  out : ∀ p ∈ tf, K.lookup (He.cT K p).2 = none
  emp : ∀ p ∈ tf, h.get? (He.cT K p).2 = some { cls := .none, data := .fields #[] }
end
section
variable {n : Nat} {fb : PySem.W.Frag → Bool} {fn : List He5.DefA} {ts : List He.Tab} {tf : List He.Defn}
theorem map_mem {α β : Type} {f g : α → β} {l : List α} (h : l.map f = l.map g) {a : α} (ha : a ∈ l) : f a = g a := List.map_inj_left.mp h a ha
theorem saysH_of {w : World} {h : Heap} (e : obsH n fb fn ts tf h.get? = valH fn ts w) : SaysH fb fn ts tf w h (kH n h.get?) := by
  have e1 : (fb (kH n h.get?) && (He.tabsB h.get? tf (kH n h.get?) && fn.all fun d => d.ok (kH n h.get?))) = true := congrArg (fun z : AlH => z.1.1) e
  have e2 : (fn.map fun d => He5.fnA (kH n h.get?) (d.at_ (kH n h.get?))) = fn.map He5.DefA.val := congrArg (fun z : AlH => z.1.2) e
  have e3 : (ts.map fun t => He.dicW (kH n h.get?) (t.1 (kH n h.get?))) = ts.map fun t => some (He.keysIn w.params t.2) := congrArg (fun z : AlH => z.2) e
  obtain ⟨a, b⟩ := He.ba e1
  obtain ⟨b, c⟩ := He.ba b
  have tab : ∀ p ∈ tf, PySem.W.codeHdIn (kH n h.get?) (He.cT (kH n h.get?) p).1 (He.cT (kH n h.get?) p).2 = true ∧ ∃ o, h.get? (He.cT (kH n h.get?) p).2 = some o ∧ He.emptyTab o = true := fun p hp => by
    obtain ⟨x, y⟩ := He.ba (List.all_eq_true.mp b p hp)
    refine ⟨x, ?_⟩
    split at y
    · rename_i o q
      exact ⟨o, q, y⟩
    · cases y
  refine ⟨He.frT_in, a, fun d hd => He5.DefA.funD (map_mem e2 hd) (List.all_eq_true.mp c d hd), fun t ht => He.dicW_ok (map_mem e3 ht), fun p hp => (tab p hp).1, fun p hp => ?_, fun p hp => ?_⟩
  · obtain ⟨_, o, q, z⟩ := tab p hp
    exact He.frT_none q z
  · obtain ⟨_, o, q, z⟩ := tab p hp
    rw [q, He.emptyTab_eq z]
def hookH (n : Nat) (fb : PySem.W.Frag → Bool) (fn : List He5.DefA) (ts : List He.Tab) (tf : List He.Defn) : PySem.W.Hook where
  α := AlH
  obs := fun s => obsH n fb fn ts tf s.heap.get?
  val := fun w => valH fn ts w
  says := fun w h => ∃ K : PySem.W.Frag, SaysH fb fn ts tf w h K
  of := fun _ _ e => ⟨_, saysH_of e⟩
  keeps := fun _ _ _ ⟨K, c⟩ k => ⟨K, PySem.W.Frag.In.keeps c.kin k, c.fb, c.df, c.tb, c.hd, c.out, fun p hp => k _ _ (c.emp p hp)⟩
theorem obH_eq (s : PySem.W.SharedT) : obsH n fb fn ts tf (HandSHeadRun.getT s) = (hookH n fb fn ts tf).obs s.abs := by
  have e : HandSHeadRun.getT s = s.abs.heap.get? := funext fun a => HandSHeadRun.getT_eq s a
  show obsH n fb fn ts tf (HandSHeadRun.getT s) = obsH n fb fn ts tf s.abs.heap.get?
  rw [e]
theorem SaysH.nth {w : World} {h : Heap} {K : PySem.W.Frag} (c : SaysH fb fn ts tf w h K) (i : Nat) {d : He5.DefA} (e : fn[i]? = some d := by rfl) : ∃ fd, FunD K d.name d.qual d.params d.body d.scope (d.dvs K) (d.kws K) (d.at_ K) fd := c.df d (List.mem_of_getElem? e)
theorem SaysH.cs {w : World} {h : Heap} {K : PySem.W.Frag} (c : SaysH fb fn ts tf w h K) : (∀ p ∈ tf.map (He.cT K), h.get? p.2 = some { cls := .none, data := .fields #[] }) ∧ (∀ p ∈ tf.map (He.cT K), K.lookup p.2 = none) ∧ ∀ p ∈ tf.map (He.cT K), PySem.W.CodeHd h p.1 p.2 := by
  refine ⟨fun p hp => ?_, fun p hp => ?_, fun p hp => ?_⟩ <;> obtain ⟨q, hq, rfl⟩ := List.mem_map.mp hp
  · exact c.emp q hq
  · exact c.out q hq
  · exact PySem.W.codeHd_of_K c.kin (c.hd q hq)
end
/-- all of a list of names -/
theorem all_get {α : Type} {p : α → Bool} {l : List α} (h : l.all p = true) (i : Nat) {a : α} (e : l[i]? = some a := by rfl) : p a = true := List.all_eq_true.mp h a (List.mem_of_getElem? e)
/-! ### a written dict's keys; a written tuple -/
def keyS (e : DictEntry) : Option Str := match e.key with
  | .str z _ => some z
  | _ => none
def keysB (K : PySem.W.Frag) (a : Addr) (ks : List Str) : Bool := match K.lookup a with
  | some ⟨_, _, .dict es _, _⟩ => decide (es.toList.map keyS = ks.map some)
  | _ => false
theorem keysB_ok {K : PySem.W.Frag} {a : Addr} {ks : List Str} (h : keysB K a ks = true) (z : Str) : ∃ r, PySem.W.nsIn K a z = some r ∧ r.isSome = ks.contains z := by
  unfold keysB at h
  split at h
  · rename_i oc od es n sl q
    have h := of_decide_eq_true h
    unfold PySem.W.nsIn
    rw [q]
    dsimp only
    have key : ∀ (l : List DictEntry) (ks : List Str), l.map keyS = ks.map some → l.any (·.refKey) = false ∧ (l.find? (·.key.isStr z)).isSome = ks.contains z := by
      intro l
      induction l with
      | nil =>
        intro ks h
        cases ks with
        | nil => exact ⟨rfl, rfl⟩
        | cons => cases h
      | cons e l ih =>
        intro ks h
        cases ks with
        | nil => cases h
        | cons k ks =>
          rw [List.map_cons, List.map_cons] at h
          injection h with h1 h2
          obtain ⟨i1, i2⟩ := ih ks h2
          unfold keyS at h1
          split at h1
          · rename_i y t e1
            have h1 : y = k := Option.some.inj h1
            have r : e.refKey = false := by
              unfold DictEntry.refKey
              rw [e1]
            refine ⟨by rw [List.any_cons, r, i1]; rfl, ?_⟩
            rw [List.find?_cons, List.contains_cons]
            have w : e.key.isStr z = (z == k) := by
              rw [e1, ← h1]
              show (y == z) = (z == y)
              exact Bool.eq_iff_iff.mpr ⟨fun c => beq_iff_eq.mpr (beq_iff_eq.mp c).symm, fun c => beq_iff_eq.mpr (beq_iff_eq.mp c).symm⟩
            rw [w]
            cases (z == k) with
            | true => rfl
            | false => exact i2
          · cases h1
    obtain ⟨h1, h2⟩ := key _ _ h
    cases f : es.toList.find? (·.key.isStr z) with
    | some e =>
      rw [f] at h2
      exact ⟨_, rfl, h2⟩
    | none =>
      rw [f] at h2
      refine ⟨none, ?_, h2⟩
      dsimp only
      rw [h1]
      rfl
  · cases h
def tupB (K : PySem.W.Frag) (a : Addr) (vs : List V) : Bool := match K.lookup a with
  | some o => decide (o.cls = .type "tuple") && (match o.data with
    | .seq its _ => decide (its.size ≤ 1000) && He.relAll vs its.toList
    | _ => false)
  | none => false
theorem tupB_ok {K : PySem.W.Frag} {a : Addr} {vs : List V} (h : tupB K a vs = true) (H : Hp) : SqT K H a vs := by
  unfold tupB at h
  split at h
  · rename_i o q
    obtain ⟨h1, h2⟩ := He.ba h
    split at h2
    · rename_i its n e
      obtain ⟨h3, h4⟩ := He.ba h2
      exact .inr ⟨o, its, n, q, of_decide_eq_true h1, e, Nat.le_trans (of_decide_eq_true h3) (by rw [sizeLine_eq]; decide), He.relAll_ok h4⟩
    · cases h2
  · cases h
/-- what a written tuple names -/
def refsIn (K : PySem.W.Frag) (a : Addr) : List Addr := match K.lookup a with
  | some o => (match o.data with
    | .seq its _ => its.toList.flatMap He.refV
    | _ => [])
  | none => []
/-- the value of a written dict at a key, an object -/
def refOf (K : PySem.W.Frag) (a : Addr) (z : Str) : Addr := match PySem.W.nsIn K a z with
  | some (some (.ref l)) => l
  | _ => 0
def refB (K : PySem.W.Frag) (a : Addr) (z : Str) : Bool := He.eqO (PySem.W.nsIn K a z) (some (some (.ref (refOf K a z))))
/-! ### an error class with one attribute -/
def ercB (K : PySem.W.Frag) (b : Bs) (x f : Str) : Bool := (He.Fa.glo x).ok K && (ecB K b (He.ga K x) && ((He.Fa.meth x "__init__").ok K && (He.Fa.noat x f).ok K))
theorem binds_kw {K : PySem.W.Frag} {x q fl : Str} {params : Arguments} {body : List Stmt} {scope : Scope} {f : Addr} {fd : FuncData} (F : FunD K x q params body scope [] [] f fd)
    (hk : ∀ (kV doc pm : Value) (an : Option Addr) (cdv ct u v : Value), bindArgs (PySem.W.fnOf x q params body scope .none kV doc pm an cdv ct) ⟨[u], [(fl, v)]⟩ = pure [(("self" : Str), u), (fl, v)]) (sh : Shared) (a : Addr) (zs : List Value)
    (hl : zs.length = [fl].length) : BindsTo sh fd ⟨[Value.ref a], [fl].zip zs⟩ (("self" :: [fl] : List Str).zip (Value.ref a :: zs)) := by
  obtain ⟨oc, od, dV, kV, doc, pm, an, cdv, ct, osl, rfl, lk, hcd, hD, hK⟩ := F.ex
  match zs, hl with
  | [v], _ =>
    rcases hD with ⟨_, rfl⟩ | ⟨e, _⟩
    · exact .of_eq (hk kV doc pm an cdv ct _ v)
    · exact absurd rfl e
section
variable {P : Program} {w : World} {K : PySem.W.Frag} {mg : Str → Option Value} {base h : Heap}
theorem erc_of {st : Stmt} {x q fl : Str} {b : Bs} {p1 p2 p3 p4 : Pos} (X : K.In h) (G : h.Ns mainGlobals mg) (e : ercB K b x fl = true) (ok : b.Ok)
    (hF : ∃ fd, FunD K "__init__" q (defArgs st) (defBody st) (defScope st) [] [] (He.ma K (He.ga K x) "__init__") fd) (hbody : defBody st = [.Assign [.Attribute (.Name "self" p1) fl p2] (.Name fl p3) p4])
    (S : FnScope ["self", fl] ["self", fl] (defScope st)) (h0 : (defScope st).names.lookup ("self" : Str) = some .local) (h1 : (defScope st).names.lookup fl = some .local) (hd : (fl == ("__debug__" : Str)) = false) (hcd : (fl == ("__classdict__" : Str)) = false)
    (hp : ∀ (kV doc pm : Value) (an : Option Addr) (cdv ct : Value) (us : List Value), us.length = (["self", fl] : List Str).length → bindArgs (PySem.W.fnOf "__init__" q (defArgs st) (defBody st) (defScope st) .none kV doc pm an cdv ct) ⟨us, []⟩ = pure ((["self", fl] : List Str).zip us))
    (hk : ∀ (kV doc pm : Value) (an : Option Addr) (cdv ct u v : Value), bindArgs (PySem.W.fnOf "__init__" q (defArgs st) (defBody st) (defScope st) .none kV doc pm an cdv ct) ⟨[u], [(fl, v)]⟩ = pure [(("self" : Str), u), (fl, v)]) :
    ErC P w K mg base x fl b (He.ga K x) := by
  obtain ⟨e1, e2⟩ := He.ba e
  obtain ⟨e2, e3⟩ := He.ba e2
  obtain ⟨e3, e4⟩ := He.ba e3
  have m := He.meth_ok e3
  obtain ⟨fd, F⟩ := hF
  refine ⟨He.glo_ok X G e1, ecB_ok ok e2, He.noat_ok e4, _, fd, m.1, beq_iff_eq.mp m.2, ?_, F.bindsN hp, binds_kw F hk⟩
  rw [hbody] at F
  exact init_ok F S h0 h1 hd hcd
end
end L2.Tb
set_option Elab.async false
set_option linter.all false
set_option maxRecDepth 100000
set_option maxHeartbeats 4000000
/-! sorted(..) of tuples of ints of either sign: a list of them, a set of them -/
namespace L2.Tb
open PySem PySem.Spec PyProof.Rows
def Wi (B : Int) (ns : List Int) : Prop := ∀ m ∈ ns, -B ≤ m ∧ m < B
/-- a rank in the tuples' order -/
def rk (B : Int) (ns : List Int) : Int := TS.code (B + B) (ns.map fun m => m + B)
theorem Wi.bd {B : Int} {ns : List Int} (h : Wi B ns) : TS.Bd (B + B) (ns.map fun m => m + B) := fun m hm => by
  obtain ⟨k, hk, rfl⟩ := List.mem_map.mp hm
  have := h k hk
  constructor <;> omega
theorem Wi.rest {B d : Int} {ns : List Int} (h : Wi B (d :: ns)) : Wi B ns := fun m hm => h m (List.mem_cons_of_mem _ hm)
theorem rk_lt {B d e : Int} {u v : List Int} (hl : u.length = v.length) (hu : Wi B u) (hv : Wi B v) (h : d < e) : rk B (d :: u) < rk B (e :: v) :=
  TS.code_lt (d := d + B) (e := e + B) (by rw [List.length_map, List.length_map]; exact hl) hu.bd hv.bd (by omega)
theorem rk_same {B d : Int} {u v : List Int} (hl : u.length = v.length) : rk B (d :: u) < rk B (d :: v) ↔ rk B u < rk B v :=
  TS.code_same (d := d + B) (by rw [List.length_map, List.length_map]; exact hl)
theorem rk_ne {B d e : Int} {u v : List Int} (hl : u.length = v.length) (hu : Wi B u) (hv : Wi B v) (n : d ≠ e) : rk B (d :: u) < rk B (e :: v) ↔ d < e := by
  refine ⟨fun h => ?_, rk_lt hl hu hv⟩
  rcases Int.lt_or_gt_of_ne n with c | c
  · exact c
  · exact absurd (rk_lt hl.symm hv hu c) (Int.not_lt.mpr (Int.le_of_lt h))
/-- the rank tells the tuple -/
theorem rk_inj {B : Int} : ∀ {u v : List Int}, u.length = v.length → Wi B u → Wi B v → rk B u = rk B v → u = v
  | [], [], _, _, _, _ => rfl
  | d :: u, e :: v, hl, hu, hv, h => by
    have hl' : u.length = v.length := by simpa using hl
    by_cases c : d = e
    · subst c
      have t : rk B u = rk B v := by
        rcases Int.lt_trichotomy (rk B u) (rk B v) with z | z | z
        · have := (rk_same (d := d) hl').mpr z
          omega
        · exact z
        · have := (rk_same (d := d) hl'.symm).mpr z
          omega
      rw [rk_inj hl' hu.rest hv.rest t]
    · rcases Int.lt_or_gt_of_ne c with z | z
      · have := rk_lt hl' hu.rest hv.rest z
        omega
      · have := rk_lt hl'.symm hv.rest hu.rest z
        omega
  | [], _ :: _, hl, _, _, _ => by simp at hl
  | _ :: _, [], hl, _, _, _ => by simp at hl
section
variable {P : Program} {w : World} {A : Around} {E : Value → Shared → Prop} {s : Shared}
theorem lexW {Q : Bool → Shared → Prop} {B : Int} {b : Bool} : ∀ {us vs : List Value} {ns ms : List Int} (i : Nat), IntsAre us ns → IntsAre vs ms → ns.length = ms.length → Wi B ns → Wi B ms → Q (decide (rk B ns < rk B ms)) s →
    PySem.W.KatLex P w A b false Q (us.zip vs) i s
  | _, _, _, _, i, .nil, .nil, _, _, _, h => PySem.W.kat_nil (by rw [decide_eq_false (Int.lt_irrefl _)] at h; exact h)
  | _, _, _, _, i, .cons p t a, .cons q u c, hl, w1, w2, h => by
    have l2 := Nat.succ.inj hl
    refine PySem.W.kat_cons (wpAny_eqBool_int ?_)
    by_cases e : p = q
    · rw [e, beq_self_eq_true]
      rw [e, decide_eq_decide.mpr (rk_same l2)] at h
      exact PySem.W.kat_yes (lexW (i + 1) a c l2 w1.rest w2.rest h)
    · rw [beq_eq_false_iff_ne.mpr e]
      rw [decide_eq_decide.mpr (rk_ne l2 w1.rest w2.rest e)] at h
      exact PySem.W.kat_no (TS.oneLt_ints _ h)
  | _, _, _, _, _, .nil, .cons .., hl, _, _, _ => by simp at hl
  | _, _, _, _, _, .cons .., .nil, hl, _, _, _ => by simp at hl
/-- tuples of d ints each -/
def TpsOk (h : Heap) (d : Nat) (B : Int) (vs : List Value) : Prop := ∀ v ∈ vs, ∃ ns, TS.TupInts h v ns ∧ ns.length = d ∧ Wi B ns
theorem TpsOk.keeps {h h' : Heap} {d : Nat} {B : Int} {vs : List Value} (x : TpsOk h d B vs) (k : ∀ b o, h.get? b = some o → o.cls = .type "tuple" → h'.get? b = some o) : TpsOk h' d B vs := fun v hv => by
  obtain ⟨ns, t, q⟩ := x v hv
  exact ⟨ns, t.keeps k, q⟩
theorem heads_of {h : Heap} {d : Nat} {B : Int} (d1 : 1 ≤ d) : ∀ vs : List Value, TpsOk h d B vs → ∃ fs, PySem.W.KatTups h vs fs ∧ fs.length = vs.length ∧ ∀ f ∈ fs, ∃ n t, f = Value.int n t
  | [], _ => ⟨[], .nil, rfl, fun f hf => by cases hf⟩
  | v :: vs, x => by
    obtain ⟨fs, kt, len, all⟩ := heads_of d1 vs fun u hu => x u (List.mem_cons_of_mem _ hu)
    obtain ⟨ns, ⟨a, items, rfl, ⟨ob, g1, g2, m, g3⟩, ia⟩, ln, _⟩ := x v (List.mem_cons_self ..)
    cases e : items.toList with
    | nil =>
      rw [e] at ia
      have z := ia.length
      rw [ln] at z
      exact absurd (z ▸ d1 : 1 ≤ ([] : List Value).length) (by decide)
    | cons y ys =>
      obtain ⟨n, t, ey⟩ := ia.all y (by rw [e]; exact List.mem_cons_self ..)
      have g4 : items[0]? = some y := by rw [← Array.getElem?_toList, e]; rfl
      refine ⟨y :: fs, .cons g1 g2 g3 g4 kt, congrArg Nat.succ len, fun f hf => ?_⟩
      rcases List.mem_cons.mp hf with rfl | hf
      · exact ⟨n, t, ey⟩
      · exact all f hf
theorem kindW {d : Nat} {B : Int} {vs : List Value} (d1 : 1 ≤ d) (two : 2 ≤ vs.length) (x : TpsOk s.heap d B vs) (r : Value → Int) (hr : ∀ v ∈ vs, ∀ ns, TS.TupInts s.heap v ns → r v = rk B ns) (Q : SortKind → Shared → Prop)
    (h : ∀ κ, TS.Cmp P w A s κ (pairsOf vs) r → Q κ s) : wpAny (model P w) A (keyKind' vs.toArray) Q E s := by
  obtain ⟨fs, kt, len, all⟩ := heads_of d1 vs x
  refine PySem.W.kat_kind (T := Value.type "int") kt (by omega) (fun f hf => ?_) rfl (h _ fun p q mp mq Q2 E2 goal => ?_)
  · obtain ⟨n, t, rfl⟩ := all f hf
    exact PySem.W.Looks.of_pure rfl
  · rw [pairsOf_toList] at mp mq
    have m1 := (mem_zip_self mp).2
    have m2 := (mem_zip_self mq).2
    obtain ⟨ns, t1, l1, w1⟩ := x _ m1
    obtain ⟨ms, t2, l2, w2⟩ := x _ m2
    have g : Q2 (decide (rk B ns < rk B ms)) s := by
      rw [← hr _ m1 _ t1, ← hr _ m2 _ t2]
      exact goal
    obtain ⟨a1, i1, e1, ⟨o1, p1, c1, n1, y1⟩, z1⟩ := t1
    obtain ⟨a2, i2, e2, ⟨o2, p2, c2, n2, y2⟩, z2⟩ := t2
    rw [e1, e2]
    refine PySem.W.kat_lt p1 y1 p2 y2 ?_
    have k1 := z1.length
    have k2 := z2.length
    rw [Array.length_toList] at k1 k2
    rw [show decide (i1.size < i2.size) = false from decide_eq_false (by omega)]
    exact lexW 0 z1 z2 (by omega) w1 w2 g
theorem sortW {a : Addr} {vs : List Value} {n d : Nat} {B : Int} {R : PySem.Fin → Shared → Prop} (at_ : s.heap.get? a = some (seqObj "list" vs.toArray n)) (few : vs.length < 64) (d1 : 1 ≤ d) (x : TpsOk s.heap d B vs)
    (r : Value → Int) (hr : ∀ v ∈ vs, ∀ ns, TS.TupInts s.heap v ns → r v = rk B ns)
    (h : ∀ out : Array Value, out.toList.Perm vs → out.toList.Pairwise (fun u v => r u ≤ r v) → R (.done (.ret .none)) { s with heap := sortedHeap s.heap a vs out }) : wpAny (model P w) A (Builtin.«list.sort» ⟨[.ref a], []⟩) R E s := by
  have stay : ∀ b o, s.heap.get? b = some o → o.cls = .type "tuple" → (TS.midHeap s.heap a vs).get? b = some o := fun b o e hc => by
    refine TS.midHeap_old (fun z => ?_) e
    rw [z, at_] at e
    cases e
    have y : Value.type "list" = Value.type "tuple" := hc
    injection y with y
    exact absurd y (by decide)
  refine SK.plain_sort (r := r) at_ few (fun two Q hQ => ?_) fun ps out q1 q2 q3 => ?_
  · refine kindW (s := { s with heap := TS.midHeap s.heap a vs }) d1 two (x.keeps stay) r (fun v hv ns t => ?_) Q hQ
    obtain ⟨ms, t0, _⟩ := x v hv
    rw [t.ints.symm.trans (t0.keeps stay).ints]
    exact hr v hv ms t0
  · obtain ⟨z1, z2⟩ := TS.out_rank q1 q2 q3
    exact h out z1 z2
/-- sorted(xs) of a list -/
theorem sortedW {l : Addr} {vs : List Value} {d : Nat} {B : Int} {Q : Value → Shared → Prop} (hl : s.heap.IsList l vs.toArray) (few : vs.length < 64) (d1 : 1 ≤ d) (x : TpsOk s.heap d B vs)
    (h : ∀ out : Array Value, out.toList.Perm vs → out.toList.Pairwise (fun u v => rk B (TS.intsOf s.heap u) ≤ rk B (TS.intsOf s.heap v)) → Q (.ref (s.heap.objs.size + 1)) { s with heap := sortedAll s.heap vs out }) :
    wpAny (model P w) A (call (.builtin "sorted") [.ref l]) Q E s := by
  have big : vs.length ≤ sizeLine := by rw [sizeLine_eq]; omega
  refine Calls.call_function_entry kind_sorted PyProof.Rows.plain_sorted entry_sorted (args_sorted1 _) ?_
  unfold Builtin.«sorted»
  refine wpAny_bind (m := checkCount "sorted" 1 1 _) (wpAny_pure (wpAny_bind (collect_list hl ?_ big)))
  refine wpAny_bind (wpAny_newList ?_ big)
  let h1 : Heap := (s.heap.push (seqObj "list" #[] 0)).update s.heap.objs.size (Obj.mapSeq (· ++ vs.toArray))
  have z1 : h1.objs.size = s.heap.objs.size + 1 := by
    show ((s.heap.push (seqObj "list" #[] 0)).update s.heap.objs.size (Obj.mapSeq (· ++ vs.toArray))).objs.size = _
    rw [Heap.size_update, size_push']
  have at_ : (h1.push (seqObj "list" vs.toArray 0)).get? (s.heap.objs.size + 1) = some (seqObj "list" vs.toArray 0) := by
    rw [← z1]
    exact Heap.get?_push_size _ rfl
  have stay : ∀ b o, s.heap.get? b = some o → o.cls = .type "tuple" → (h1.push (seqObj "list" vs.toArray 0)).get? b = some o := fun b o e _ => by
    have lt := Heap.lt_size e
    rw [Heap.get?_push_ne _ _ _ (by rw [z1]; exact Nat.ne_of_lt (Nat.lt_succ_of_lt lt))]
    exact (Heap.get?_update_ne _ _ _ _ (Nat.ne_of_lt lt)).trans ((Heap.get?_push_ne _ _ _ (Nat.ne_of_lt lt)).trans e)
  show wpAny _ _ _ _ _ { s with heap := h1.push (seqObj "list" vs.toArray 0) }
  have z2 : ({ s with heap := h1 } : Shared).heap.objs.size = s.heap.objs.size + 1 := z1
  refine wpAny_bind (wpAny_holding ?_)
  show wpAny (model P w) A.in1 (call (.builtin "list.sort") [.ref h1.objs.size]) _ _ { s with heap := h1.push (seqObj "list" vs.toArray 0) }
  rw [z1]
  refine wpAny_call_entry slot_list_sort ⟨_, at_, rfl⟩ entry_list_sort (sortW at_ few d1 (x.keeps stay) (fun v => rk B (TS.intsOf s.heap v)) (fun v hv ns t => ?_) fun out a1 a2 => ⟨_, rfl, ?_⟩) (args_list_sort _)
  · obtain ⟨ms, t0, _⟩ := x v hv
    show rk B (TS.intsOf s.heap v) = rk B ns
    rw [t0.ints, ← (t0.keeps stay).ints, t.ints]
  · show wpAny _ _ (pure _) _ _ _
    exact wpAny_pure ⟨_, rfl, h out a1 a2⟩
end
/-! ### as rules -/
theorem perm_back {α β : Type} {f : α → β} {l m : List β} (h : l.Perm m) : ∀ ks : List α, m = ks.map f → ∃ L : List α, L.Perm ks ∧ l = L.map f := by
  induction h with
  | nil => exact fun ks e => ⟨ks, .refl _, e⟩
  | cons x _ ih =>
    intro ks e
    cases ks with
    | nil => cases e
    | cons k ks =>
      rw [List.map_cons] at e
      injection e with e1 e2
      obtain ⟨L, p, q⟩ := ih ks e2
      exact ⟨k :: L, p.cons k, by rw [List.map_cons, ← q, e1]⟩
  | swap x y l =>
    intro ks e
    match ks, e with
    | k1 :: k2 :: ks, e =>
      rw [List.map_cons, List.map_cons] at e
      injection e with e1 e2
      injection e2 with e2 e3
      exact ⟨k2 :: k1 :: ks, .swap .., by rw [List.map_cons, List.map_cons, ← e1, ← e2, ← e3]⟩
  | trans _ _ i1 i2 =>
    intro ks e
    obtain ⟨L, p, q⟩ := i2 ks e
    obtain ⟨M, p2, q2⟩ := i1 L q
    exact ⟨M, p2.trans p, q2⟩
/-- addresses of tuples of d ints -/
def Tps (K : PySem.W.Frag) (H : Hp) (d : Nat) (B : Int) (ks : List (Addr × List Int)) : Prop := ∀ p ∈ ks, SqT K H p.1 (p.2.map V.int) ∧ p.2.length = d ∧ Wi B p.2
def rSortW (K : PySem.W.Frag) (d : Nat) (B : Int) : List V → Hp → VK → Prop := fun vs H Q => ∃ (a : Addr) (ks : List (Addr × List Int)), vs = [.ref a] ∧ SqL K H a (ks.map fun p => V.ref p.1) ∧ ks.length < 64 ∧ Tps K H d B ks ∧
  ∀ (L : List (Addr × List Int)) (p : Addr), L.Perm ks → L.Pairwise (fun q r => rk B q.2 ≤ rk B r.2) → H p = none → Q (.ref p) (upd H p (.lst (L.map fun q => V.ref q.1)))
theorem ranks {B : Int} {h : Heap} {L ks : List (Addr × List Int)} {out : List Value} (e : out = L.map fun q => Value.ref q.1) (pm : L.Perm ks) (tk : ∀ q ∈ ks, TS.TupInts h (.ref q.1) q.2)
    (pw : out.Pairwise (fun u v => rk B (TS.intsOf h u) ≤ rk B (TS.intsOf h v))) : L.Pairwise (fun q r => rk B q.2 ≤ rk B r.2) := by
  subst e
  refine List.Pairwise.imp_of_mem (fun {q r} hq hr z => ?_) (List.pairwise_map.mp pw)
  rw [(tk q (pm.mem_iff.mp hq)).ints, (tk r (pm.mem_iff.mp hr)).ints] at z
  exact z
theorem cr_sortW {X : Cx} {d : Nat} {B : Int} (d1 : 1 ≤ d) : CallR X (.builtin "sorted") (rSortW X.K d B) := by
  intro pins s σ H vs us Q I r h
  obtain ⟨a, ks, rfl, hs, few, tp, q⟩ := h
  obtain ⟨its, rv, pl, _⟩ := I.list hs
  rw [Vals.ref1 r]
  have ei : its = ks.map fun p => Value.ref p.1 := refs_of_vals rv
  have tk : ∀ p ∈ ks, TS.TupInts s.heap (.ref p.1) p.2 := fun p hp => tupI_raw I (tp p hp).1
  refine sortedW (d := d) (B := B) pl.isList (by rw [ei, List.length_map]; exact few) d1 (fun v hv => ?_) fun out a1 a2 => ?_
  · rw [ei] at hv
    obtain ⟨p, hp, rfl⟩ := List.mem_map.mp hv
    exact ⟨p.2, tk p hp, (tp p hp).2⟩
  · obtain ⟨L, pm, e⟩ := perm_back a1 ks ei
    obtain ⟨ep, at_⟩ := PyProof.Rows.sortedAll_at s.heap its out
    refine ⟨.ref _, upd H (s.heap.objs.size + 1) (.lst (L.map fun q => V.ref q.1)), I.laid (t' := s.toks) (fun _ _ => PyProof.Rows.sortedAll_old) (Nat.le_succ _) ⟨?_, out.toList, ep, ?_, at_⟩, rfl, q L _ pm (ranks e pm tk a2) (I.hok.fresh (Nat.le_succ _))⟩
    · rw [List.length_map, pm.length_eq, sizeLine_eq]
      omega
    · rw [e]
      exact vals_of_refs L
/-- sorted of a set -/
def rSortWS (K : PySem.W.Frag) (P : Program) (w : World) (d : Nat) (B : Int) : List V → Hp → VK → Prop := fun vs H Q => ∃ (a : Addr) (ks : List (Addr × List Int)), vs = [.ref a] ∧ H a = some (SetTO P w a ks) ∧ Tps K H d B ks ∧
  ∀ (L : List (Addr × List Int)) (p : Addr), L.Perm ks → (L.map (·.2)).Nodup → L.length < 64 → L.Pairwise (fun q r => rk B q.2 ≤ rk B r.2) → H p = none → Q (.ref p) (upd H p (.lst (L.map fun q => V.ref q.1)))
theorem sortedWS {P : Program} {w : World} {A : Around} {E : Value → Shared → Prop} {s : Shared} {a : Addr} {ks : List (Addr × List Int)} {es : Array (Int × Value)} {ep : Nat} {t : SetTable} {Q : Value → Shared → Prop} {d : Nat} {B : Int} (R : SetTR P w s.heap a ks es ep t) (hh : A.handled = none)
    (d1 : 1 ≤ d) (hB : ∀ p ∈ ks, p.2.length = d ∧ Wi B p.2)
    (q : ∀ s2 p (out : Array Value) (c : Nat) (L : List (Addr × List Int)), (∀ b o, s.heap.get? b = some o → s2.heap.get? b = some o) → s2.gens = s.gens → s2.os = s.os → s.heap.objs.size ≤ p →
      s2.heap.get? p = some (seqObj "list" out c) → out.toList = L.map (fun z => Value.ref z.1) → L.Perm ks → L.Pairwise (fun y z => rk B y.2 ≤ rk B z.2) → Q (.ref p) s2) : wpAny (model P w) A (call (.builtin "sorted") [.ref a]) Q E s := by
  obtain ⟨o, g1, g2, g3⟩ := R.ob
  have few := R.few
  have sz := R.size
  refine Calls.call_function_entry kind_sorted PyProof.Rows.plain_sorted entry_sorted (args_sorted1 _) ?_
  unfold Builtin.«sorted»
  refine wpAny_bind (m := checkCount "sorted" 1 1 _) (wpAny_pure (wpAny_bind (collect_set (A := A.in1) hh ⟨o, g1, g2.1, g3⟩ R.fits (by unfold scanBound; omega) R.tab.ris R.led fun s1 vs k1 up gg oo pm => ?_)))
  have vals : es.toList.map (·.2) = ks.map fun z => Value.ref z.1 := by
    rw [R.rows]
    unfold rowsOf
    rw [List.map_map]
    rfl
  rw [vals] at pm
  obtain ⟨M, pM, eM⟩ := perm_back pm ks rfl
  have lM : vs.length < 64 := by rw [eM, List.length_map, pM.length_eq]; exact few
  refine wpAny_bind (wpAny_newList ?_ (by rw [sizeLine_eq]; omega))
  have at_ : (s1.heap.push (seqObj "list" vs.toArray 0)).get? s1.heap.objs.size = some (seqObj "list" vs.toArray 0) := Heap.get?_push_size _ rfl
  have tk : ∀ z ∈ ks, TS.TupInts (s1.heap.push (seqObj "list" vs.toArray 0)) (.ref z.1) z.2 := fun z hz => tupInts_of (P := P) (w := w) (isT_keep (R.tup z hz) fun b u e => Heap.get?_push_of_some _ (k1 b u e))
  have okM : TpsOk (s1.heap.push (seqObj "list" vs.toArray 0)) d B vs := fun v hv => by
    rw [eM] at hv
    obtain ⟨z, hz, rfl⟩ := List.mem_map.mp hv
    have hk := pM.mem_iff.mp hz
    exact ⟨z.2, tk z hk, hB z hk⟩
  refine wpAny_bind (wpAny_holding (wpAny_call_entry slot_list_sort ⟨_, at_, rfl⟩ entry_list_sort (sortW (s := { s1 with heap := s1.heap.push (seqObj "list" vs.toArray 0) }) at_ lM d1 okM (fun v => rk B (TS.intsOf (s1.heap.push (seqObj "list" vs.toArray 0)) v)) (fun v hv ns t => by
    show rk B (TS.intsOf (s1.heap.push (seqObj "list" vs.toArray 0)) v) = rk B ns
    rw [t.ints]) fun out a1 a2 => ⟨_, rfl, ?_⟩) (args_list_sort _)))
  obtain ⟨c, hc⟩ := sortedHeap_at (vs := vs) (out := out) at_
  obtain ⟨L, pL, eL⟩ := perm_back a1 M eM
  refine wpAny_pure ⟨_, rfl, q _ s1.heap.objs.size out c L (fun b u e => ?_) gg oo up hc eL (pL.trans pM) (ranks eL (pL.trans pM) tk a2)⟩
  have e1 := k1 b u e
  have lt := Heap.lt_size e1
  show (sortedHeap (s1.heap.push (seqObj "list" vs.toArray 0)) s1.heap.objs.size vs out).get? b = some u
  rw [sortedHeap_old (Nat.ne_of_lt lt) (by rw [size_push']; exact Nat.lt_succ_of_lt lt)]
  exact Heap.get?_push_of_some _ e1
theorem cr_sortWS {X : Cx} {d : Nat} {B : Int} (hc : X.calm = true) (d1 : 1 ≤ d) : CallR X (.builtin "sorted") (rSortWS X.K X.prog X.w d B) := by
  intro pins s σ H vs us Q I r h
  obtain ⟨a, ks, rfl, ha, tp, q⟩ := h
  have R0 : SetT0 X.prog X.w s.heap a ks := (I.hok a _ ha).1
  obtain ⟨es, ep, t, R⟩ := R0.full fun p hp => I.isT (tp p hp).1
  rw [Vals.ref1 r]
  refine sortedWS R (I.ok.hd hc) d1 (fun p hp => (tp p hp).2) fun s2 p out c L k gg oo up at_ eo pm pw => ?_
  have few : L.length < 64 := pm.length_eq ▸ R.few
  have nw : H p = none := I.hok.fresh up
  have len : (L.map fun z => V.ref z.1).length ≤ sizeLine := by
    rw [List.length_map, sizeLine_eq]
    omega
  have vl : Vals (L.map fun z => V.ref z.1) out.toList := eo ▸ vals_of_refs L
  have es2 : s2 = { s with heap := s2.heap, gens := s2.gens, drawn := s2.drawn, toks := s2.toks } := by
    obtain ⟨_, _, _, _, _⟩ := s2
    obtain ⟨_, _, _, _, _⟩ := s
    cases oo
    rfl
  have J : Inv X pins σ (upd H p (.lst (L.map fun z => V.ref z.1))) { s with heap := s2.heap, gens := s2.gens, drawn := s2.drawn, toks := s2.toks } :=
    I.call (ch := []) (Un.laid k up nw) (I.hok.laid k up ⟨len, out.toList, c, vl, at_⟩) (by rw [gg]; exact I.bare) (fun _ z => nomatch z)
  rw [es2]
  exact ⟨.ref p, _, J, rfl, q L p pm ((pm.map (·.2)).nodup_iff.mpr R.nd) few pw nw⟩
end L2.Tb
set_option Elab.async false
set_option linter.all false
set_option maxRecDepth 100000
set_option maxHeartbeats 4000000
/-! {e for x in ..}, e a tuple of ints -/
namespace L2.Tb
open PySem PySem.Spec PySem.Calls PyProof.Rows PpSet
section
variable {P : Program} {w : World} {A : Around} {E : Value → Shared → Prop} {s : Shared} {a x : Addr} {k : List Int} {L : List (Addr × List Int)}
/-- what L becomes by k at x -/
def Added (L L2 : List (Addr × List Int)) (x : Addr) (k : List Int) : Prop := (k ∈ L.map (·.2) → L2 = L) ∧ (k ∉ L.map (·.2) → L2.Perm ((x, k) :: L))
theorem setT_add {es : Array (Int × Value)} {ep : Nat} {t : SetTable} {Q : Value → Shared → Prop} (R : SetTR P w s.heap a L es ep t) (kx : IsT P w s.heap k x) (hu : A.units + 3 < cLine) (few : L.length + 1 < 64)
    (q : ∀ h2 tk L2 es2 ep2 t2, Heap.SameBut a s.heap h2 → SetTR P w h2 a L2 es2 ep2 t2 → Added L L2 x k → Q .none { s with heap := h2, toks := tk }) : wpAny (model P w) A (call (.builtin "set.add") [.ref a, .ref x]) Q E s := by
  obtain ⟨o, g1, g2, g3⟩ := R.ob
  refine wpAny_call_entry F.slot_set_add ⟨o, g1, g2.1⟩ F.entry_set_add ?_ (F.args_set_add_2 _ _)
  unfold Builtin.«set.add» Builtin.Frozenset.oneOther
  simp only [List.isEmpty_nil, bind_assoc]
  unfold Builtin.Frozenset.addrOf setAdd
  refine wpAny_bind (wpAny_pure ?_)
  try dsimp only
  refine wpAny_bind (wpAny_pure ?_)
  try dsimp only
  refine wpAny_bind (wpAny_holding (wpAny_bind (wpAny_pyHash_tuple (by first | exact Nat.lt_of_le_of_lt (Nat.le_add_right _ 3) hu | (show A.units + 1 < cLine; omega) | (show A.units + 2 < cLine; omega)) kx ?_)))
  refine add_at (s := { s with toks := s.toks + (k.length + 1) }) R kx (by first | exact Nat.lt_of_le_of_lt (Nat.le_add_right _ 3) hu | (show A.units + 1 < cLine; omega) | (show A.units + 2 < cLine; omega)) few fun b h2 L2 es2 ep2 t2 sb R2 c1 c2 => ?_
  show wpAny _ _ (ret Value.none) _ _ _
  exact wpAny_pure ⟨_, rfl, q h2 _ L2 es2 ep2 t2 sb R2 ⟨c1, c2⟩⟩
end
section
variable {X : Cx}
theorem addT_ok {pins : List (Addr × Obj)} {σ : L2.St} {H : Hp} {s : Shared} {E : Value → Shared → Prop} {D x : Addr} {k : List Int} {L : List (Addr × List Int)} {Q : Value → Shared → Prop} (I : Inv X pins σ H s) (hD : H D = some (SetTO X.prog X.w D L))
    (tp : ∀ p ∈ L, SqT X.K H p.1 (p.2.map V.int)) (hx : SqT X.K H x (k.map V.int)) (hu : X.A.units + 64 < cLine) (few : L.length + 1 < 64)
    (q : ∀ s2 L2, Added L L2 x k → Inv X pins σ (upd H D (SetTO X.prog X.w D L2)) s2 → Q .none s2) : wpAny (model X.prog X.w) X.A (call (.builtin "set.add") [.ref D, .ref x]) Q E s := by
  have R0 : SetT0 X.prog X.w s.heap D L := (I.hok D _ hD).1
  obtain ⟨es, ep, t, R⟩ := R0.full fun p hp => I.isT (tp p hp)
  refine setT_add R (I.isT hx) (by omega) few fun h2 tk L2 es2 ep2 t2 sb R2 ad => ?_
  have there : ∃ u, h2.get? D = some u := by
    obtain ⟨u, e, _⟩ := R2.ob
    exact ⟨u, e⟩
  exact q _ L2 ad (I.write (e := D) (t' := tk) (by rw [hD]; trivial) (.inl rfl) (fun b u hb hu => (sb.2 b hb).trans hu) there (setTO_new R2.t0))
/-- one turn's wish: the new element joins -/
def joins (P : Program) (w : World) (K : PySem.W.Frag) (D : Addr) (Nx : Hp → Prop) : V → Hp → Prop := fun y H => ∃ (x : Addr) (k : List Int) (L : List (Addr × List Int)), y = .ref x ∧ SqT K H x (k.map V.int) ∧ H D = some (SetTO P w D L) ∧ (∀ p ∈ L, SqT K H p.1 (p.2.map V.int)) ∧ L.length + 1 < 64 ∧
  ∀ L2, Added L L2 x k → Nx (upd H D (SetTO P w D L2))
def tScT (P : Program) (w : World) (K : PySem.W.Frag) (wi : TI) (g : TG) (tt : TT) (te : TE) (vs : List Nat) : TE := fun σ H Q => wi σ H fun J H1 => ∀ D, H1 D = none → ∃ W : Nat → Nat → Hp → Prop, (∃ m, W 0 m (upd H1 D (SetTO P w D []))) ∧ ∀ i m G, W i m G →
  (J.stop i G ∧ Q (.ref D) G) ∨ (J.go i G ∧ ∃ Nx : Hp → Prop, (∀ G2, Nx G2 → ∃ m2, m2 < m ∧ W (i + 1) m2 G2) ∧ ∀ x G2, J.yld i G x G2 → g x (wipe σ vs) G2 fun σ2 G3 => wipe σ2 vs = wipe σ vs ∧ tt σ2 G3 fun b G4 => if b = true then te σ2 G4 (joins P w K D Nx) else Nx G4)
theorem pe_scT {elt tg iter : Expr} {ifs : List Expr} {scope : Scope} {own : List (PySem.Str × Nat)} {pos : Pos} {wi : TI} {g : TG} {tt : TT} {te : TE} (calm : X.calm = true) (nd : X.N.Nodup) (hu : X.A.units + 64 < cLine) (walk : PI X tg iter wi) (ok : BlkOk X.N X.env.scope scope own)
    (hg : ∀ (s : Shared) (H : Hp) (C : Addr) (cl : List (PySem.Str × Addr)) (fp : List Addr), PG (X.blk s H scope (compEnvC scope cl C X.env) fp) tg g) (ht : ∀ (s : Shared) (H : Hp) (C : Addr) (cl : List (PySem.Str × Addr)) (fp : List Addr), PTs (X.blk s H scope (compEnvC scope cl C X.env) fp) ifs tt)
    (he : ∀ (s : Shared) (H : Hp) (C : Addr) (cl : List (PySem.Str × Addr)) (fp : List Addr), PE (X.blk s H scope (compEnvC scope cl C X.env) fp) elt te) (fs : ∀ x, foldedSetIterable iter X.env x = pure x := by intro _; rfl) :
    PE X (.SetComp elt [⟨tg, iter, ifs, 0⟩] scope pos) (tScT X.prog X.w X.K wi g tt te (own.map (·.2))) := by
  refine ⟨fun pins s σ H Q I h => ?_⟩
  rw [eval_SetComp]
  have caps : ∀ y ∈ scope.names, y.2 = .free → ∃ c, X.env.cells.lookup y.1 = some c := fun y my ey =>
    (ok.free y my ey).elim (fun z => I.ok.has _ (.inl z)) fun z => I.ok.has _ (.inr z)
  refine wpAny_comprehension_free (use := none) rfl fs (closure_ok caps) ok.kind (fun y my ey => by rw [ok.uniq y my, ey]) (thn (walk.run pins s σ H _ I h) fun xv sa ha => thn ha fun itv sb hb => ?_)
  obtain ⟨it, fp, tn, J, Hb, e0, Ib, T, stb, fpb, q⟩ := hb
  subst e0
  refine newSet_ok (newEnv_comp ?_)
  generalize dD : sb.heap.objs.size = D
  have newD : Hb D = none := Ib.hok.fresh (Nat.le_of_eq dD)
  obtain ⟨W, ⟨m0, w0⟩, turn⟩ := q D newD
  let emp : Obj := { cls := .type "set", dict := none, data := .set #[] 0 (.fresh 0 0 (!X.w.params.followText "set-order")) }
  generalize dsc : ({ sb with heap := sb.heap.push emp } : Shared) = sc
  have hsc : sc.heap = sb.heap.push emp := by rw [← dsc]
  have Ic : Inv X pins σ (upd Hb D (SetTO X.prog X.w D [])) sc := by
    rw [← dsc, ← dD]
    refine Ib.laid (t' := sb.toks) (fun b o e => Heap.get?_push_of_some _ e) (Nat.le_refl _) (setTO_new (SetTR.t0 (setTR_fresh (Heap.get?_push_size _ rfl))))
  have small : ∀ b ∈ fp, b < sb.heap.objs.size := fun b mb => by
    obtain ⟨o, e, _⟩ := T.obj _ _ stb b mb
    exact Heap.lt_size e
  have fpc : ∀ b ∈ fp, FpOk X pins (upd Hb D (SetTO X.prog X.w D [])) b ∧ b < sc.heap.objs.size := fun b mb => by
    have lt := small b mb
    have nb : b ≠ D := by rw [← dD]; exact Nat.ne_of_lt lt
    exact ⟨⟨(upd_ne nb).trans (fpb b mb).1, (fpb b mb).2⟩, by rw [hsc, Heap.size_push]; exact Nat.lt_succ_of_lt lt⟩
  have stc : tn 0 sc.heap := T.keep _ _ _ stb fun b _ o e => by rw [hsc]; exact Heap.get?_push_of_some _ e
  have Id := block_start Ic ok nd fpc
  let cl := cellsFrom (sc.heap.objs.size + 1) scope.names (cloFrom X.env.cells scope.names [])
  have pg := hg sc (upd Hb D (SetTO X.prog X.w D [])) sc.heap.objs.size cl fp
  have pt := ht sc (upd Hb D (SetTO X.prog X.w D [])) sc.heap.objs.size cl fp
  have pe := he sc (upd Hb D (SetTO X.prog X.w D [])) sc.heap.objs.size cl fp
  show codeAny _ _ (.compStart (.SetComp elt [⟨tg, iter, ifs, 0⟩] scope pos) 0 (.ref it) (.ref D) (compEnvC scope cl sc.heap.objs.size X.env)) (compPost (model X.prog X.w) X.A X.xe none _ (.ref D) sc.heap.objs.size) { sc with heap := pushCells (sc.heap.push { cls := .type "dict", data := .dict #[] }) scope.names }
  have fpn : ∀ b ∈ fp, (upd Hb D (SetTO X.prog X.w D [])) b = none := fun b mb => (fpc b mb).1.1
  generalize dce : compEnvC scope cl sc.heap.objs.size X.env = ce at Id pg pt pe ⊢
  have loc : ce.locals = sc.heap.objs.size := by rw [← dce]; rfl
  generalize dHc : upd Hb D (SetTO X.prog X.w D []) = Hc at Ic Id pg pt pe w0 fpn fpc
  generalize dsd : ({ sc with heap := pushCells (sc.heap.push { cls := .type "dict", data := .dict #[] }) scope.names } : Shared) = sd at Id ⊢
  have std : tn 0 sd.heap := T.keep _ _ _ stc fun b _ o e => by rw [← dsd]; exact pushCells_keeps _ _ _ _ (Heap.get?_push_of_some _ e)
  have stays : ∀ {σ2 : L2.St} {G : Hp} {z : Shared}, Inv (X.blk sc Hc scope ce fp) [] σ2 G z → (∀ b ∈ fp, G b = none) → ∀ b ∈ fp, FpOk (X.blk sc Hc scope ce fp) [] G b := fun {σ2 G z} Iz nz b mb =>
    ⟨nz b mb, (Iz.ok.exf b mb).1, Iz.ok.exfs b mb, .inl mb, fun x c e => (Iz.ok.exf b mb).2 x c e, fun p mp => by cases mp⟩
  refine codeAny_compStart_set ?loop (T.self X.A 0 _ _ _ std ?loop)
  case loop =>
    refine compLoopS_any (fun n z => ∃ i G, Inv (X.blk sc Hc scope ce fp) [] (wipe σ (own.map (·.2))) G z ∧ tn i z.heap ∧ (∀ b ∈ fp, G b = none) ∧ W i n G) ?_ m0 ⟨0, Hc, Id, std, fpn, w0⟩
    rintro n se ⟨i, He, Ie, ste, fpe, we⟩
    rcases turn i n He we with ⟨halt, fin⟩ | ⟨goes, Nx, nxt, body⟩
    · refine thnF (T.done (X.blk sc Hc scope ce fp) rfl rfl rfl calm i [] se _ He (fun _ _ => False) Ie (stays Ie fpe) ste halt) fun r sf ⟨er, If⟩ => ?_
      subst er
      have Ig : Inv X pins σ He sf := Ic.call' (ch := fp) If.os If.base If.hok If.bare fun b mb => ⟨(fpc b mb).1.2.2.2.1, (fpc b mb).1.2.1, (fpc b mb).1.2.2.2.2.1, (fpc b mb).1.2.2.2.2.2⟩
      have nC : He sc.heap.objs.size = none := loc ▸ (show He ce.locals = none from If.free)
      obtain ⟨mm, hn, _⟩ := If.loc
      have hn : sf.heap.Ns sc.heap.objs.size mm := loc ▸ (show sf.heap.Ns ce.locals mm from hn)
      obtain ⟨y0, y1, y2, y3, y4, y5⟩ := Ic.fpOk (Nat.le_refl _) nC
      exact ⟨mm, hn, fun h3 sm => ⟨.ref D, He, Ig.turned (t' := sf.toks) (fun b o nb e => (sm.2 b nb).trans e) y0 y1 y3 y4 y5, rfl, fin⟩⟩
    · refine thnF (T.item (X.blk sc Hc scope ce fp) rfl rfl rfl calm i [] se _ He (fun _ _ => False) Ie (stays Ie fpe) ste goes) fun r sf ⟨u, er, hf⟩ => ?_
      subst er
      refine thnF hf fun _ sg ⟨x, Hg, Ig, rg, yg, stg, ng⟩ => ?_
      have Ip := Ig.pinned (stays Ig ng) (T.obj _ _ stg)
      refine thnF (pg.run _ sg _ Hg x u _ Ip rg (body x Hg yg)) fun _ sh ⟨σh, Hh, Ih, wh, qh⟩ => ?_
      refine thnF (pt.run _ sh σh Hh _ Ih qh) fun b si ⟨Hi, Ii, qi⟩ => ?_
      have close : ∀ {z : Shared} {G : Hp}, Inv (X.blk sc Hc scope ce fp) ([] ++ pinsAt fp sg.heap) σh G z → Nx G → ∃ m, m < n ∧ ∃ i G, Inv (X.blk sc Hc scope ce fp) [] (wipe σ (own.map (·.2))) G z ∧ tn i z.heap ∧ (∀ b ∈ fp, G b = none) ∧ W i m G := fun {z G} Iz nx => by
        obtain ⟨m2, lm, w2⟩ := nxt G nx
        have pin : ∀ b ∈ fp, ∀ o, sg.heap.get? b = some o → z.heap.get? b = some o ∧ G b = none := fun b mb o e => by
          have y := Iz.pin (b, o) (List.mem_append_right _ (List.mem_append_right _ (mem_pinsAt mb e)))
          exact ⟨y.1, y.2.1⟩
        refine ⟨m2, lm, i + 1, G, (Iz.unpinned (pins := [])).weak (by rw [← wh, wipe_length]) (fun j v e => ?_), T.keep _ _ _ stg fun b mb o e => (pin b mb o e).1, fun b mb => ?_, w2⟩
        · rw [← wh] at e
          exact (wipe_some e).1
        · obtain ⟨o, e, _⟩ := T.obj _ _ stg b mb
          exact (pin b mb o e).2
      cases b with
      | false =>
        simp only [Bool.false_eq_true, if_false] at qi ⊢
        exact close Ii qi
      | true =>
        simp only [if_true] at qi ⊢
        refine thnF (pe.run _ si σh Hi _ Ii qi) fun z sj ⟨yv, Hj, Ij, rj, xa, kk, L, ey, hx, hD, tp, few, nx⟩ => ?_
        subst ey
        cases (show z = Value.ref xa from rj)
        exact addT_ok (X := X.blk sc Hc scope ce fp) Ij hD tp hx hu few fun sk L2 ad Ik => close Ik (nx L2 ad)
end
/-- over a tuple that stands -/
theorem scT_tup {P : Program} {w : World} {K : PySem.W.Frag} {a : Addr} {xs : List V} {g : TG} {tt : TT} {te : TE} {vs : List Nat} {σ : L2.St} {H1 : Hp} {D : Addr} {Qd : Hp → Prop} (Pv : Nat → Hp → Prop) (h0 : Pv 0 (upd H1 D (SetTO P w D []))) (hl : ∀ i H, i ≤ xs.length → Pv i H → SqT K H a xs)
    (hs : ∀ i x H, xs[i]? = some x → Pv i H → g x (wipe σ vs) H fun σ2 H2 => wipe σ2 vs = wipe σ vs ∧ tt σ2 H2 fun b H3 => if b = true then te σ2 H3 (joins P w K D (Pv (i + 1))) else Pv (i + 1) H3) (hd : ∀ H, Pv xs.length H → Qd H) :
    ∃ W : Nat → Nat → Hp → Prop, (∃ m, W 0 m (upd H1 D (SetTO P w D []))) ∧ ∀ i m G, W i m G →
      ((Itt K a).stop i G ∧ Qd G) ∨ ((Itt K a).go i G ∧ ∃ Nx : Hp → Prop, (∀ G2, Nx G2 → ∃ m2, m2 < m ∧ W (i + 1) m2 G2) ∧ ∀ x G2, (Itt K a).yld i G x G2 → g x (wipe σ vs) G2 fun σ2 G3 => wipe σ2 vs = wipe σ vs ∧ tt σ2 G3 fun b G4 => if b = true then te σ2 G4 (joins P w K D Nx) else Nx G4) := by
  refine ⟨fun i m G => m + i = xs.length ∧ Pv i G, ⟨xs.length, rfl, h0⟩, fun i m G ⟨em, p⟩ => ?_⟩
  have st := hl i G (by omega) p
  rcases Nat.lt_or_ge i xs.length with lt | ge
  · refine .inr ⟨⟨xs, xs[i], st, List.getElem?_eq_getElem lt⟩, Pv (i + 1), fun G2 p2 => ⟨m - 1, by omega, by omega, p2⟩, fun x G2 y => ?_⟩
    obtain ⟨e, y⟩ := y
    subst e
    exact hs i x _ (y xs st) p
  · have e : i = xs.length := by omega
    exact .inl ⟨⟨xs, st, by omega⟩, hd G (e ▸ p)⟩
end L2.Tb
set_option Elab.async false
set_option linter.all false
set_option maxRecDepth 100000
set_option maxHeartbeats 4000000
/-! calls of defs that ask for an unguarded stack; o.m(k = v) -/
namespace L2.Tb
open PySem PySem.Spec PyProof.Rows
/-- a def that keeps its promise where nothing is guarded (repr of lists and tuples asks that) -/
structure CalG (P : Program) (w : World) (K : PySem.W.Frag) (mg : Str → Option Value) (base : Heap) (k : Nat) (x : Str) (sp : Sp) : Prop where
  ex : ∃ (f : Addr) (fd : FuncData) (ps : List Str), (∀ vs H Q E, sp vs H Q E → vs.length = ps.length) ∧ (∀ A, Room k A → A.guards = some [] → RunsAt P w K mg base f fd ps sp A) ∧ mg x = some (.ref f) ∧ PySem.W.keepIn K (.ref f) = true ∧ Binds K fd ps []
section
variable {P : Program} {w : World} {K : PySem.W.Frag} {mg : Str → Option Value} {base : Heap} {x : Str} {st : Stmt} {f : Addr} {fd : FuncData} {N ps : List Str} {k : Nat} {sp : Sp}
theorem Cal.g (c : Cal P w K mg base k x sp) : CalG P w K mg base k x sp := by
  obtain ⟨f, fd, ps, F, a, b, d⟩ := c.ex
  exact ⟨f, fd, ps, F.len, fun A hr _ outer s H args us vs Q E e0 hb r _ h => F.run A outer s H args us vs Q E hr e0 hb r h, a, b, d⟩
theorem calG_mk (F : FnP K x st f fd) (hm : mg x = some (.ref f)) (S : FnScope N ps (defScope st))
    (hb : ∀ (kV doc pm : Value) (an : Option Addr) (cdv ct : Value) (us : List Value), us.length = ps.length → bindArgs (PySem.W.fnOf x x (defArgs st) (defBody st) (defScope st) .none kV doc pm an cdv ct) ⟨us, []⟩ = pure (ps.zip us))
    (len : ∀ vs H Q E, sp vs H Q E → vs.length = ps.length)
    (hbody : ∀ (cdv : Value) (A : Around) (outer : List Env) (s : Shared) (H : Hp) (vs : List V) (Q : VK) (E : XK), (A.deeper (envOfC x (defScope st) s.heap.objs.size f cdv)).guards = some [] → Room k (A.deeper (envOfC x (defScope st) s.heap.objs.size f cdv)) → sp vs H Q E →
      ∃ t, PSs (cxOf L2.CX0 P w K mg base N x (defScope st) f cdv A outer s H E).nox (defBody st) t ∧ t { nx := fun _ H' => Q .non H', rt := Q } (start N vs) H) : CalG P w K mg base (k + 1) x sp :=
  ⟨f, fd, ps, len, fun A hr hg => runs_body F S hr fun cdv outer s H vs Q E hr2 h => let ⟨t, a, b⟩ := hbody cdv A outer s H vs Q E hg hr2 h; ⟨t, a.nox, b⟩, hm, F.kp, F.bindsN hb⟩
/-- .. its code object known -/
theorem calG_mkC {at_ : Str × Option Str} (F : FnP K x st (He.fAd K at_) fd) (hm : mg x = some (.ref (He.fAd K at_))) (S : FnScope N ps (defScope st))
    (hb : ∀ (kV doc pm : Value) (an : Option Addr) (cdv ct : Value) (us : List Value), us.length = ps.length → bindArgs (PySem.W.fnOf x x (defArgs st) (defBody st) (defScope st) .none kV doc pm an cdv ct) ⟨us, []⟩ = pure (ps.zip us))
    (len : ∀ vs H Q E, sp vs H Q E → vs.length = ps.length)
    (hbody : ∀ (cdv : Value) (A : Around) (outer : List Env) (s : Shared) (H : Hp) (vs : List V) (Q : VK) (E : XK), cdv = .ref (He.codeOf K at_) → (A.deeper (envOfC x (defScope st) s.heap.objs.size (He.fAd K at_) cdv)).guards = some [] → Room k (A.deeper (envOfC x (defScope st) s.heap.objs.size (He.fAd K at_) cdv)) → sp vs H Q E →
      ∃ t, PSs (cxOf L2.CX0 P w K mg base N x (defScope st) (He.fAd K at_) cdv A outer s H E).nox (defBody st) t ∧ t { nx := fun _ H' => Q .non H', rt := Q } (start N vs) H) : CalG P w K mg base (k + 1) x sp := by
  refine ⟨_, fd, ps, len, fun A hr hg => ?_, hm, F.kp, F.bindsN hb⟩
  obtain ⟨oc, od, dV, kV, doc, pm, an, cdv, ct, osl, rfl, lk, hcd, _, _⟩ := id F.ex
  obtain ⟨c, rfl⟩ := He.codeIn_ref hcd
  have hc : (Value.ref c) = .ref (He.codeOf K at_) := by rw [He.codeOf_eq lk rfl]
  intro outer s H args us vs Q E e0 hbd r hl hsp
  refine LamX.run_ofS (CX := L2.CX0) (Q := Q) (E := E) (N := N) lk hcd S hr e0 hbd r hl fun hr2 => ?_
  obtain ⟨t, a, b⟩ := hbody _ A outer s H vs Q E hc hg hr2 hsp
  exact ⟨t, a.nox, b⟩
end
section
variable {X : Cx} {k j : Nat} {x : Str} {sp : Sp} {p pos : Pos} {e : Expr} {es : List Expr} {t : TA}
theorem pe_calG (c : CalG X.prog X.w X.K X.mg X.base k x sp) (hr : Room j X.A) (hk : k ≤ j) (free : X.A.guards = some []) (hg : Gl X x) (ha : PA X (e :: es) t)
    (hdb : (x == ("__debug__" : Str)) = false := by decide) (he : starEach (e :: es) X.env = (false, eval e X.env) :: starEach es X.env := by rfl) (hpl : (backTo pos (starEach es X.env)).any (·.1) = false := by rfl) :
    PE X (.Call (.Name x p) (e :: es) [] pos) (tCall sp [] E0 t) := by
  obtain ⟨f, fd, ps, len, R, hm, kp, b⟩ := c.ex
  refine ⟨fun pins s σ H Q I h => wpAny_Call_Name_kw (ld_glob I hg hm (PySem.W.callWith_K (h₀ := X.base) I.ok.mod.kin kp (thn (ha.run pos pins s σ H _ I h) fun us s1 hh => ?_) he hpl) hdb)⟩
  obtain ⟨vs, H1, I1, r, q⟩ := hh
  rw [List.append_nil] at q
  have hl := len _ _ _ _ q
  refine ⟨I1.kIn, wpAny_call (codeAny_mono (R X.A (hr.mono hk) free X.stack s1 H1 ⟨us, []⟩ us vs Q E0 I1.env0 ?_ r hl q) fun r2 s2 z => ?_)⟩
  · have y := b s1 us I1.kIn (by rw [List.append_nil, ← r.length]; exact hl)
    rw [List.append_nil] at y
    exact y
  · match r2, z with
    | .error e, z => exact pass0 pins σ H1 s1 e s2 I1 z
    | .ok (.ret u), z => exact I1.after z
end
section
variable {X : Cx} {CX : CXT} {k : Nat} {C f : Addr} {fd : FuncData} {ps ks : List Str} {sp : Sp} {E : XK} {o : Expr} {kws : List Keyword} {m : Str} {pos apos : Pos} {ta : TE} {tk : TA} {pl : Sem Bool}
def tMethK (C : Addr) (m : Str) (sp : Sp) (E : XK) (ta : TE) (tk : TA) : TE := fun σ H Q => ta σ H fun x H1 => ∃ a dx fs, x = .ref a ∧ H1 a = some (.ins C dx fs) ∧ fs.lookup m = none ∧ tk σ H1 fun zs H2 => sp (.ref a :: zs) H2 Q E
/-- o.m(k = v, ..), all of m's parameters by name -/
theorem pe_methK (he : PE X o ta) (c : Cls X.K C) (hm : Meth X.K C m f) (F : FnOk X.prog X.w X.K X.mg X.base CX k f fd ps sp) (hr : Room k X.A) (hx : Passes CX X E) (hkw : PK X kws tk) (hl : ps.length = ks.length + 1)
    (hb : ∀ (sh : Shared) (a : Addr) (zs : List Value), zs.length = ks.length → BindsTo sh fd ⟨[.ref a], ks.zip zs⟩ (ps.zip (Value.ref a :: zs)))
    (hall : (backToKw pos (keywordEach kws X.env)).all (·.1.isSome) = true := by rfl) (hks : (backToKw pos (keywordEach kws X.env)).filterMap (·.1) = ks := by rfl)
    (hpl : ((backTo pos (starEach [] X.env)).any (·.1) || (backToKw pos (keywordEach kws X.env)).any (·.1.isNone)) = false := by rfl)
    (ht : eval (.Call (.Attribute o m apos) [] kws pos) X.env = (do
      let ov ← eval o X.env
      standAt apos.atName
      let (f, first) ← holding [ov] (getMethod ov m pl)
      callWith pos f first (backTo pos (starEach [] X.env)) (backToKw pos (keywordEach kws X.env))) := by rfl) :
    PE X (.Call (.Attribute o m apos) [] kws pos) (tMethK C m sp E ta tk) := by
  refine ⟨fun pins s σ H Q I h => PySem.W.methodCall_KW (pl := pl) (thn (he.run pins s σ H _ I h) fun u s1 hh => ?_) ht⟩
  obtain ⟨x, H1, I1, rx, a, dx, fs, ex, ea, lk, q⟩ := hh
  subst ex
  obtain rfl : u = Value.ref a := rx
  refine getmeth_ok I1 ea c hm lk (PySem.W.callWith_KW0 (h₀ := X.base) (first := [.ref a]) I.ok.mod.kin hm.kp hall (thn (hkw.run pos _ s1 σ H1 _ I1 q) fun ws s2 hh => ?_) hpl)
  obtain ⟨zs, H2, I2, rz, q2⟩ := hh
  refine ⟨I2.kIn, ?_⟩
  rw [hks]
  have hw : ws.length = ks.length := by
    have z := F.len _ _ _ _ q2
    rw [List.length_cons, hl] at z
    rw [← rz.length]
    omega
  refine wpAny_call (codeAny_mono (F.run X.A X.stack s2 H2 ⟨[.ref a], ks.zip ws⟩ (.ref a :: ws) (.ref a :: zs) Q E hr I2.env0 (hb s2 a ws hw) (.cons rfl rz) q2) fun r s3 z => ?_)
  match r, z with
  | .error e, z => exact hx pins σ H2 s2 e s3 I2 z
  | .ok (.ret u2), z => exact I2.after z
end
end L2.Tb
set_option Elab.async false
set_option linter.all false
set_option maxRecDepth 100000
set_option maxHeartbeats 4000000
/-! x in t, x not in t: t a tuple of data of any depth -/
namespace L2.Tb
open PySem PySem.Spec PyProof.Rows
variable {X : Cx}
def rInDT (K : PySem.W.Frag) (neg : Bool) : R2 := fun x y H Q => ∃ d ds, Dp K H x d ∧ Dp K H y (.tuple ds) ∧ SeqAt.shaped d = true ∧ SeqAt.shaped (.tuple ds) = true ∧ Q (.bl (if neg = true then !(ds.any fun z => PyData.eqv z d) else ds.any fun z => PyData.eqv z d)) H
theorem room_inDT {A : Around} {ds : List PyData} {d : PyData} (sd : SeqAt.shaped d = true) (hu : A.units + 65 < cLine) : A.units + 1 + min (PyData.depthAll ds) d.depth < cLine := by
  have h := SeqAt.depth_of_shaped sd
  have h2 := Nat.min_le_right (PyData.depthAll ds) d.depth
  omega
theorem op_inDT (hu : X.A.units + 65 < cLine) : OpR X (compareOp .In) (rInDT X.K false) := by
  intro pins s σ H x y v u Q I rx ry h
  obtain ⟨d, ds, hd, he, sd, se, q⟩ := h
  obtain ⟨as, r1⟩ := Dp.reads I d x v hd rx
  obtain ⟨bs, r2⟩ := Dp.reads I (.tuple ds) y u he ry
  exact SeqAt.in_tuple_reads r2 r1 (by simpa only [PyData.canLay0] using SeqAt.canLay_of_shaped se) (SeqAt.canLay_of_shaped sd) (room_inDT sd hu) ⟨.bl _, H, I, rfl, q⟩
theorem op_notInDT (hu : X.A.units + 65 < cLine) : OpR X (compareOp .NotIn) (rInDT X.K true) := by
  intro pins s σ H x y v u Q I rx ry h
  obtain ⟨d, ds, hd, he, sd, se, q⟩ := h
  obtain ⟨as, r1⟩ := Dp.reads I d x v hd rx
  obtain ⟨bs, r2⟩ := Dp.reads I (.tuple ds) y u he ry
  exact SeqAt.notIn_tuple_reads r2 r1 (by simpa only [PyData.canLay0] using SeqAt.canLay_of_shaped se) (SeqAt.canLay_of_shaped sd) (room_inDT sd hu) ⟨.bl _, H, I, rfl, q⟩
end L2.Tb
set_option Elab.async false
set_option linter.all false
set_option maxRecDepth 100000
set_option maxHeartbeats 4000000
/-! for z in d: d a dict of the head with text keys -/
namespace L2.Tb
open PySem PySem.Spec PyProof.Rows RZ
def Ikd (ks : List Str) : It := ⟨fun i _ => i < ks.length, fun i H x H' => H' = H ∧ ∃ z, ks[i]? = some z ∧ x = .str z, fun i _ => ks.length ≤ i⟩
structure KeysAt (K : PySem.W.Frag) (w : World) (d : Addr) (ks : List Str) : Prop where
  ex : ∃ es n, KDict K w d es n ∧ es.toList.map keyS = ks.map some
theorem keys_at {K : PySem.W.Frag} {w : World} {d : Addr} {ks : List Str} {es : Array DictEntry} {n : Nat} (h : keysB K d ks = true) (D : KDict K w d es n) : KeysAt K w d ks := by
  refine ⟨es, n, D, ?_⟩
  unfold keysB at h
  rw [D.at_] at h
  exact of_decide_eq_true h
section
variable {P : Program} {w : World} {K : PySem.W.Frag} {tg : Expr} {d : Addr} {es : Array DictEntry} {n : Nat} {ks : List Str}
theorem turn_kd (it : Addr) (D : KDict K w d es n) (hk : es.toList.map keyS = ks.map some) : Turn P w K tg (Ikd ks) [it] it (fun i h => h.IsKeyIter it d i ks.length n) where
  mem := by simp
  obj := fun i h st b hb => by
    have e : b = it := by simpa using hb
    subst e
    obtain ⟨oi, e, c, dd⟩ := st
    exact ⟨oi, e, fun v z => by rw [dd] at z; cases z⟩
  keep := fun i h h' st k => st.at fun oi e => k it (by simp) oi e
  item := by
    intro X hP hw hK hc i pins s σ H E I hf st hi
    subst hP hw hK
    obtain ⟨f0, f1, f2, f3, f4, f5⟩ := hf it (by simp)
    have hgd := I.kIn _ _ D.at_
    have hsz : es.size = ks.length := by
      have := congrArg List.length hk
      simpa using this
    have hi2 : i < ks.length := hi
    obtain ⟨en, hen, z, t, ek, ez⟩ : ∃ en, es[i]? = some en ∧ ∃ z t, en.key = .str z t ∧ ks[i]? = some z := by
      have hi3 : i < es.size := by omega
      refine ⟨es[i], Array.getElem?_eq_getElem hi3, ?_⟩
      have h := congrArg (fun l : List (Option Str) => l[i]?) hk
      rw [List.getElem?_map, List.getElem?_map, Array.getElem?_toList, Array.getElem?_eq_getElem hi3, List.getElem?_eq_getElem hi2] at h
      simp only [Option.map_some, Option.some.injEq] at h
      unfold keyS at h
      split at h
      · rename_i z t e
        injection h with h
        exact ⟨z, t, e, by rw [List.getElem?_eq_getElem hi2, h]⟩
      · cases h
    refine next_key_item st hgd rfl hsz hen fun h' st' sb => ?_
    have I1 : Inv X pins σ H { s with heap := h' } := I.turned (t' := s.toks) (fun b ob hb e => (sb.2 b hb).trans e) f0 f1 f3 f4 f5
    obtain ⟨oi, e, c, dd⟩ := id st'
    exact ⟨en.key, rfl, go_of (s := { s with heap := h' }) e c dd (by decide) ⟨.str z, H, I1, ⟨t, ek⟩, ⟨rfl, z, ez, rfl⟩, st', fun b hb => (hf b hb).1⟩⟩
  done := by
    intro X hP hw hK hc i pins s σ H E I hf st hi
    subst hP hw hK
    obtain ⟨f0, f1, f2, f3, f4, f5⟩ := hf it (by simp)
    have hgd := I.kIn _ _ D.at_
    have hsz : es.size = ks.length := by
      have := congrArg List.length hk
      simpa using this
    exact next_key_end (I.ok.hd hc) st hgd rfl hsz hi fun h' eb => ⟨rfl, I.turned (t' := s.toks) (fun b ob hb e => eb b ob hb e) f0 f1 f3 f4 f5⟩
  self := fun A i s Q E st h => wpAny_pyIter_keyiter st h
end
def iKd (ks : List Str) (d : Addr) (td : TE) : TI := fun σ H R => td σ H fun x H1 => x = .ref d ∧ R (Ikd ks) H1
theorem pi_kd {X : Cx} {tg e : Expr} {td : TE} {d : Addr} {ks : List Str} (A : KeysAt X.K X.w d ks) (he : PE X e td) : PI X tg e (iKd ks d td) := by
  obtain ⟨es, n, D, hk⟩ := A.ex
  refine ⟨fun pins s σ H R I h => ?_⟩
  refine thn (he.run pins s σ H _ I h) fun u s1 ⟨x, H1, I1, rx, ex, q⟩ => ?_
  subst ex
  obtain rfl : u = Value.ref d := rx
  have hsz : es.size = ks.length := by
    have := congrArg List.length hk
    simpa using this
  refine iter_keys D.low (I1.kIn _ _ D.at_) ⟨rfl, rfl, rfl⟩ rfl (pi_one (tk := s1.toks) I1 _ (turn_kd _ D hk) ⟨_, Heap.get?_push_size _ rfl, rfl, ?_⟩ q)
  rw [hsz] <;> rfl
/-- a walk over its keys -/
theorem walk_kd {ks : List Str} : Walk (Ikd ks) ks.length (fun _ => True) (fun i H v H' => H' = H ∧ ∃ z, ks[i]? = some z ∧ v = .str z) := by
  refine ⟨fun i _ hi _ => hi, fun _ _ => Nat.le_refl _, fun i H v H' _ _ y => y⟩
end L2.Tb
set_option Elab.async false
set_option linter.all false
set_option maxRecDepth 100000
set_option maxHeartbeats 4000000
/-! x op y by the own method of x's class, y of the same class -/
namespace L2.Tb
open PySem PySem.Spec PyProof.Rows
section
variable {X : Cx} {CX : CXT} {C f : Addr} {fd : FuncData} {ps : List Str} {sp : Sp} {k : Nat} {op : Operator}
def rOwnBin (C : Addr) (sp : Sp) : R2 := fun x y H Q => ∃ (a dx : Addr) (fs : List (Str × V)) (c dy : Addr) (gs : List (Str × V)), x = .ref a ∧ y = .ref c ∧ H a = some (.ins C dx fs) ∧ H c = some (.ins C dy gs) ∧ sp [.ref a, .ref c] H Q E0
theorem op_ownBin (F : FnOk X.prog X.w X.K X.mg X.base CX k f fd ps sp) (hr : Room k X.A) (hc : PySem.W.selfFirst X.K C = true) (hs : PySem.W.findIn X.K (.ref C) (PySem.dunder op.info.2) = some (some (.ref f))) (hf : PySem.W.isFn X.K (.ref f) = true) (hb : Binds X.K fd ps []) (hx : Passes CX X E0) :
    OpR X (binaryOp op) (rOwnBin C sp) := by
  intro pins s σ H x y v u Q I rx ry h
  obtain ⟨a, dx, fs, c, dy, gs, rfl, rfl, ea, ec, h⟩ := h
  obtain rfl : v = Value.ref a := rx
  obtain rfl : u = Value.ref c := ry
  obtain ⟨mA, O, _⟩ := ins_get I.hok ea
  obtain ⟨od, J, _⟩ := O.look
  obtain ⟨mC, O2, _⟩ := ins_get I.hok ec
  obtain ⟨od2, J2, _⟩ := O2.look
  obtain ⟨m, hF⟩ := I.fr
  have hl := F.len _ _ _ _ h
  refine PySem.W.binop_K hF I.ok.mod.kin J J2.type hc hs hf (wpAny_call (codeAny_mono (F.run X.A X.stack s H ⟨[.ref a, .ref c], []⟩ [.ref a, .ref c] [.ref a, .ref c] _ E0 hr I.env0 (by
    have z := hb s [.ref a, .ref c] I.kIn (by simpa using hl)
    simpa using z) (.cons rfl (.cons rfl .nil)) h) fun r s' hq => ?_))
  match r, hq with
  | .error e, hq => exact hx pins σ H s e s' I hq
  | .ok (.ret u2), hq =>
    obtain ⟨v2, H', I', rv, q⟩ := I.after hq
    exact cmp_back rv ⟨v2, H', I', rv, q⟩
end
end L2.Tb
set_option Elab.async false
set_option linter.all false
set_option maxRecDepth 100000
set_option maxHeartbeats 4000000
/-! x op y by the own method of x's class, y of a built-in type, what is raised passes -/
namespace L2.Tb
open PySem PySem.Spec PyProof.Rows PySem.W
/-- what the built-in type says of the operator -/
structure Rgt (K : PySem.W.Frag) (C : Addr) (op : Operator) (T : String) : Prop where
  own : ∃ o, findIn K (.type T) (PySem.dunder op.info.2) = some o
  ref : ∃ o, findIn K (.type T) (dunderR op.info.2) = some o
  sub : subIn K (.type T) (.ref C) = some false
section
variable {prog : Program} {w : World} {A : Around} {E : Value → Shared → Prop} {s : Shared} {K : Frag} {x C L f : Addr} {hp : Heap} {m : Str → Option Value} {ox : Obj} {od : Option Obj} {T : String} {op : Operator} {y : Value} {Q : Value → Shared → Prop}
theorem bin_left (F : Fr hp L s.heap m) (hK : K.In hp) (J : InstAt s.heap x ox C od) (ty : Looks (model prog w) s.heap (typeOf y) (.type T)) (sf : selfFirst K C = true) (hs : findIn K (.ref C) (PySem.dunder op.info.2) = some (some (.ref f)))
    (hf : isFn K (.ref f) = true) (hr : findIn K (.ref C) (dunderR op.info.2) = some none) (R : Rgt K C op T) (h : wpAny (model prog w) A (call (.ref f) [.ref x, y]) (PySem.W.CmpBack Q) E s) : wpAny (model prog w) A (binaryOp op (.ref x) y) Q E s := by
  have kin := hK.keeps F.keep
  obtain ⟨cd, tl, e1, e2⟩ := ksp_first sf
  obtain ⟨o1, t1⟩ := R.own
  obtain ⟨o2, t2⟩ := R.ref
  have t3 := R.sub
  rcases ei : op.info with ⟨sg, nm⟩
  rw [ei] at hs hr t1 t2
  dsimp only at hs hr t1 t2
  have go := ksp_try kin J hs hf h
  obtain ⟨hh, gn, dr, tk, os⟩ := s
  have a1 : Looks (model prog w) hh (typeOf (.ref x)) (.ref C) := J.type
  have a3 : Looks (model prog w) hh (fillsNumberSlot (.ref C) nm) true := fills_K kin e1 e2 hs
  have a4 := ksp_fillsT (M := model prog w) kin t1 t2
  have a5 : Looks (model prog w) hh (isSubtype (.type T) (.ref C)) false := looks_subIn kin t3
  have a6 : Looks (model prog w) hh (numberSlotInPython (.ref C) nm) true := ksp_inPy kin hs hr (.inl rfl)
  have a7 : Looks (model prog w) hh (numberSlotInPython (.type T) nm) false := Looks.of_pure rfl
  have a8 : Looks (model prog w) hh (typeLookup (.type T) (dunderR nm)) o2 := looks_findIn kin t2
  generalize ((o1.isSome && !isSeqSlot o1) || (o2.isSome && !isSeqSlot o2)) = rt at a4
  have ne : (Value.ref C == Value.type T) = false := by
    cases hq : (Value.ref C == Value.type T) with
    | false => rfl
    | true => cases beq_iff_eq.mp hq
  simp only [binaryOp, ei]
  refine wpAny_holding (wpAny_bind ?_)
  unfold binaryOp1
  refine wpAny_bind (a1.at (wpAny_bind (ty.at (wpAny_bind (a3.at ?_)))))
  simp only [ne, Bool.false_eq_true, if_false]
  cases rt
  all_goals
    ksp_lk
    refine wpAny_mono go (fun r s2 hv => ?_) fun _ _ e => e
    obtain ⟨v, rfl, qv⟩ := hv
    ksp_lk
    exact qv
end
section
variable {X : Cx} {CX : CXT} {C f : Addr} {fd : FuncData} {ps : List Str} {sp : Sp} {k : Nat} {op : Operator} {E : XK}
def rOwnBinX (K : PySem.W.Frag) (C : Addr) (op : Operator) (sp : Sp) (E : XK) : R2 := fun x y H Q => ∃ (a dx : Addr) (fs : List (Str × V)) (T : String), x = .ref a ∧ H a = some (.ins C dx fs) ∧ TyX K H y (.type T) ∧ Rgt K C op T ∧ sp [.ref a, y] H Q E
theorem op_ownBinX (F : FnOk X.prog X.w X.K X.mg X.base CX k f fd ps sp) (hr : Room k X.A) (sf : selfFirst X.K C = true) (hs : findIn X.K (.ref C) (PySem.dunder op.info.2) = some (some (.ref f))) (hf : isFn X.K (.ref f) = true)
    (hrr : findIn X.K (.ref C) (dunderR op.info.2) = some none) (hb : Binds X.K fd ps []) (hx : Passes CX X E) : OpR X (binaryOp op) (rOwnBinX X.K C op sp E) := by
  intro pins s σ H x y v u Q I rx ry h
  obtain ⟨a, dx, fs, T, rfl, ea, ty, R, h⟩ := h
  obtain rfl : v = Value.ref a := rx
  obtain ⟨mA, O, _⟩ := ins_get I.hok ea
  obtain ⟨od, J, _⟩ := O.look
  obtain ⟨m, hF⟩ := I.fr
  obtain ⟨Pt, kt, pt, _⟩ := kit_of I ry ty
  have hl := F.len _ _ _ _ h
  refine bin_left hF I.ok.mod.kin J (kt.ty _ _ I.kIn pt) sf hs hf hrr R (wpAny_call (codeAny_mono (F.run X.A X.stack s H ⟨[.ref a, u], []⟩ [.ref a, u] [.ref a, y] _ E hr I.env0 (by
    have z := hb s [.ref a, u] I.kIn (by simpa using hl)
    simpa using z) (.cons rfl (.cons ry .nil)) h) fun r s' hq => ?_))
  match r, hq with
  | .error e, hq => exact hx pins σ H s e s' I hq
  | .ok (.ret u2), hq =>
    obtain ⟨v2, H', I', rv, q⟩ := I.after hq
    exact cmp_back rv ⟨v2, H', I', rv, q⟩
end
end L2.Tb
set_option Elab.async false
set_option linter.all false
set_option maxRecDepth 100000
set_option maxHeartbeats 4000000
/-! dict(xs) of a list of pairs whose keys are tuples of ints and texts -/
namespace L2.Tb
open PySem PySem.Spec PyProof.Rows
def mergeT (acc : List (List Key × V)) (kts : List (List Key × Addr × V)) : List (List Key × V) := kts.foldl (fun a k => putK a k.1 k.2.2) acc
theorem mergeT_len : ∀ (kts : List (List Key × Addr × V)) (acc : List (List Key × V)), (mergeT acc kts).length ≤ acc.length + kts.length
  | [], acc => Nat.le_refl _
  | k :: kts, acc => by
    have h := mergeT_len kts (putK acc k.1 k.2.2)
    have h2 := length_putK acc k.1 k.2.2
    rw [List.length_cons]
    show (mergeT (putK acc k.1 k.2.2) kts).length ≤ _
    omega
section
variable {X : Cx}
theorem kt_merge {H : Hp} {kts : List (List Key × Addr × V)} {prs : List (List Key × Addr × Value)} (t : Paired (fun k q => k.1 = q.1 ∧ k.2.1 = q.2.1 ∧ H k.2.1 = some (.tup (k.1.map kV)) ∧ RelV k.2.2 q.2.2) kts prs) :
    ∀ {kvs : List (List Key × V)} {xs : List (List Key × Addr × Value)}, KT H kvs xs → KT H (Tb.mergeT kvs kts) (storedAllH xs prs) := by
  induction t with
  | nil => exact fun r => r
  | @cons k q ks qs h t ih =>
    intro kvs xs r
    obtain ⟨h1, h2, h3, h4⟩ := h
    have z : KT H (putK kvs k.1 k.2.2) (storedH xs q.1 q.2.1 q.2.2) := by
      rw [← h1, ← h2]
      exact r.put k.1 h3 h4
    exact ih z
theorem pairsT_of {pins : List (Addr × Obj)} {σ : St} {H : Hp} {s : Shared} (I : Inv X pins σ H s) : ∀ {ps : List Addr} {kts : List (List Key × Addr × V)}, Paired (fun p k => SqT X.K H p [.ref k.2.1, k.2.2] ∧ H k.2.1 = some (.tup (k.1.map kV))) ps kts →
    ∃ prs : List (List Key × Addr × Value), Paired (fun k q => k.1 = q.1 ∧ k.2.1 = q.2.1 ∧ H k.2.1 = some (.tup (k.1.map kV)) ∧ RelV k.2.2 q.2.2) kts prs ∧ prs.length = ps.length ∧
      (∀ (j : Nat) (q : List Key × Addr × Value), prs[j]? = some q → ∃ b : Addr, ps[j]? = some b ∧ IsTup s.heap b #[.ref q.2.1, q.2.2]) ∧ ∀ q ∈ prs, (tupleKind (mixKind X.prog X.w)).is s.heap q.1 q.2.1
  | _, _, .nil => ⟨[], .nil, rfl, fun j q e => by simp at e, fun q hq => by cases hq⟩
  | _, _, .cons (a := p) (b := k) h t => by
    obtain ⟨prs, r, hl, hp, hk⟩ := pairsT_of I t
    obtain ⟨h1, h2⟩ := h
    obtain ⟨its, rv, ht, _⟩ := I.tuple h1
    obtain ⟨u, y, ei, ru, ry⟩ := vals2 rv
    subst ei
    obtain rfl : u = Value.ref k.2.1 := ru
    refine ⟨(k.1, k.2.1, y) :: prs, .cons ⟨rfl, rfl, h2, ry⟩ r, by rw [List.length_cons, List.length_cons, hl], fun j q e => ?_, fun q hq => ?_⟩
    · cases j with
      | zero =>
        have e' : (k.1, k.2.1, y) = q := Option.some.inj e
        subst e'
        exact ⟨p, rfl, ht⟩
      | succ j =>
        obtain ⟨b, e1, e2⟩ := hp j q (by simpa using e)
        exact ⟨b, by simpa using e1, e2⟩
    · rcases List.mem_cons.mp hq with rfl | hq
      · exact key_of I.hok h2
      · exact hk q hq
def rDictPT (K : PySem.W.Frag) : List V → Hp → VK → Prop := fun xs H Q => ∃ (a : Addr) (ps : List Addr) (kts : List (List Key × Addr × V)), xs = [.ref a] ∧ SqL K H a (ps.map V.ref) ∧ Paired (fun p k => SqT K H p [.ref k.2.1, k.2.2] ∧ H k.2.1 = some (.tup (k.1.map kV))) ps kts ∧
    ∀ p, H p = none → Q (.ref p) (upd H p (.dT (Tb.mergeT [] kts)))
theorem call_dictPT (hcalm : X.calm = true) (hu : X.A.units + 2 < cLine) : CallR X (.type "dict") (rDictPT X.K) := by
  intro pins s σ H xs us Q I r q
  obtain ⟨a, ps, kts, rfl, hq, hp, q⟩ := q
  rw [Vals.ref1 r]
  obtain ⟨its, rv, pl, hz⟩ := I.list hq
  have ei := refs_at rv
  subst ei
  rw [List.length_map] at hz
  obtain ⟨prs, rel, hl, hpr, hks⟩ := pairsT_of I hp
  obtain ⟨o, n, ho, hc, hd, hdat⟩ := pl
  have hm : (s.heap.objs.size == sysModules) = false := beq_eq_false_iff_ne.mpr (Nat.ne_of_gt I.big)
  have lkt : kts.length = ps.length := (Paired.length hp).symm
  have fresh : H s.heap.objs.size = none := I.hok.fresh (Nat.le_refl _)
  refine call_dict_pairsH (PairArg.list (prog := X.prog) (w := X.w) a (ps.map Value.ref).toArray (fun j => ps.getD j 0) (prs.map fun q => (Value.ref q.2.1, q.2.2))) (knd := tupleKind (mixKind X.prog X.w)) (ps := prs) (I.ok.hd hcalm) hu ⟨⟨o, n, ho, hc, hd, hdat⟩, ?_, ?_⟩ ⟨by rw [List.length_map], ?_⟩ ?_ (by rw [List.length_map, hl]; exact hz) ?_
  · simp [hl]
  · intro j k v e
    rw [List.getElem?_map] at e
    obtain ⟨q', e1, e2⟩ := Option.map_eq_some_iff.mp e
    cases e2
    obtain ⟨b, e3, e4⟩ := hpr j q' e1
    have e5 : ps.getD j 0 = b := by simp [List.getD, e3]
    refine ⟨by simp [e3], ?_⟩
    show PySem.PairAt s.heap (ps.getD j 0) _ _
    rw [e5]
    exact .inl e4
  · intro i key v e
    rw [PairRel, List.getElem?_map] at e
    obtain ⟨q', e1, e2⟩ := Option.map_eq_some_iff.mp e
    cases e2
    exact ⟨q'.1, q'.2.1, e1, rfl⟩
  · intro h' hk x hx
    obtain ⟨ob, it, n, h1, h2, h3, h4⟩ := hks x hx
    exact ⟨ob, it, n, hk _ _ (Nat.ne_of_lt (Heap.lt_size h1)) (by simp) h1, h2, h3, h4⟩
  · intro h' tk hd' k
    obtain ⟨qo, es, ep, hq1, h2, h3, h4, _, h5⟩ := hd'
    have hlen : (Tb.mergeT [] kts).length ≤ sizeLine := by
      refine Nat.le_trans (mergeT_len kts []) ?_
      rw [List.length_nil, Nat.zero_add, lkt]
      exact hz
    refine ⟨.ref s.heap.objs.size, upd H s.heap.objs.size (.dT (Tb.mergeT [] kts)), I.laid (t' := tk) (fun b o e => k b o (by simp) e) (Nat.le_refl _) (show ObjOk X.prog X.w _ _ _ (.dT (Tb.mergeT [] kts)) from ⟨hlen, hm, storedAllH [] prs, (kt_merge rel .nil).keeps fun c ys ec => ?_, qo, es, ep, hq1, h2, h3, h4, h5⟩), rfl, q _ fresh⟩
    rw [upd_ne (ne_of_none ec fresh)]
    exact ec
end
end L2.Tb
set_option Elab.async false
set_option linter.all false
set_option maxRecDepth 100000
set_option maxHeartbeats 4000000
/-! p, q = e1, e2 where the stores stand from the left (one of the targets is no plain local name): the pair made between is not tracked -/
namespace L2.Tb
open PySem PySem.Spec PyProof.Rows
def tTripL (ta : TA) (g : TGs) : TS := fun D σ H => ta σ H fun vs H1 => vs.length = 3 ∧ g vs σ H1 D.nx
variable {X : Cx} {es vs : List Expr} {ta : TA} {g : TGs} {kt k2 : Nat} {pt pt2 pos : Pos}
theorem ps_tripL (calm : X.calm = true) (right : PA X vs ta) (left : PGs X es g)
    (star : (assignEach es X.env).findIdx? (·.1) = none) (even : (assignEach es X.env).length = 3)
    (plain : swappedStores [.Tuple es kt pt] (.Tuple vs k2 pt2) X.env = pure none)
    (noswap : swapsWithSole [.Tuple es kt pt] (.Tuple vs k2 pt2) pos.line X.env = pure false := by rfl)
    (once : (assignEach [.Tuple es kt pt] X.env).map (·.2) = [assign (.Tuple es kt pt) X.env] := by rfl) :
    PS X (.Assign [.Tuple es kt pt] (.Tuple vs k2 pt2) pos) (tTripL ta g) := by
  refine ⟨fun pins s σ H D I h => ?_⟩
  refine wpAny_Assign_stores (Tuple_ (thn (right.run _ pins s σ H _ I h) fun us s1 ⟨ws, H1, I1, r1, q1⟩ => ?_)) noswap plain
  obtain ⟨e2, q1⟩ := q1
  have hlen : us.length = 3 := by rw [← e2]; exact (Vals.length r1).symm
  refine wpAny_newObj_type ?_ (by show us.length ≤ sizeLine; rw [hlen]; decide)
  have I2 : Inv X pins σ H1 { s1 with heap := s1.heap.push { cls := .type "tuple", data := .seq us.toArray } } := I1.kept (t' := s1.toks) fun b o e => Heap.get?_push_of_some _ e
  rw [once]
  show wpAny (model X.prog X.w) X.A (assign (.Tuple es kt pt) X.env (.ref s1.heap.objs.size)) _ _ _
  refine assign_Tuple_tuple (items := us.toArray) (I.ok.hd calm) (IsTup.new s1.heap _) (by simp [even, hlen]) star fun h' hx => ?_
  have I3 := I2.kept (h' := h') (t' := s1.toks) fun b o e => hx b o (Nat.ne_of_lt (Heap.lt_size e)) e
  refine thn (left.run pins _ σ H1 ws _ D.nx I3 (by simpa using r1) q1) fun _ s2 q => ?_
  exact q
end L2.Tb
set_option Elab.async false
set_option linter.all false
set_option maxRecDepth 100000
set_option maxHeartbeats 8000000
namespace L2.K4
open PySem PySem.Spec PyProof.Rows L2.Tb
/-! ### the text by places -/
def top (i : Nat) : Stmt := PySem.Challenge.pw_thirdback_k04_whole_kinds_and_their_rule.main.body.getD i (.Pass ⟨0, 0, 0, 0⟩)
/-- the built-ins' names -/
structure Bt (mg : Str → Option Value) : Prop where
  m_len : mg "len" = none
  m_int : mg "int" = none
  m_abs : mg "abs" = none
  m_divmod : mg "divmod" = none
  m_isinstance : mg "isinstance" = none
  m_tuple : mg "tuple" = none
  m_list : mg "list" = none
  m_bool : mg "bool" = none
  m_all : mg "all" = none
  m_zip : mg "zip" = none
  m_range : mg "range" = none
  m_max : mg "max" = none
  m_min : mg "min" = none
  m_enumerate : mg "enumerate" = none
  m_repr : mg "repr" = none
  m_sorted : mg "sorted" = none
  m_ValueError : mg "ValueError" = none
  m_LookupError : mg "LookupError" = none
  m_ArithmeticError : mg "ArithmeticError" = none
abbrev s_cell : Stmt := top 17
abbrev N_cell : List Str := ["_law_cells", "_law_k", "_law_seed", "_law_cell_here"]
theorem sc_cell : FnScope N_cell ["_law_cells", "_law_k"] (defScope s_cell) := ⟨rfl, rfl, rfl, by decide +kernel, rfl, by decide +kernel, by decide +kernel⟩
abbrev s_purse : Stmt := top 18
abbrev N_purse : List Str := ["_law_cell_here", "_law_digits"]
theorem sc_purse : FnScope N_purse ["_law_cell_here"] (defScope s_purse) := ⟨rfl, rfl, rfl, by decide +kernel, rfl, by decide +kernel, by decide +kernel⟩
abbrev s_draw : Stmt := top 19
abbrev N_draw : List Str := ["_law_purse_here", "_law_many", "_law_state", "_law_digit"]
theorem sc_draw : FnScope N_draw ["_law_purse_here", "_law_many"] (defScope s_draw) := ⟨rfl, rfl, rfl, by decide +kernel, rfl, by decide +kernel, by decide +kernel⟩
abbrev s_alike : Stmt := top 20
abbrev N_alike : List Str := ["_law_thing", "_law_twin", "_law_a", "_law_b"]
theorem sc_alike : FnScope N_alike ["_law_thing", "_law_twin"] (defScope s_alike) := ⟨rfl, rfl, rfl, by decide +kernel, rfl, by decide +kernel, by decide +kernel⟩
abbrev s_odd : Stmt := top 21
abbrev N_odd : List Str := ["_law_purse_here", "_law_way"]
theorem sc_odd : FnScope N_odd ["_law_purse_here"] (defScope s_odd) := ⟨rfl, rfl, rfl, by decide +kernel, rfl, by decide +kernel, by decide +kernel⟩
/-! ### promises -/
abbrev iBits := Builtin.Int.intBits
def spCell (K : PySem.W.Frag) : Sp := fun vs H Q _ => ∃ (a : Addr) (ns : List Int) (k : Nat), vs = [.ref a, .int (k : Int)] ∧ SqL K H a (ns.map V.int) ∧ (∀ n ∈ ns, iBits n ≤ 1048576) ∧ k ≤ 64 ∧
  ∀ (z : Int) (H' : Hp), Same H H' → iBits z ≤ 1048576 → Q (.int z) H'
def spPurse : Sp := fun vs H Q _ => ∃ z : Int, vs = [.int z] ∧ iBits z ≤ 1048576 ∧ ∀ (p : Addr) (H' : Hp), Same H H' → H p = none → Purse H' p → Q (.ref p) H'
def spDraw : Sp := fun vs H Q _ => ∃ (p : Addr) (m : Int), vs = [.ref p, .int m] ∧ Purse H p ∧ 0 < m ∧ m < 2 ^ 200 ∧ ∀ (d : Int) (H' : Hp), 0 ≤ d → d < m → SameB p H H' → Purse H' p → Q (.int d) H'
def spOdd : Sp := fun vs H Q _ => ∃ p : Addr, vs = [.ref p] ∧ Purse H p ∧ ∀ (v : V) (H' : Hp), SameB p H H' → Purse H' p → Od H' 3 v → Q v H'
def spAlike (n : Nat) : Sp := fun vs H Q _ => ∃ x y : V, vs = [x, y] ∧ Al H n x y ∧ ∀ H' : Hp, Same H H' → Q (.bl true) H'
section
variable {P : Program} {w : World} {K : PySem.W.Frag} {mg : Str → Option Value} {base : Heap} {f : Addr} {fd : FuncData}
theorem bits31 {z : Int} (h0 : 0 ≤ z) (h1 : z < 2147483648) : iBits z ≤ 1048576 := Nat.le_trans (PyProof.Rows.intBits_le (k := 31) (by omega)) (by decide)
theorem mem_map_int {ns : List Int} {i : Nat} {y : V} (h : (ns.map V.int)[i]? = some y) : ∃ u, y = V.int u ∧ u ∈ ns := by
  rw [List.getElem?_map] at h
  cases e : ns[i]? with
  | none =>
    rw [e] at h
    cases h
  | some u =>
    rw [e] at h
    exact ⟨u, (Option.some.inj h).symm, List.mem_of_getElem? e⟩
theorem c_cell (T : Bt mg) (F : FnP K "_law_cell" s_cell f fd) (hm : mg "_law_cell" = some (.ref f)) : Cal P w K mg base 1 "_law_cell" (spCell K) := by
  have hnd := sc_cell.nd
  refine cal_mk F hm sc_cell (fun _ _ _ _ _ _ us hl => match us, hl with | [_, _], _ => rfl) (fun vs H Q E h => ?_) (fun cdv A outer s H vs Q E hr h => ?_)
  · obtain ⟨a, ns, k, rfl, _⟩ := h
    rfl
  · obtain ⟨a, ns, k, rfl, hS, hb, hk, q⟩ := h
    refine ⟨_, (pss_cons (ps_if (pt_cmpR op_lt (pv 1) (pe_callB call_len_seq (by rfl) T.m_len (by decide +kernel) (pa_cons (pv 0) pa_nil)) (nomark _))
      (pss_one (ps_ret (pe_ix ix_list (pv 0) (pv 1) (fun _ _ => rfl))))
      pss_nil)
      (pss_cons (ps_set (i := 2) hnd rfl (by first | exact Or.inl rfl | exact Or.inr rfl) (pe_op op_add pe_int (pe_op op_mul (pe_op op_mul pe_int (pv 1)) (pv 1))))
      (pss_cons (ps_for PassesOwn.never (by rfl) (pi_list (pe_slice sl_list (pv 0) po_none (po_some pe_int))) (pg_name (i := 3) hnd rfl (by first | exact Or.inl rfl | exact Or.inr rfl))
      (pss_one (ps_set (i := 2) hnd rfl (by first | exact Or.inl rfl | exact Or.inr rfl) (pe_op op_mod (pe_callTy call_int1 (by rfl) T.m_int (by decide +kernel) (pa_cons (pe_op op_add (pe_op op_mul (pv 2) pe_int) (pv 3)) pa_nil)) pe_int))))
      (pss_one (ps_ret (pv 2)))))), ?_⟩
    refine ⟨_, rfl, _, rfl, a, _, rfl, .inl hS, _, _, rfl, rfl, _, rfl, ite2 (fun hlt => ?_) (fun hge => ?_)⟩
    · have hl : k < ns.length := by
        have z := of_decide_eq_true hlt
        rw [List.length_map] at z
        omega
      refine ⟨_, rfl, _, rfl, a, _, _, .int (ns[k]), rfl, rfl, hS, atI_nat (by simp [hl]), ?_⟩
      exact q _ _ (Same.refl _) (hb _ (List.getElem_mem ..))
    · refine ⟨_, rfl, _, _, rfl, rfl, .inl ⟨by decide, by decide⟩, _, rfl, _, _, rfl, rfl, .inr ⟨by omega, by omega⟩, _, _, rfl, rfl, ?_⟩
      refine ⟨_, rfl, _, rfl, a, _, rfl, hS, fun p np => ?_⟩
      refine ⟨p, rfl, ⟨_, SqL.of upd_same⟩, for_list (K := K) (a := p) (xs := cutV (ns.map V.int) none (some 3)) (fun i σ H' => ∃ (z : Int) (v : Option V), σ = [some (.ref a), some (.int k), some (.int z), v] ∧ H' = upd H p (.lst (cutV (ns.map V.int) none (some 3))) ∧ 0 ≤ z ∧ z < 2147483648)
        ⟨_, none, rfl, rfl, ?_, ?_⟩ (fun i σ H' _ ⟨_, _, _, e, _⟩ => by rw [e]; exact SqL.of upd_same) ?_ ?_⟩
      · have : (0 : Int) ≤ 617 * k * k := Int.mul_nonneg (Int.mul_nonneg (by omega) (by omega)) (by omega)
        omega
      · have h1 : (k : Int) * k ≤ 64 * 64 := Int.mul_le_mul (by omega) (by omega) (by omega) (by omega)
        rw [Int.mul_assoc]
        omega
      · rintro i y σ H' hi ⟨z, v, rfl, rfl, h0, h1⟩
        obtain ⟨u, rfl, hu⟩ : ∃ u, y = V.int u ∧ u ∈ ns := by
          have hm : y ∈ ns.map V.int := List.mem_of_mem_drop (List.mem_of_mem_take (List.mem_of_getElem? hi))
          obtain ⟨u, hu, rfl⟩ := List.mem_map.mp hm
          exact ⟨u, rfl, hu⟩
        refine ⟨_, rfl, _, _, rfl, rfl, .inl ⟨by omega, by omega⟩, _, rfl, _, _, rfl, rfl, .inl ⟨_, rfl, _, _, rfl, rfl, by show (0 : Int) < 2147483563; decide, ?_⟩⟩
        exact ⟨_, _, rfl, rfl, Int.emod_nonneg _ (by decide), Int.lt_trans (Int.emod_lt_of_pos _ (by decide)) (by decide)⟩
      · rintro σ H' ⟨z, v, rfl, rfl, h0, h1⟩
        exact ⟨_, rfl, q _ _ (same_new np) (bits31 h0 h1)⟩
theorem c_purse (T : Bt mg) (F : FnP K "_law_purse" s_purse f fd) (hm : mg "_law_purse" = some (.ref f)) : Cal P w K mg base 1 "_law_purse" spPurse := by
  have hnd := sc_purse.nd
  refine cal_mk F hm sc_purse (fun _ _ _ _ _ _ us hl => match us, hl with | [_], _ => rfl) (fun vs H Q E h => ?_) (fun cdv A outer s H vs Q E hr h => ?_)
  · obtain ⟨z, rfl, _⟩ := h
    rfl
  · obtain ⟨z, rfl, hb, q⟩ := h
    have fin : ∀ dg : Int, 0 ≤ dg → ∀ (σ : St), σ = [some (.int z), some (.int dg)] → tRet (tLst (tCons (tOp (rI (fun _ j => 0 < j) fun i j => .int (i % j)) (tCB (fun xs H Q => (∃ i, xs = [.int i] ∧ Q (.int i) H) ∨ ∃ k, xs = [.bl k] ∧ Q (.int (if k then 1 else 0)) H) (tCons (tOp (rI0 fun i j => .int (i + j)) (tOp (rI CMulX fun i j => .int (i * j)) (tVar 0) (tC (.int 950706376))) (tC (.int 918273))) tNil)) (tC (.int 2147483563))) (tCons (tVar 1) (tCons (tC (.int 0)) tNil)))) { nx := fun _ H' => Q .non H', rt := Q } σ H := fun dg hd σ e => by
      subst e
      refine ⟨_, rfl, _, _, rfl, rfl, ?_, _, _, rfl, rfl, .inl ⟨_, rfl, _, _, rfl, rfl, by show (0 : Int) < 2147483563; decide, ?_⟩⟩
      · have h2 : iBits 950706376 ≤ 30 := PyProof.Rows.intBits_le (k := 30) (by decide)
        show (iBits z : Int) + (iBits 950706376 : Int) ≤ 134217728
        omega
      · refine ⟨_, rfl, by show 3 ≤ sizeLine; decide, fun p np => ?_⟩
        exact q _ _ (same_new np) np ⟨_, _, _, upd_same, Int.emod_nonneg _ (by decide), Int.emod_lt_of_pos _ (by decide), hd⟩
    refine ⟨_, (pss_cons (ps_set (i := 1) hnd rfl (by first | exact Or.inl rfl | exact Or.inr rfl) (pe_ifExp (PW.pt (pw_or (pt_cmpR op_lt (pv 0) pe_int (nomark _)) (pw_or1 (pt_cmpR op_ge (pv 0) (pe_op op_pow pe_int pe_int) (nomark _))))) (pe_callB call_abs (by rfl) T.m_abs (by decide +kernel) (pa_cons (pv 0) pa_nil)) pe_int))
      (pss_one (ps_ret (pe_lst (pa_cons (pe_op op_mod (pe_callTy call_int1 (by rfl) T.m_int (by decide +kernel) (pa_cons (pe_op op_add (pe_op op_mulX (pv 0) pe_int) pe_int) pa_nil)) pe_int) (pa_cons (pv 1) (pa_cons pe_int pa_nil))))))), ?_⟩
    refine ⟨_, rfl, _, _, rfl, rfl, _, rfl, ite2 (fun hlt => ?_) (fun hge => ?_)⟩
    · refine ⟨_, rfl, _, rfl, fin _ ?_ _ rfl⟩
      split <;> omega
    · refine ⟨_, rfl, _, _, rfl, rfl, ⟨by decide, by decide, by decide⟩, _, _, rfl, rfl, _, rfl, ite2 (fun hlt => ?_) (fun hge => ?_)⟩
      · refine ⟨_, rfl, _, rfl, fin _ ?_ _ rfl⟩
        split <;> omega
      · exact fin 0 (by decide) _ rfl
theorem c_draw (T : Bt mg) (F : FnP K "_law_draw" s_draw f fd) (hm : mg "_law_draw" = some (.ref f)) : Cal P w K mg base 1 "_law_draw" spDraw := by
  have hnd := sc_draw.nd
  refine cal_mk F hm sc_draw (fun _ _ _ _ _ _ us hl => match us, hl with | [_, _], _ => rfl) (fun vs H Q E h => ?_) (fun cdv A outer s H vs Q E hr h => ?_)
  · obtain ⟨p, m, rfl, _⟩ := h
    rfl
  · obtain ⟨p, m, rfl, hp, m0, m1, q⟩ := h
    obtain ⟨st, dg, c, e, h0, h1, hd⟩ := hp.ex
    have ix : ∀ {σ : St} {o : Hp} {a b d : Int} (i : Nat) (v : Int), o p = some (.lst [.int a, .int b, .int d]) → [V.int a, .int b, .int d][i]? = some (.int v) → ∀ Q : VK, Q (.int v) o → rIxL K (.ref p) (.int (i : Int)) o Q := fun i v ho hv Q hq => ⟨p, _, _, _, rfl, rfl, SqL.of ho, atI_nat hv, hq⟩
    refine ⟨_, (pss_cons (ps_asg (pe_op op_add (pe_ix ix_list (pv 0) pe_int (fun _ _ => rfl)) pe_int) (pg_sub (pv 0) pe_int set_list))
      (pss_cons (ps_set (i := 2) hnd rfl (by first | exact Or.inl rfl | exact Or.inr rfl) (pe_callTy call_int1 (by rfl) T.m_int (by decide +kernel) (pa_cons (pe_ix ix_list (pv 0) pe_int (fun _ _ => rfl)) pa_nil)))
      (pss_cons (ps_asg (pe_op op_mod (pe_callTy call_int1 (by rfl) T.m_int (by decide +kernel) (pa_cons (pe_op op_add (pe_op op_add (pe_op op_mul (pv 2) (pv 2)) (pe_op op_fdiv (pv 2) pe_int)) (pe_op op_mul pe_int (pe_ix ix_list (pv 0) pe_int (fun _ _ => rfl)))) pa_nil)) pe_int) (pg_sub (pv 0) pe_int set_list))
      (pss_cons (ps_if (pt_cmpR op_gt (pe_ix ix_list (pv 0) pe_int (fun _ _ => rfl)) pe_int (nomark _))
      (pss_cons (ps_asg (pe_callB call_divmodW (by rfl) T.m_divmod (by decide +kernel) (pa_cons (pe_ix ix_list (pv 0) pe_int (fun _ _ => rfl)) (pa_cons (pv 1) pa_nil))) (pg_tup (by rfl) (pgs_cons (pg_sub (pv 0) pe_int set_list) (pgs_cons (pg_name (i := 3) hnd rfl (by first | exact Or.inl rfl | exact Or.inr rfl)) pgs_nil))))
      (pss_one (ps_ret (pv 3))))
      pss_nil)
      (pss_one (ps_ret (pe_op op_mod (pe_callTy call_int1 (by rfl) T.m_int (by decide +kernel) (pa_cons (pe_op op_fdiv (pe_ix ix_list (pv 0) pe_int (fun _ _ => rfl)) pe_int) pa_nil)) (pv 1)))))))), ?_⟩
    refine ⟨_, rfl, p, _, _, _, rfl, rfl, SqL.of e, rfl, _, _, rfl, rfl, _, rfl, p, _, _, 2, rfl, rfl, e, rfl, ?_⟩
    have e1 : (upd H p (.lst ([V.int st, .int dg, .int c].set 2 (.int (c + 1))))) p = some (.lst [.int st, .int dg, .int (c + 1)]) := upd_same
    refine ⟨_, rfl, p, _, _, _, rfl, rfl, SqL.of e1, rfl, .inl ⟨_, rfl, ?_⟩⟩
    refine ⟨_, rfl, _, rfl, _, _, rfl, rfl, .inl ⟨by omega, by omega⟩, _, rfl, _, _, rfl, rfl, ⟨by decide, by decide⟩, _, _, rfl, rfl, _, rfl, p, _, _, _, rfl, rfl, SqL.of e1, rfl, _, _, rfl, rfl, .inl ⟨by decide, by decide⟩, _, _, rfl, rfl, .inl ⟨_, rfl, _, _, rfl, rfl, by show (0 : Int) < 2147483563; decide, _, rfl, p, _, _, 0, rfl, rfl, e1, rfl, ?_⟩⟩
    have z0 : 0 ≤ (st * st + st / 7 + 48611 * (c + 1)) % 2147483563 := Int.emod_nonneg _ (by decide)
    have z1 : (st * st + st / 7 + 48611 * (c + 1)) % 2147483563 < 2147483563 := Int.emod_lt_of_pos _ (by decide)
    have e2 : (upd (upd H p (.lst ([V.int st, .int dg, .int c].set 2 (.int (c + 1))))) p (.lst ([V.int st, .int dg, .int (c + 1)].set 0 (.int ((st * st + st / 7 + 48611 * (c + 1)) % 2147483563))))) p = some (.lst [.int ((st * st + st / 7 + 48611 * (c + 1)) % 2147483563), .int dg, .int (c + 1)]) := upd_same
    have s2 : SameB p H (upd (upd H p (.lst ([V.int st, .int dg, .int c].set 2 (.int (c + 1))))) p (.lst ([V.int st, .int dg, .int (c + 1)].set 0 (.int ((st * st + st / 7 + 48611 * (c + 1)) % 2147483563))))) := SameB.set.put
    refine ⟨_, rfl, p, _, _, _, rfl, rfl, SqL.of e2, rfl, _, _, rfl, rfl, _, rfl, ite2 (fun hgt => ?_) (fun hle => ?_)⟩
    · refine ⟨_, rfl, p, _, _, _, rfl, rfl, SqL.of e2, rfl, _, rfl, _, _, rfl, divp_small m0 m1, fun t nt => ?_⟩
      have npt : p ≠ t := ne_of_none e2 nt
      have e3 := Eq.trans (upd_ne (o := .tup [.int (dg / m), .int (dg % m)]) npt) e2
      refine ⟨t, _, rfl, SqT.of upd_same, rfl, _, _, rfl, ⟨_, rfl, p, _, _, 1, rfl, rfl, e3, rfl, _, _, rfl, rfl, _, rfl, ?_⟩⟩
      refine q _ _ (Int.emod_nonneg _ (by omega)) (Int.emod_lt_of_pos _ m0) (SameB.put fun b o n h => ?_) ⟨_, _, _, upd_same, z0, z1, Int.ediv_nonneg hd (by omega)⟩
      exact same_new nt _ _ (s2 b o n h)
    · refine ⟨_, rfl, p, _, _, _, rfl, rfl, SqL.of e2, rfl, _, _, rfl, rfl, ⟨by decide, by decide⟩, .inl ⟨_, rfl, _, rfl, _, _, rfl, rfl, m0, ?_⟩⟩
      exact q _ _ (Int.emod_nonneg _ (by omega)) (Int.emod_lt_of_pos _ m0) s2 ⟨_, _, _, e2, z0, z1, hd⟩
end
section
variable {P : Program} {w : World} {K : PySem.W.Frag} {mg : Str → Option Value} {base : Heap} {f : Addr} {fd : FuncData}
def okB : V → Bool
  | .str z => decide (z.length ≤ 100)
  | _ => true
def OkS (v : V) : Prop := ∀ z, v = .str z → z.length ≤ 100
theorem oks_all {l : List V} {v : V} (h : l.all okB = true) (hv : v ∈ l) : OkS v := fun z e => by
  have q := List.all_eq_true.mp h v hv
  rw [e] at q
  exact of_decide_eq_true q
def B39 : Int := 10 ^ 39
def isI : V → Bool
  | .int _ => true
  | _ => false
def okI : V → Bool
  | .int i => decide (-B39 ≤ i) && decide (i < B39)
  | .ref _ => false
  | _ => true
/-- no triple of integers; small if it is an integer -/
def OkT (H : Hp) (v : V) : Prop := (∀ i, v = .int i → -B39 ≤ i ∧ i < B39) ∧ ∀ q xs, v = .ref q → H q = some (.tup xs) → xs.length ≠ 3 ∨ ∃ x ∈ xs, isI x = false
theorem okt_all {H : Hp} {l : List V} {v : V} (h : l.all okI = true) (hv : v ∈ l) : OkT H v := by
  have q := List.all_eq_true.mp h v hv
  refine ⟨fun i e => ?_, fun a xs e => ?_⟩
  · rw [e] at q
    obtain ⟨a, b⟩ := (Bool.and_eq_true _ _).mp q
    exact ⟨of_decide_eq_true a, of_decide_eq_true b⟩
  · rw [e] at q
    cases q
theorem okt_lst {H : Hp} {a : Addr} {ys : List V} (h : H a = some (.lst ys)) : OkT H (.ref a) := ⟨fun i e => (by cases e), fun q xs e h2 => (by
  cases e
  rw [h] at h2
  cases h2)⟩
theorem okt_dct {H : Hp} {a : Addr} {ys : List (Key × V)} (h : H a = some (.dK ys)) : OkT H (.ref a) := ⟨fun i e => (by cases e), fun q xs e h2 => (by
  cases e
  rw [h] at h2
  cases h2)⟩
theorem okt_tup {H : Hp} {a : Addr} {ys : List V} (h : H a = some (.tup ys)) (k : ys.length ≠ 3 ∨ ∃ x ∈ ys, isI x = false) : OkT H (.ref a) := ⟨fun i e => (by cases e), fun q xs e h2 => (by
  cases e
  rw [h] at h2
  cases h2
  exact k)⟩
def spOdd3 : Sp := fun vs H Q _ => ∃ p : Addr, vs = [.ref p] ∧ Purse H p ∧ ∀ (v : V) (H' : Hp), SameB p H H' → Purse H' p → Od H' 3 v → OkS v → OkT H' v → Q v H'
theorem nat_of {d : Int} (h : 0 ≤ d) : ∃ n : Nat, d = (n : Int) := Int.eq_ofNat_of_zero_le h
theorem same_new2 {H : Hp} {p : Addr} {o u : HO} (h : H p = none) : Same H (upd (upd H p o) p u) := fun b v e => by rw [upd_ne (ne_of_none e h), upd_ne (ne_of_none e h)]; exact e
theorem c_odd3 (T : Bt mg) (F : FnP K "_law_odd" s_odd f fd) (hm : mg "_law_odd" = some (.ref f)) (k_draw : Cal P w K mg base 1 "_law_draw" spDraw) : Cal P w K mg base 2 "_law_odd" spOdd3 := by
  have hnd := sc_odd.nd
  refine cal_mk F hm sc_odd (fun _ _ _ _ _ _ us hl => match us, hl with | [_], _ => rfl) (fun vs H Q E h => ?_) (fun cdv A outer s H vs Q E hr h => ?_)
  · obtain ⟨p, rfl, _⟩ := h
    rfl
  · obtain ⟨p, rfl, hp, q⟩ := h
    refine ⟨_, (pss_cons (ps_set (i := 1) hnd rfl (by first | exact Or.inl rfl | exact Or.inr rfl) (pe_cal k_draw hr (by omega) (by rfl) (pa_cons (pv 0) (pa_cons pe_int pa_nil))))
      (pss_cons (ps_if (pt_cmpR op_lt (pv 1) pe_int (nomark _))
      (pss_one (ps_ret (pe_ix ix_list (pe_lst (pa_cons pe_non (pa_cons pe_bl (pa_cons pe_bl (pa_cons pe_int (pa_cons pe_int (pa_cons (pe_un un_neg pe_int) (pa_cons pe_int (pa_cons pe_int (pa_cons (pe_op op_pow pe_int pe_int) (pa_cons (pe_un un_neg (pe_op op_pow pe_int pe_int)) pa_nil))))))))))) (pv 1) (fun _ _ => rfl))))
      pss_nil)
      (pss_cons (ps_if (pt_cmpR op_lt (pv 1) pe_int (nomark _))
      (pss_one (ps_ret (pe_ix ix_list (pe_lst (pa_cons pe_str (pa_cons pe_str (pa_cons pe_str (pa_cons pe_str (pa_cons pe_str (pa_cons pe_str pa_nil))))))) (pe_op op_sub (pv 1) pe_int) (fun _ _ => rfl))))
      pss_nil)
      (pss_cons (ps_if (pt_cmpR op_lt (pv 1) pe_int (nomark _))
      (pss_one (ps_ret (pe_ix ix_list (pe_lst (pa_cons (pe_lst pa_nil) (pa_cons (pe_lst (pa_cons pe_str pa_nil)) (pa_cons pe_dnewK (pa_cons (pe_disp (pps_cons pe_str pe_int pps_nil) (by rfl) (by rfl) (fun z => by cases z) (by decide)) pa_nil))))) (pe_op op_sub (pv 1) pe_int) (fun _ _ => rfl))))
      pss_nil)
      (pss_one (ps_ret (pe_ix ix_list (pe_lst (pa_cons (pe_tup pa_nil) (pa_cons (pe_tup (pa_cons pe_str pa_nil)) (pa_cons (pe_tup (pa_cons (pe_lst pa_nil) pa_nil)) (pa_cons (pe_tup (pa_cons pe_int (pa_cons (pe_disp (pps_cons pe_str (pe_lst (pa_cons pe_int pa_nil)) pps_nil) (by rfl) (by rfl) (fun z => by cases z) (by decide)) (pa_cons pe_int pa_nil)))) pa_nil))))) (pe_op op_sub (pv 1) pe_int) (fun _ _ => rfl)))))))), ?_⟩
    refine ⟨_, rfl, p, 24, rfl, hp, by decide, by decide, fun d H1 d0 d1 s1 p1 => ?_⟩
    obtain ⟨n, rfl⟩ := nat_of d0
    have fin : ∀ (H2 : Hp) (v : V), Same H1 H2 → Od H2 3 v → OkS v → OkT H2 v → Q v H2 := fun H2 v s ov os ot => q v H2 (s1.trans (SameB.of s)) (p1.same s) ov os ot
    refine ⟨_, rfl, _, _, rfl, rfl, _, rfl, ite2 (fun h1 => ?_) (fun h1 => ?_)⟩
    · have hn : n < 10 := by have := of_decide_eq_true h1; omega
      refine ⟨_, rfl, ⟨_, _, rfl, rfl, ⟨by decide, by decide, by decide⟩, _, _, rfl, rfl, ⟨by decide, by decide, by decide⟩, _, rfl, by show 10 ≤ sizeLine; decide, fun l nl => ⟨_, rfl, l, _, _, _, rfl, rfl, SqL.of upd_same, atI_nat (List.getElem?_eq_getElem (by show n < 10; exact hn)), fin _ _ (same_new nl) (.inl ?_) ?_ ?_⟩⟩⟩
      · exact List.all_eq_true.mp (show ([V.non, .bl true, .bl false, .int 0, .int 1, .int (-1), .int 2, .int 12, .int (10 ^ 38), .int (-(10 ^ 38))].all flatS) = true from rfl) _ (List.getElem_mem ..)
      · exact oks_all (show ([V.non, .bl true, .bl false, .int 0, .int 1, .int (-1), .int 2, .int 12, .int (10 ^ 38), .int (-(10 ^ 38))].all okB) = true from rfl) (List.getElem_mem ..)
      · exact okt_all (show ([V.non, .bl true, .bl false, .int 0, .int 1, .int (-1), .int 2, .int 12, .int (10 ^ 38), .int (-(10 ^ 38))].all okI) = true by decide +kernel) (List.getElem_mem ..)
    · have hn : 10 ≤ n := by
        have z : ¬ ((n : Int) < 10) := fun z => h1 (decide_eq_true z)
        omega
      refine ⟨_, rfl, _, _, rfl, rfl, _, rfl, ite2 (fun h2 => ?_) (fun h2 => ?_)⟩
      · have hn2 : n < 16 := by have := of_decide_eq_true h2; omega
        have ei : (n : Int) - 10 = ((n - 10 : Nat) : Int) := by omega
        refine ⟨by show 6 ≤ sizeLine; decide, fun l nl => ⟨_, rfl, _, _, rfl, rfl, l, _, _, _, rfl, rfl, SqL.of upd_same, (by rw [ei]; exact atI_nat (List.getElem?_eq_getElem (by show n - 10 < 6; omega))), fin _ _ (same_new nl) (.inl ?_) ?_ ?_⟩⟩
        · exact List.all_eq_true.mp (show (([("" : Str), "a", "plain", "calm sides", "(a * b)", "same a b 2"].map V.str).all flatS) = true from rfl) _ (List.getElem_mem ..)
        · exact oks_all (show (([("" : Str), "a", "plain", "calm sides", "(a * b)", "same a b 2"].map V.str).all okB) = true by decide +kernel) (List.getElem_mem ..)
        · exact okt_all (show (([("" : Str), "a", "plain", "calm sides", "(a * b)", "same a b 2"].map V.str).all okI) = true by decide +kernel) (List.getElem_mem ..)
      · have hn2 : 16 ≤ n := by
          have z : ¬ ((n : Int) < 16) := fun z => h2 (decide_eq_true z)
          omega
        refine ⟨_, rfl, _, _, rfl, rfl, _, rfl, ite2 (fun h3 => ?_) (fun h3 => ?_)⟩
        · have hn3 : n < 20 := by have := of_decide_eq_true h3; omega
          have ei : (n : Int) - 16 = ((n - 16 : Nat) : Int) := by omega
          refine ⟨Nat.le_of_ble_eq_true rfl, fun l1 n1 => ⟨Nat.le_of_ble_eq_true rfl, fun l2 n2 => fun d3 n3 => fun d4 n4 => ⟨upd_same, [(Sum.inr "a", .int 1)], rfl, Nat.le_of_ble_eq_true rfl, Nat.le_of_ble_eq_true rfl, fun l nl => ⟨_, rfl, _, _, rfl, rfl, l, _, _, _, rfl, rfl, SqL.of upd_same, (by rw [ei]; exact atI_nat (List.getElem?_eq_getElem (by show n - 16 < 4; omega))), ?_⟩⟩⟩⟩
          have a1 := same_new (o := .lst []) n1
          have a2 := same_new (o := .lst [.str "a"]) n2
          have a3 := same_new (o := .dK []) n3
          have a4 := same_new2 (o := .dK []) (u := .dK (mergeK [] [(Sum.inr "a", .int 1)])) n4
          have a5 := same_new (o := .lst [.ref l1, .ref l2, .ref d3, .ref d4]) nl
          refine fin _ _ (a1.trans (a2.trans (a3.trans (a4.trans a5)))) ?_ (oks_all (show ([V.ref l1, .ref l2, .ref d3, .ref d4].all okB) = true from rfl) (List.getElem_mem ..)) ?ot
          case ot =>
            have hc : n - 16 = 0 ∨ n - 16 = 1 ∨ n - 16 = 2 ∨ n - 16 = 3 := by omega
            rcases hc with e | e | e | e <;> simp only [e]
            · exact okt_lst (a5 _ _ (a4 _ _ (a3 _ _ (a2 _ _ upd_same))))
            · exact okt_lst (a5 _ _ (a4 _ _ (a3 _ _ upd_same)))
            · exact okt_dct (a5 _ _ (a4 _ _ upd_same))
            · exact okt_dct (a5 _ _ upd_same)
          have hc : n - 16 = 0 ∨ n - 16 = 1 ∨ n - 16 = 2 ∨ n - 16 = 3 := by omega
          rcases hc with e | e | e | e <;> simp only [e]
          · exact .inr (.inl ⟨l1, [], rfl, a5 _ _ (a4 _ _ (a3 _ _ (a2 _ _ upd_same))), Nat.le_of_ble_eq_true rfl, fun x hx => by cases hx⟩)
          · exact .inr (.inl ⟨l2, [.str "a"], rfl, a5 _ _ (a4 _ _ (a3 _ _ upd_same)), Nat.le_of_ble_eq_true rfl, fun x hx => by rw [List.mem_singleton.mp hx]; exact .inl rfl⟩)
          · exact .inr (.inr (.inr ⟨d3, [], rfl, a5 _ _ (a4 _ _ upd_same), Nat.le_of_ble_eq_true rfl, fun x hx => by cases hx⟩))
          · exact .inr (.inr (.inr ⟨d4, _, rfl, a5 _ _ upd_same, Nat.le_of_ble_eq_true rfl, fun x hx => by rw [List.mem_singleton.mp hx]; exact .inl rfl⟩))
        · have hn3 : 20 ≤ n := by
            have z : ¬ ((n : Int) < 20) := fun z => h3 (decide_eq_true z)
            omega
          have ei : (n : Int) - 20 = ((n - 20 : Nat) : Int) := by omega
          refine ⟨Nat.le_of_ble_eq_true rfl, fun t1 n1 => ⟨Nat.le_of_ble_eq_true rfl, fun t2 n2 => ⟨Nat.le_of_ble_eq_true rfl, fun l3 n3 => ⟨Nat.le_of_ble_eq_true rfl, fun t3 n4 => ?_⟩⟩⟩⟩
          refine fun d4 n5 => ⟨Nat.le_of_ble_eq_true rfl, fun l4 n6 => ⟨?_, [(Sum.inr "a", .ref l4)], rfl, Nat.le_of_ble_eq_true rfl, Nat.le_of_ble_eq_true rfl, fun t4 n7 => ⟨Nat.le_of_ble_eq_true rfl, fun l nl => ⟨_, rfl, _, _, rfl, rfl, l, _, _, _, rfl, rfl, SqL.of upd_same, (by rw [ei]; exact atI_nat (List.getElem?_eq_getElem (by show n - 20 < 4; omega))), ?_⟩⟩⟩⟩
          · rw [upd_ne (ne_of_none upd_same n6)]
            exact upd_same
          have a1 := same_new (o := .tup []) n1
          have a2 := same_new (o := .tup [.str "a"]) n2
          have a3 := same_new (o := .lst []) n3
          have a4 := same_new (o := .tup [.ref l3]) n4
          have nd4 : d4 ≠ l4 := ne_of_none upd_same n6
          have a6 : Same (upd (upd (upd (upd H1 t1 (.tup [])) t2 (.tup [.str "a"])) l3 (.lst [])) t3 (.tup [.ref l3])) (upd (upd (upd (upd (upd (upd (upd H1 t1 (.tup [])) t2 (.tup [.str "a"])) l3 (.lst [])) t3 (.tup [.ref l3])) d4 (.dK [])) l4 (.lst [.int 1])) d4 (.dK (mergeK [] [(Sum.inr "a", .ref l4)]))) := fun b o e => by
            rw [upd_ne (ne_of_none e n5)]
            exact same_new n6 _ _ (same_new n5 _ _ e)
          have a7 := same_new (o := .tup [.int 0, .ref d4, .int 2]) n7
          have a8 := same_new (o := .lst [.ref t1, .ref t2, .ref t3, .ref t4]) nl
          refine fin _ _ (a1.trans (a2.trans (a3.trans (a4.trans (a6.trans (a7.trans a8)))))) ?_ (oks_all (show ([V.ref t1, .ref t2, .ref t3, .ref t4].all okB) = true from rfl) (List.getElem_mem ..)) ?ot
          case ot =>
            have hc : n - 20 = 0 ∨ n - 20 = 1 ∨ n - 20 = 2 ∨ n - 20 = 3 := by omega
            rcases hc with e | e | e | e <;> simp only [e]
            · exact okt_tup (a8 _ _ (a7 _ _ (a6 _ _ (a4 _ _ (a3 _ _ (a2 _ _ upd_same)))))) (.inl (by decide))
            · exact okt_tup (a8 _ _ (a7 _ _ (a6 _ _ (a4 _ _ (a3 _ _ upd_same))))) (.inl (by decide))
            · exact okt_tup (a8 _ _ (a7 _ _ (a6 _ _ upd_same))) (.inl (show (1 : Nat) ≠ 3 by decide))
            · exact okt_tup (a8 _ _ upd_same) (.inr ⟨.ref d4, List.mem_cons_of_mem _ (List.mem_cons_self ..), rfl⟩)
          have hc : n - 20 = 0 ∨ n - 20 = 1 ∨ n - 20 = 2 ∨ n - 20 = 3 := by omega
          rcases hc with e | e | e | e <;> simp only [e]
          · exact .inr (.inr (.inl ⟨t1, [], rfl, a8 _ _ (a7 _ _ (a6 _ _ (a4 _ _ (a3 _ _ (a2 _ _ upd_same))))), Nat.le_of_ble_eq_true rfl, fun x hx => by cases hx⟩))
          · exact .inr (.inr (.inl ⟨t2, [.str "a"], rfl, a8 _ _ (a7 _ _ (a6 _ _ (a4 _ _ (a3 _ _ upd_same)))), Nat.le_of_ble_eq_true rfl, fun x hx => by rw [List.mem_singleton.mp hx]; exact .inl rfl⟩))
          · refine .inr (.inr (.inl ⟨t3, [.ref l3], rfl, a8 _ _ (a7 _ _ (a6 _ _ upd_same)), Nat.le_of_ble_eq_true rfl, fun x hx => ?_⟩))
            rw [List.mem_singleton.mp hx]
            exact .inr (.inl ⟨l3, [], rfl, a8 _ _ (a7 _ _ (a6 _ _ (a4 _ _ upd_same))), Nat.le_of_ble_eq_true rfl, fun x hx => by cases hx⟩)
          · refine .inr (.inr (.inl ⟨t4, [.int 0, .ref d4, .int 2], rfl, a8 _ _ upd_same, Nat.le_of_ble_eq_true rfl, fun x hx => ?_⟩))
            rcases List.mem_cons.mp hx with e | hx
            · rw [e]; exact .inl rfl
            rcases List.mem_cons.mp hx with e | hx
            · rw [e]
              exact .inr (.inr (.inr ⟨d4, _, rfl, a8 _ _ (a7 _ _ upd_same), Nat.le_of_ble_eq_true rfl, fun x hx => by rw [List.mem_singleton.mp hx]; exact .inr ⟨_, rfl⟩⟩))
            · rw [List.mem_singleton.mp hx]; exact .inl rfl
end
open RZ
section
variable {K : PySem.W.Frag} {a b : Addr} {xs ys : List V}
theorem walk_zipT {n : Nat} (hn : n = min xs.length ys.length) : Walk (ItzT K a b) n (fun H => SqT K H a xs ∧ SqT K H b ys) (YPair (fun i => xs[i]?) (fun i => ys[i]?)) := by
  subst hn
  refine ⟨fun i _ hi q => ?_, fun _ q => ⟨xs, ys, q.1, q.2, by omega⟩, fun i H v H' _ q y => ?_⟩
  · have h1 : i < xs.length := by omega
    have h2 : i < ys.length := by omega
    exact ⟨xs, ys, xs[i], ys[i], q.1, q.2, by simp [h1], by simp [h2]⟩
  · obtain ⟨T, x, z, h1, h2, h3, h4, h5⟩ := y
    exact ⟨T, x, z, h1, h2, h3, h4 xs q.1, h5 ys q.2⟩
end
section
variable {P : Program} {w : World} {K : PySem.W.Frag} {mg : Str → Option Value} {base : Heap} {f : Addr} {fd : FuncData}
/-- a value's built-in type and what isinstance says of it -/
structure TyK (K : PySem.W.Frag) (H : Hp) (x : V) (a1 a2 a3 : Bool) : Prop where
  ex : ∃ T : String, TyX K H x (.type T) ∧ kitB T "tuple" = some a1 ∧ kitB T "list" = some a2 ∧ kitB T "bool" = some a3
theorem ty_flat {x : V} (h : flatS x = true) : ∃ a3, ∀ (H : Hp), TyK K H x false false a3 := by
  cases x with
  | non => exact ⟨false, fun H => ⟨"NoneType", .base .non, by decide +kernel, by decide +kernel, by decide +kernel⟩⟩
  | bl b => exact ⟨true, fun H => ⟨"bool", .base (.bl b), by decide +kernel, by decide +kernel, by decide +kernel⟩⟩
  | int i => exact ⟨false, fun H => ⟨"int", .base (.int i), by decide +kernel, by decide +kernel, by decide +kernel⟩⟩
  | str z => exact ⟨false, fun H => ⟨"str", .base (.str z), by decide +kernel, by decide +kernel, by decide +kernel⟩⟩
  | _ => cases h
theorem ty_lst {H : Hp} {a : Addr} {xs : List V} (e : H a = some (.lst xs)) : TyK K H (.ref a) false true false := ⟨"list", .base (.lst e), by decide +kernel, by decide +kernel, by decide +kernel⟩
theorem ty_tup {H : Hp} {a : Addr} {xs : List V} (e : H a = some (.tup xs)) : TyK K H (.ref a) true false false := ⟨"tuple", .base (.tup e), by decide +kernel, by decide +kernel, by decide +kernel⟩
theorem ty_dct {H : Hp} {a : Addr} {kvs : List (Key × V)} (e : H a = some (.dK kvs)) : TyK K H (.ref a) false false false := ⟨"dict", .base (.dK e), by decide +kernel, by decide +kernel, by decide +kernel⟩
theorem lT : kitB "list" "tuple" = some false := by decide +kernel
theorem lL : kitB "list" "list" = some true := by decide +kernel
theorem tT : kitB "tuple" "tuple" = some true := by decide +kernel
theorem tL : kitB "tuple" "list" = some false := by decide +kernel
theorem kit2 {T : String} {a1 a2 : Bool} (h1 : kitB T "tuple" = some a1) (h2 : kitB T "list" = some a2) : PySem.W.kitAny K (.type T) [.type "tuple", .type "list"] = some (a1 || a2) := by
  refine kitAny_cons (kit_ty h1) (fun e1 => kitAny_cons (kit_ty h2) (fun e2 => ?_) (fun e2 => ?_)) (fun e1 => ?_)
  · rw [e1, e2]; rfl
  · rw [e1, e2]; rfl
  · rw [e1]; rfl
theorem paired_get {R : V → V → Prop} : ∀ {xs ys : List V} {i : Nat} {u v : V}, Paired R xs ys → xs[i]? = some u → ys[i]? = some v → R u v
  | _, _, 0, _, _, .cons r _, h1, h2 => by
    cases h1
    cases h2
    exact r
  | _, _, i + 1, _, _, .cons _ t, h1, h2 => paired_get (i := i) t (by simpa using h1) (by simpa using h2)
  | _, _, _, _, _, .nil, h1, _ => by simp at h1
def spA : Nat → Sp
  | 0 => fun _ _ _ _ => False
  | n + 1 => spAlike n
theorem cal_false (F : FnP K "_law_alike" s_alike f fd) (hm : mg "_law_alike" = some (.ref f)) : Cal P w K mg base 0 "_law_alike" (spA 0) :=
  ⟨f, fd, ["_law_thing", "_law_twin"], ⟨fun _ _ _ _ h => h.elim, fun _ _ _ _ _ _ _ _ _ _ _ _ _ h => h.elim⟩, hm, F.kp, F.bindsN fun _ _ _ _ _ _ us hl => match us, hl with | [_, _], _ => rfl⟩
theorem rep_succ {i : Nat} {b : V} : List.replicate i b ++ [b] = List.replicate (i + 1) b := by rw [List.replicate_succ']
theorem c_alike_step (T : Bt mg) (F : FnP K "_law_alike" s_alike f fd) (hm : mg "_law_alike" = some (.ref f)) (n : Nat) (k_alike : Cal P w K mg base n "_law_alike" (spA n)) : Cal P w K mg base (n + 1) "_law_alike" (spAlike n) := by
  have hnd := sc_alike.nd
  refine cal_mk F hm sc_alike (fun _ _ _ _ _ _ us hl => match us, hl with | [_, _], _ => rfl) (fun vs H Q E h => ?_) (fun cdv A outer s H vs Q E hr h => ?_)
  · obtain ⟨x, y, rfl, _⟩ := h
    rfl
  · obtain ⟨x, y, rfl, hal, q⟩ := h
    refine ⟨_, (pss_cons (ps_if (pt_val (pe_callB call_isiT (by rfl) T.m_isinstance (by decide +kernel) (pa_cons (pv 0) (pa_cons (pe_tup (pa_cons (pe_bltn (v := .ty "tuple") (by rfl) T.m_tuple (by decide +kernel) rfl) (pa_cons (pe_bltn (v := .ty "list") (by rfl) T.m_list (by decide +kernel) rfl) pa_nil))) pa_nil))))
      (pss_cons (ps_if (pt_cmpR (op_neD hr.units) (pe_lst (pa_cons (pe_callB call_isi (by rfl) T.m_isinstance (by decide +kernel) (pa_cons (pv 0) (pa_cons (pe_bltn (v := .ty "tuple") (by rfl) T.m_tuple (by decide +kernel) rfl) pa_nil))) (pa_cons (pe_callB call_isi (by rfl) T.m_isinstance (by decide +kernel) (pa_cons (pv 0) (pa_cons (pe_bltn (v := .ty "list") (by rfl) T.m_list (by decide +kernel) rfl) pa_nil))) pa_nil))) (pe_lst (pa_cons (pe_callB call_isi (by rfl) T.m_isinstance (by decide +kernel) (pa_cons (pv 1) (pa_cons (pe_bltn (v := .ty "tuple") (by rfl) T.m_tuple (by decide +kernel) rfl) pa_nil))) (pa_cons (pe_callB call_isi (by rfl) T.m_isinstance (by decide +kernel) (pa_cons (pv 1) (pa_cons (pe_bltn (v := .ty "list") (by rfl) T.m_list (by decide +kernel) rfl) pa_nil))) pa_nil))) (nomark _))
      (pss_one (ps_ret pe_bl))
      pss_nil)
      (pss_one (ps_ret (pe_and (pe_cmpR op_eq (pe_callB call_len_seq (by rfl) T.m_len (by decide +kernel) (pa_cons (pv 0) pa_nil)) (pe_callB call_len_seq (by rfl) T.m_len (by decide +kernel) (pa_cons (pv 1) pa_nil)) (nomark _)) (pe_one (pe_callB (cr_all (by rfl)) (by rfl) T.m_all (by decide +kernel) (pa_cons (pe_lc (own := [("_law_a", 2), ("_law_b", 3)]) (tt := tYes) (g := (gTup K 2 (gCons (gName 2) (gCons (gName 3) gNil)))) (by rfl) hnd (pi_zipA (by rfl) T.m_zip (pa_cons (pv 0) (pa_cons (pv 1) pa_nil))) (blkOk_by (own := [("_law_a", 2), ("_law_b", 3)]) (N := N_alike) (sc := defScope s_alike) (by decide +kernel)) (fun _ _ _ _ _ => (pg_tup (by rfl) (pgs_cons (pg_name (i := 2) hnd rfl (by first | exact Or.inl rfl | exact Or.inr rfl)) (pgs_cons (pg_name (i := 3) hnd rfl (by first | exact Or.inl rfl | exact Or.inr rfl)) pgs_nil)))) (fun _ _ _ _ _ => pts_nil) (fun _ _ _ _ _ => (pe_cal k_alike hr (by omega) (by rfl) (pa_cons (pv 2) (pa_cons (pv 3) pa_nil))))) pa_nil)))))))
      pss_nil)
      (pss_one (ps_ret (pe_and (pe_cmpR op_eq (pe_callB call_isi (by rfl) T.m_isinstance (by decide +kernel) (pa_cons (pv 0) (pa_cons (pe_bltn (v := .ty "bool") (by rfl) T.m_bool (by decide +kernel) rfl) pa_nil))) (pe_callB call_isi (by rfl) T.m_isinstance (by decide +kernel) (pa_cons (pv 1) (pa_cons (pe_bltn (v := .ty "bool") (by rfl) T.m_bool (by decide +kernel) rfl) pa_nil))) (nomark _)) (pe_one (pe_cmpR (op_self hr.units) (pv 0) (pv 1) (nomark _))))))), ?_⟩
    have hc : (∃ a3, (∀ H', Same H H' → TyK K H' x false false a3) ∧ x = y ∧ (∀ H', Same H H' → flatS x = true ∨ ∃ (a : Addr) (kvs : List (Key × V)), x = .ref a ∧ H' a = some (.dK kvs) ∧ ∀ kv ∈ kvs, valV kvs kv.1 = some kv.2 ∧ (flatS kv.2 = true ∨ ∃ b, kv.2 = .ref b))) ∨
        ∃ m, n = m + 1 ∧ ((∃ a b xs ys, x = .ref a ∧ y = .ref b ∧ H a = some (.lst xs) ∧ H b = some (.lst ys) ∧ xs.length ≤ 1000 ∧ Paired (Al H m) xs ys) ∨ (∃ a b xs ys, x = .ref a ∧ y = .ref b ∧ H a = some (.tup xs) ∧ H b = some (.tup ys) ∧ xs.length ≤ 1000 ∧ Paired (Al H m) xs ys)) := by
      cases n with
      | zero =>
        obtain ⟨e, fl⟩ := hal
        obtain ⟨a3, t⟩ := ty_flat (K := K) fl
        exact .inl ⟨a3, fun H' _ => t H', e, fun _ _ => .inl fl⟩
      | succ m =>
        rcases hal with ⟨e, fl⟩ | hl | ht | ⟨a, kvs, h1, h2, h3, h4⟩
        · obtain ⟨a3, t⟩ := ty_flat (K := K) fl
          exact .inl ⟨a3, fun H' _ => t H', e, fun _ _ => .inl fl⟩
        · exact .inr ⟨m, rfl, .inl hl⟩
        · exact .inr ⟨m, rfl, .inr ht⟩
        · exact .inl ⟨false, fun H' s' => by rw [h1]; exact ty_dct (s' _ _ h3), h1.trans h2.symm, fun H' s' => .inr ⟨a, kvs, h1, s' _ _ h3, h4⟩⟩
    rcases hc with ⟨a3, ht, rfl, hd⟩ | ⟨m, rfl, ⟨a, b, xs, ys, rfl, rfl, ha, hb, hl, hp⟩ | ⟨a, b, xs, ys, rfl, rfl, ha, hb, hl, hp⟩⟩
    · refine ⟨_, rfl, by decide, fun tp np => ?_⟩
      have S1 := same_new (o := .tup [.ty "tuple", .ty "list"]) np
      obtain ⟨T1, t1, k1, k2, k3⟩ := (ht _ S1).ex
      refine ⟨_, tp, _, .type T1, [.type "tuple", .type "list"], _, rfl, upd_same, .cons (.ty _) (.cons (.ty _) .nil), t1, kit2 k1 k2, _, rfl, iteF ?_⟩
      refine ⟨_, rfl, _, _, _, _, _, rfl, .ty _, t1, kit_ty k3, _, rfl, _, _, _, _, _, rfl, .ty _, t1, kit_ty k3, ?_, _, rfl, ?_⟩
      · cases a3 <;> rfl
      · refine ite2 (fun _ => ?_) (fun h => absurd (decide_eq_true rfl) h)
        exact ⟨_, rfl, _, rfl, rfl, hd _ S1, q _ S1⟩
    · refine ⟨_, rfl, by decide, fun tp np => ?_⟩
      have S1 := same_new (o := .tup [.ty "tuple", .ty "list"]) np
      obtain ⟨T1, t1, k1, k2, k3⟩ := (ty_lst (S1 _ _ ha)).ex
      refine ⟨_, tp, _, .type T1, [.type "tuple", .type "list"], _, rfl, upd_same, .cons (.ty _) (.cons (.ty _) .nil), t1, kit2 k1 k2, _, rfl, iteT ?_⟩
      refine ⟨_, rfl, _, _, _, _, _, rfl, .ty _, .base (.lst (S1 _ _ ha)), kit_ty lT, _, rfl, _, _, _, _, _, rfl, .ty _, .base (.lst (S1 _ _ ha)), kit_ty lL, by decide, fun l nl => ?_⟩
      have S2 := S1.trans (same_new (o := .lst [.bl false, .bl true]) nl)
      refine ⟨_, rfl, _, _, _, _, _, rfl, .ty _, .base (.lst (S2 _ _ hb)), kit_ty lT, _, rfl, _, _, _, _, _, rfl, .ty _, .base (.lst (S2 _ _ hb)), kit_ty lL, by decide, fun l2 nl2 => ?_⟩
      have S3 := S2.trans (same_new (o := .lst [.bl false, .bl true]) nl2)
      refine ⟨.list [.bool false, .bool true], .list [.bool false, .bool true], .lst (SqL.of (same_new nl2 _ _ upd_same)) (.cons (.bl _) (.cons (.bl _) .nil)), .lst (SqL.of upd_same) (.cons (.bl _) (.cons (.bl _) .nil)), by decide +kernel, by decide +kernel, ?_⟩
      rw [show PyData.eqv (.list [.bool false, .bool true]) (.list [.bool false, .bool true]) = true by decide +kernel]
      refine ⟨_, rfl, iteF ?_⟩
      refine ⟨_, rfl, a, _, rfl, .inl (SqL.of (S3 _ _ ha)), _, rfl, b, _, rfl, .inl (SqL.of (S3 _ _ hb)), rfl, _, rfl, ite2 (fun _ => ?_) (fun h => absurd (decide_eq_true (by rw [Paired.length hp])) h)⟩
      refine ⟨_, rfl, _, rfl, a, b, xs, ys, rfl, .inl ⟨SqL.of (S3 _ _ ha), SqL.of (S3 _ _ hb), fun D nD => ?_⟩⟩
      have S4 := S3.trans (same_new (o := .lst []) nD)
      refine lc_it (walk_zip (K := K) (a := a) (b := b) (xs := xs) (ys := ys) rfl) (fun i H' => Same H H' ∧ H' D = some (.lst (List.replicate i (.bl true)))) ⟨S4, upd_same⟩ (fun i H' _ h => ⟨SqL.of (h.1 _ _ ha), SqL.of (h.1 _ _ hb)⟩) ?_ ?_
      · rintro i z H1 H2 hi ⟨s1, e1⟩ ⟨T', u, v, rfl, nT, rfl, hu, hv⟩
        have s2 := s1.trans (same_new (o := .tup [u, v]) nT)
        refine ⟨T', [u, v], rfl, SqT.of upd_same, rfl, u, _, rfl, v, _, rfl, rfl, rfl, ?_⟩
        unfold tYes
        dsimp only
        rw [if_pos rfl]
        refine ⟨_, rfl, _, rfl, u, v, rfl, (paired_get hp hu hv).same s2, fun H3 s3 => ?_⟩
        refine ⟨_, s3 _ _ (same_new nT _ _ e1), by rw [List.length_replicate, sizeLine_eq]; omega, fun b' o' e' => ?_, by rw [upd_same, rep_succ]⟩
        rw [upd_ne (fun z => ?_)]
        · exact s3 _ _ (s2 _ _ e')
        · rw [z] at e'
          have z2 := S3 _ _ e'
          rw [nD] at z2
          cases z2
      · rintro H1 ⟨s1, e1⟩
        refine ⟨D, List.replicate _ true, rfl, SqL.of (by rw [e1, List.map_replicate]), ?_⟩
        rw [show (List.replicate (min xs.length ys.length) true).all id = true from List.all_eq_true.mpr fun b' hb' => by rw [List.eq_of_mem_replicate hb']; rfl]
        exact q _ s1
    · refine ⟨_, rfl, by decide, fun tp np => ?_⟩
      have S1 := same_new (o := .tup [.ty "tuple", .ty "list"]) np
      obtain ⟨T1, t1, k1, k2, k3⟩ := (ty_tup (S1 _ _ ha)).ex
      refine ⟨_, tp, _, .type T1, [.type "tuple", .type "list"], _, rfl, upd_same, .cons (.ty _) (.cons (.ty _) .nil), t1, kit2 k1 k2, _, rfl, iteT ?_⟩
      refine ⟨_, rfl, _, _, _, _, _, rfl, .ty _, .base (.tup (S1 _ _ ha)), kit_ty tT, _, rfl, _, _, _, _, _, rfl, .ty _, .base (.tup (S1 _ _ ha)), kit_ty tL, by decide, fun l nl => ?_⟩
      have S2 := S1.trans (same_new (o := .lst [.bl true, .bl false]) nl)
      refine ⟨_, rfl, _, _, _, _, _, rfl, .ty _, .base (.tup (S2 _ _ hb)), kit_ty tT, _, rfl, _, _, _, _, _, rfl, .ty _, .base (.tup (S2 _ _ hb)), kit_ty tL, by decide, fun l2 nl2 => ?_⟩
      have S3 := S2.trans (same_new (o := .lst [.bl true, .bl false]) nl2)
      refine ⟨.list [.bool true, .bool false], .list [.bool true, .bool false], .lst (SqL.of (same_new nl2 _ _ upd_same)) (.cons (.bl _) (.cons (.bl _) .nil)), .lst (SqL.of upd_same) (.cons (.bl _) (.cons (.bl _) .nil)), by decide +kernel, by decide +kernel, ?_⟩
      rw [show PyData.eqv (.list [.bool true, .bool false]) (.list [.bool true, .bool false]) = true by decide +kernel]
      refine ⟨_, rfl, iteF ?_⟩
      refine ⟨_, rfl, a, _, rfl, .inr (SqT.of (S3 _ _ ha)), _, rfl, b, _, rfl, .inr (SqT.of (S3 _ _ hb)), rfl, _, rfl, ite2 (fun _ => ?_) (fun h => absurd (decide_eq_true (by rw [Paired.length hp])) h)⟩
      refine ⟨_, rfl, _, rfl, a, b, xs, ys, rfl, .inr ⟨SqT.of (S3 _ _ ha), SqT.of (S3 _ _ hb), fun D nD => ?_⟩⟩
      have S4 := S3.trans (same_new (o := .lst []) nD)
      refine lc_it (walk_zipT (K := K) (a := a) (b := b) (xs := xs) (ys := ys) rfl) (fun i H' => Same H H' ∧ H' D = some (.lst (List.replicate i (.bl true)))) ⟨S4, upd_same⟩ (fun i H' _ h => ⟨SqT.of (h.1 _ _ ha), SqT.of (h.1 _ _ hb)⟩) ?_ ?_
      · rintro i z H1 H2 hi ⟨s1, e1⟩ ⟨T', u, v, rfl, nT, rfl, hu, hv⟩
        have s2 := s1.trans (same_new (o := .tup [u, v]) nT)
        refine ⟨T', [u, v], rfl, SqT.of upd_same, rfl, u, _, rfl, v, _, rfl, rfl, rfl, ?_⟩
        unfold tYes
        dsimp only
        rw [if_pos rfl]
        refine ⟨_, rfl, _, rfl, u, v, rfl, (paired_get hp hu hv).same s2, fun H3 s3 => ?_⟩
        refine ⟨_, s3 _ _ (same_new nT _ _ e1), by rw [List.length_replicate, sizeLine_eq]; omega, fun b' o' e' => ?_, by rw [upd_same, rep_succ]⟩
        rw [upd_ne (fun z => ?_)]
        · exact s3 _ _ (s2 _ _ e')
        · rw [z] at e'
          have z2 := S3 _ _ e'
          rw [nD] at z2
          cases z2
      · rintro H1 ⟨s1, e1⟩
        refine ⟨D, List.replicate _ true, rfl, SqL.of (by rw [e1, List.map_replicate]), ?_⟩
        rw [show (List.replicate (min xs.length ys.length) true).all id = true from List.all_eq_true.mpr fun b' hb' => by rw [List.eq_of_mem_replicate hb']; rfl]
        exact q _ s1
theorem c_alike (T : Bt mg) (F : FnP K "_law_alike" s_alike f fd) (hm : mg "_law_alike" = some (.ref f)) : ∀ n, Cal P w K mg base (n + 1) "_law_alike" (spAlike n)
  | 0 => c_alike_step T F hm 0 (cal_false F hm)
  | n + 1 => c_alike_step T F hm (n + 1) (c_alike T F hm n)
end
end L2.K4
set_option Elab.async false
set_option linter.all false
set_option maxRecDepth 100000
set_option maxHeartbeats 8000000
namespace L2.K4
open PySem PySem.Spec PyProof.Rows L2.Tb
abbrev s_lots : Stmt := top 22
abbrev N_lots : List Str := ["_law_lots_here"]
theorem sc_lots : FnScope N_lots [] (defScope s_lots) := ⟨rfl, rfl, rfl, by decide +kernel, rfl, by decide +kernel, by decide +kernel⟩
abbrev s_pairs : Stmt := top 23
abbrev N_pairs : List Str := ["_law_words", "_law_word"]
theorem sc_pairs : FnScope N_pairs [] (defScope s_pairs) := ⟨rfl, rfl, rfl, by decide +kernel, rfl, by decide +kernel, by decide +kernel⟩
/-- the lots, as the law writes them -/
abbrev Turn := Int × Int × Int
def turnV (t : Turn) : List V := [.int t.1, .int t.2.1, .int t.2.2]
def lotD : List (Str × List Turn) := [("plain", [(0, 1, 2)]), ("sides", [(0, 1, 2), (1, 0, 2)]), ("front", [(0, 1, 2), (2, 1, 0)]), ("back", [(0, 1, 2), (0, 2, 1)]), ("round", [(0, 1, 2), (1, 2, 0), (2, 0, 1)]), ("all", [(0, 1, 2), (0, 2, 1), (1, 0, 2), (1, 2, 0), (2, 0, 1), (2, 1, 0)])]
def LotL (H : Hp) (l : Addr) (lot : List Turn) : Prop := ∃ ts : List Addr, H l = some (.lst (ts.map V.ref)) ∧ Paired (fun t u => H t = some (.tup (turnV u))) ts lot
theorem paired_imp {α β : Type} {R S : α → β → Prop} (h : ∀ a b, R a b → S a b) : ∀ {xs : List α} {ys : List β}, Paired R xs ys → Paired S xs ys
  | _, _, .nil => .nil
  | _, _, .cons r t => .cons (h _ _ r) (paired_imp h t)
theorem LotL.same {H H' : Hp} {l : Addr} {lot : List Turn} (h : LotL H l lot) (s : Same H H') : LotL H' l lot := by
  obtain ⟨ts, h1, h2⟩ := h
  exact ⟨ts, s _ _ h1, paired_imp (fun _ _ e => s _ _ e) h2⟩
theorem LotL.keep {H H' : Hp} {p l : Addr} {kvs : List (Key × V)} {lot : List Turn} (h : LotL H l lot) (hp : H p = some (.dK kvs)) (s : SameB p H H') : LotL H' l lot := by
  obtain ⟨ts, h1, h2⟩ := h
  refine ⟨ts, s _ _ (fun z => ?_) h1, paired_imp (fun t u e => s _ _ (fun z => ?_) e) h2⟩
  · rw [z, hp] at h1
    cases h1
  · rw [z, hp] at e
    cases e
def tLotT : List Turn → TA
  | [] => tNil
  | t :: r => tCons (tTup (tCons (tC (.int t.1)) (tCons (tC (.int t.2.1)) (tCons (tC (.int t.2.2)) tNil)))) (tLotT r)
theorem lot_args : ∀ (lot : List Turn) {σ : St} {H : Hp} {R : List V → Hp → Prop}, (∀ (ts : List Addr) (H' : Hp), Same H H' → Paired (fun t u => H' t = some (.tup (turnV u))) ts lot → R (ts.map V.ref) H') → tLotT lot σ H R
  | [], σ, H, R, h => h [] H (fun _ _ e => e) .nil
  | t :: r, σ, H, R, h => ⟨Nat.le_of_ble_eq_true rfl, fun p np => lot_args r fun ts H' s hp => h (p :: ts) H' ((same_new np).trans s) (.cons (s _ _ upd_same) hp)⟩
theorem lot_run (lot : List Turn) (hz : lot.length ≤ 100) {σ : St} {H : Hp} {Q : VK} (h : ∀ (l : Addr) (H' : Hp), Same H H' → LotL H' l lot → Q (.ref l) H') : tLst (tLotT lot) σ H Q := by
  refine lot_args lot fun ts H' s hp => ⟨?_, fun l n => ?_⟩
  · rw [List.length_map, Paired.length hp, sizeLine_eq]
    omega
  · have s2 := same_new (o := .lst (ts.map V.ref)) n
    exact h l _ (s.trans s2) ⟨ts, upd_same, paired_imp (fun _ _ e => s2 _ _ e) hp⟩
theorem pair_step {k : Str} {tv : TE} {r : List (TE × TE)} {σ : St} {H : Hp} {Q : List (V × V) → Hp → Prop} (h : tv σ H fun y H2 => tPairs r σ H2 fun ps H3 => Q ((.str k, y) :: ps) H3) : tPairs ((tC (.str k), tv) :: r) σ H Q := h
theorem asg_step {te : TE} {g : TG} {b : TS} {D : Ends} {σ : St} {H : Hp} (h : te σ H fun x H1 => g x σ H1 (b D)) : tSeq (tAsg te g) b D σ H := h
/-- the law's dict of the lots -/
def LotsAt (H : Hp) (kvs : List (Key × V)) : Prop := Paired (fun kv d => kv.1 = Sum.inr d.1 ∧ ∃ l, kv.2 = V.ref l ∧ LotL H l d.2) kvs lotD
theorem LotsAt.same {H H' : Hp} {kvs : List (Key × V)} (h : LotsAt H kvs) (s : Same H H') : LotsAt H' kvs := paired_imp (fun _ _ ⟨e, l, e2, q⟩ => ⟨e, l, e2, q.same s⟩) h
def spLots : Sp := fun vs H Q _ => vs = [] ∧ ∀ (d : Addr) (H' : Hp) (kvs : List (Key × V)), Same H H' → H' d = some (.dK kvs) → LotsAt H' kvs → Q (.ref d) H'
section
variable {P : Program} {w : World} {K : PySem.W.Frag} {mg : Str → Option Value} {base : Heap} {f : Addr} {fd : FuncData}
theorem c_lots (F : FnP K "_law_lots" s_lots f fd) (hm : mg "_law_lots" = some (.ref f)) : Cal P w K mg base 1 "_law_lots" spLots := by
  have hnd := sc_lots.nd
  refine cal_mk F hm sc_lots (fun _ _ _ _ _ _ us hl => match us, hl with | [], _ => rfl) (fun vs H Q E h => ?_) (fun cdv A outer s H vs Q E hr h => ?_)
  · rw [h.1]
    rfl
  · obtain ⟨rfl, q⟩ := h
    refine ⟨_, (pss_cons (ps_set (i := 0) hnd rfl (by first | exact Or.inl rfl | exact Or.inr rfl) (pe_disp (pps_cons pe_str (pe_lst (pa_cons (pe_tup (pa_cons pe_int (pa_cons pe_int (pa_cons pe_int pa_nil)))) pa_nil)) (pps_cons pe_str (pe_lst (pa_cons (pe_tup (pa_cons pe_int (pa_cons pe_int (pa_cons pe_int pa_nil)))) (pa_cons (pe_tup (pa_cons pe_int (pa_cons pe_int (pa_cons pe_int pa_nil)))) pa_nil))) (pps_cons pe_str (pe_lst (pa_cons (pe_tup (pa_cons pe_int (pa_cons pe_int (pa_cons pe_int pa_nil)))) (pa_cons (pe_tup (pa_cons pe_int (pa_cons pe_int (pa_cons pe_int pa_nil)))) pa_nil))) pps_nil))) (by rfl) (by rfl) (fun z => by cases z) (by decide)))
      (pss_cons (ps_asg (pe_lst (pa_cons (pe_tup (pa_cons pe_int (pa_cons pe_int (pa_cons pe_int pa_nil)))) (pa_cons (pe_tup (pa_cons pe_int (pa_cons pe_int (pa_cons pe_int pa_nil)))) pa_nil))) (pg_sub (pv 0) pe_str (set_dict (Nat.lt_of_le_of_lt (Nat.add_le_add_left (by decide) _) hr.units))))
      (pss_cons (ps_asg (pe_lst (pa_cons (pe_tup (pa_cons pe_int (pa_cons pe_int (pa_cons pe_int pa_nil)))) (pa_cons (pe_tup (pa_cons pe_int (pa_cons pe_int (pa_cons pe_int pa_nil)))) (pa_cons (pe_tup (pa_cons pe_int (pa_cons pe_int (pa_cons pe_int pa_nil)))) pa_nil)))) (pg_sub (pv 0) pe_str (set_dict (Nat.lt_of_le_of_lt (Nat.add_le_add_left (by decide) _) hr.units))))
      (pss_cons (ps_asg (pe_lst (pa_cons (pe_tup (pa_cons pe_int (pa_cons pe_int (pa_cons pe_int pa_nil)))) (pa_cons (pe_tup (pa_cons pe_int (pa_cons pe_int (pa_cons pe_int pa_nil)))) (pa_cons (pe_tup (pa_cons pe_int (pa_cons pe_int (pa_cons pe_int pa_nil)))) (pa_cons (pe_tup (pa_cons pe_int (pa_cons pe_int (pa_cons pe_int pa_nil)))) (pa_cons (pe_tup (pa_cons pe_int (pa_cons pe_int (pa_cons pe_int pa_nil)))) (pa_cons (pe_tup (pa_cons pe_int (pa_cons pe_int (pa_cons pe_int pa_nil)))) pa_nil))))))) (pg_sub (pv 0) pe_str (set_dict (Nat.lt_of_le_of_lt (Nat.add_le_add_left (by decide) _) hr.units))))
      (pss_one (ps_ret (pv 0))))))), ?_⟩
    refine fun p np => ?_
    have y0 := same_new (o := .dK []) np
    have f0 := upd_same (H := H) (a := p) (o := .dK [])
    generalize upd H p (.dK []) = G0 at y0 f0 ⊢
    refine pair_step (lot_run [(0, 1, 2)] (by decide) fun l0 G1 s1 q0 => pair_step (lot_run [(0, 1, 2), (1, 0, 2)] (by decide) fun l1 G2 s2 q1 => pair_step (lot_run [(0, 1, 2), (2, 1, 0)] (by decide) fun l2 G3 s3 q2 => ?_)))
    have f3 := s3 _ _ (s2 _ _ (s1 _ _ f0))
    refine ⟨f3, [(.inr ("plain" : Str), .ref l0), (.inr ("sides" : Str), .ref l1), (.inr ("front" : Str), .ref l2)], rfl, Nat.le_of_ble_eq_true rfl, ?_⟩
    have b3 : SameB p G3 (upd G3 p (.dK (mergeK [] [(.inr ("plain" : Str), .ref l0), (.inr ("sides" : Str), .ref l1), (.inr ("front" : Str), .ref l2)]))) := SameB.set
    have e3 : upd G3 p (.dK (mergeK [] [(.inr ("plain" : Str), .ref l0), (.inr ("sides" : Str), .ref l1), (.inr ("front" : Str), .ref l2)])) p = some (.dK [(.inr ("plain" : Str), .ref l0), (.inr ("sides" : Str), .ref l1), (.inr ("front" : Str), .ref l2)]) := upd_same
    generalize upd G3 p (.dK (mergeK [] [(.inr ("plain" : Str), .ref l0), (.inr ("sides" : Str), .ref l1), (.inr ("front" : Str), .ref l2)])) = K3 at b3 e3 ⊢
    have B3 : SameB p H K3 := (SameB.of (y0.trans (s1.trans (s2.trans s3)))).trans b3
    have q0 := ((q0.same s2).same s3).keep f3 b3
    have q1 := (q1.same s3).keep f3 b3
    have q2 := q2.keep f3 b3
    refine asg_step (lot_run [(0, 1, 2), (0, 2, 1)] (by decide) fun l3 G4 s4 q3 => ?_)
    have f4 := s4 _ _ e3
    refine ⟨_, rfl, p, _, rfl, DPut.k (k := .inr ("back" : Str)) f4 (by rw [sizeLine_eq]; exact Nat.le_of_ble_eq_true rfl), ?_⟩
    have b4 : SameB p G4 (upd G4 p (.dK (putK [(.inr ("plain" : Str), .ref l0), (.inr ("sides" : Str), .ref l1), (.inr ("front" : Str), .ref l2)] (.inr ("back" : Str)) (.ref l3)))) := SameB.set
    have e4 : upd G4 p (.dK (putK [(.inr ("plain" : Str), .ref l0), (.inr ("sides" : Str), .ref l1), (.inr ("front" : Str), .ref l2)] (.inr ("back" : Str)) (.ref l3))) p = some (.dK [(.inr ("plain" : Str), .ref l0), (.inr ("sides" : Str), .ref l1), (.inr ("front" : Str), .ref l2), (.inr ("back" : Str), .ref l3)]) := upd_same
    show tSeq _ _ _ _ (upd G4 p (.dK (putK [(.inr ("plain" : Str), .ref l0), (.inr ("sides" : Str), .ref l1), (.inr ("front" : Str), .ref l2)] (.inr ("back" : Str)) (.ref l3))))
    generalize upd G4 p (.dK (putK [(.inr ("plain" : Str), .ref l0), (.inr ("sides" : Str), .ref l1), (.inr ("front" : Str), .ref l2)] (.inr ("back" : Str)) (.ref l3))) = K4 at b4 e4 ⊢
    have B4 := (B3.trans (SameB.of s4)).trans b4
    have q0 := (q0.same s4).keep f4 b4
    have q1 := (q1.same s4).keep f4 b4
    have q2 := (q2.same s4).keep f4 b4
    have q3 := q3.keep f4 b4
    refine asg_step (lot_run [(0, 1, 2), (1, 2, 0), (2, 0, 1)] (by decide) fun l4 G5 s5 q4 => ?_)
    have f5 := s5 _ _ e4
    refine ⟨_, rfl, p, _, rfl, DPut.k (k := .inr ("round" : Str)) f5 (by rw [sizeLine_eq]; exact Nat.le_of_ble_eq_true rfl), ?_⟩
    have b5 : SameB p G5 (upd G5 p (.dK (putK [(.inr ("plain" : Str), .ref l0), (.inr ("sides" : Str), .ref l1), (.inr ("front" : Str), .ref l2), (.inr ("back" : Str), .ref l3)] (.inr ("round" : Str)) (.ref l4)))) := SameB.set
    have e5 : upd G5 p (.dK (putK [(.inr ("plain" : Str), .ref l0), (.inr ("sides" : Str), .ref l1), (.inr ("front" : Str), .ref l2), (.inr ("back" : Str), .ref l3)] (.inr ("round" : Str)) (.ref l4))) p = some (.dK [(.inr ("plain" : Str), .ref l0), (.inr ("sides" : Str), .ref l1), (.inr ("front" : Str), .ref l2), (.inr ("back" : Str), .ref l3), (.inr ("round" : Str), .ref l4)]) := upd_same
    show tSeq _ _ _ _ (upd G5 p (.dK (putK [(.inr ("plain" : Str), .ref l0), (.inr ("sides" : Str), .ref l1), (.inr ("front" : Str), .ref l2), (.inr ("back" : Str), .ref l3)] (.inr ("round" : Str)) (.ref l4))))
    generalize upd G5 p (.dK (putK [(.inr ("plain" : Str), .ref l0), (.inr ("sides" : Str), .ref l1), (.inr ("front" : Str), .ref l2), (.inr ("back" : Str), .ref l3)] (.inr ("round" : Str)) (.ref l4))) = K5 at b5 e5 ⊢
    have B5 := (B4.trans (SameB.of s5)).trans b5
    have q0 := (q0.same s5).keep f5 b5
    have q1 := (q1.same s5).keep f5 b5
    have q2 := (q2.same s5).keep f5 b5
    have q3 := (q3.same s5).keep f5 b5
    have q4 := q4.keep f5 b5
    refine asg_step (lot_run [(0, 1, 2), (0, 2, 1), (1, 0, 2), (1, 2, 0), (2, 0, 1), (2, 1, 0)] (by decide) fun l5 G6 s6 q5 => ?_)
    have f6 := s6 _ _ e5
    refine ⟨_, rfl, p, _, rfl, DPut.k (k := .inr ("all" : Str)) f6 (by rw [sizeLine_eq]; exact Nat.le_of_ble_eq_true rfl), ?_⟩
    have b6 : SameB p G6 (upd G6 p (.dK (putK [(.inr ("plain" : Str), .ref l0), (.inr ("sides" : Str), .ref l1), (.inr ("front" : Str), .ref l2), (.inr ("back" : Str), .ref l3), (.inr ("round" : Str), .ref l4)] (.inr ("all" : Str)) (.ref l5)))) := SameB.set
    have e6 : upd G6 p (.dK (putK [(.inr ("plain" : Str), .ref l0), (.inr ("sides" : Str), .ref l1), (.inr ("front" : Str), .ref l2), (.inr ("back" : Str), .ref l3), (.inr ("round" : Str), .ref l4)] (.inr ("all" : Str)) (.ref l5))) p = some (.dK [(.inr ("plain" : Str), .ref l0), (.inr ("sides" : Str), .ref l1), (.inr ("front" : Str), .ref l2), (.inr ("back" : Str), .ref l3), (.inr ("round" : Str), .ref l4), (.inr ("all" : Str), .ref l5)]) := upd_same
    show tRet _ _ _ (upd G6 p (.dK (putK [(.inr ("plain" : Str), .ref l0), (.inr ("sides" : Str), .ref l1), (.inr ("front" : Str), .ref l2), (.inr ("back" : Str), .ref l3), (.inr ("round" : Str), .ref l4)] (.inr ("all" : Str)) (.ref l5))))
    generalize upd G6 p (.dK (putK [(.inr ("plain" : Str), .ref l0), (.inr ("sides" : Str), .ref l1), (.inr ("front" : Str), .ref l2), (.inr ("back" : Str), .ref l3), (.inr ("round" : Str), .ref l4)] (.inr ("all" : Str)) (.ref l5))) = K6 at b6 e6 ⊢
    have B6 := (B5.trans (SameB.of s6)).trans b6
    have q0 := (q0.same s6).keep f6 b6
    have q1 := (q1.same s6).keep f6 b6
    have q2 := (q2.same s6).keep f6 b6
    have q3 := (q3.same s6).keep f6 b6
    have q4 := (q4.same s6).keep f6 b6
    have q5 := q5.keep f6 b6
    refine ⟨_, rfl, q p K6 _ (fun b o e => B6 b o (ne_of_none e np) e) e6 ?_⟩
    exact .cons ⟨rfl, l0, rfl, q0⟩ (.cons ⟨rfl, l1, rfl, q1⟩ (.cons ⟨rfl, l2, rfl, q2⟩ (.cons ⟨rfl, l3, rfl, q3⟩ (.cons ⟨rfl, l4, rfl, q4⟩ (.cons ⟨rfl, l5, rfl, q5⟩ .nil)))))
end
theorem same_put {H0 H : Hp} {D : Addr} {o : HO} (n : H0 D = none) (s : Same H0 H) : Same H0 (upd H D o) := fun b u e => by rw [upd_ne (ne_of_none e n)]; exact s _ _ e
theorem retop_step {r : R2} {ta tb : TE} {D : Ends} {σ : St} {H : Hp} (h : ta σ H fun x H1 => tb σ H1 fun y H2 => r x y H2 D.rt) : tRet (tOp r ta tb) D σ H := h
def wordsD : List Str := lotD.map (·.1)
def pairD : List (Str × Bool) := wordsD.map (fun x => (x, false)) ++ wordsD.map (fun x => (x, true))
theorem LotsAt.keys {H : Hp} {kvs : List (Key × V)} (h : LotsAt H kvs) : (kvs.map fun kv => kV kv.1) = wordsD.map V.str := by
  unfold LotsAt at h
  unfold wordsD
  generalize lotD = ds at h
  induction h with
  | nil => rfl
  | cons r _ ih =>
    rw [List.map_cons, List.map_cons, List.map_cons, ih, r.1]
    rfl
def PairAt (H : Hp) (t : Addr) (d : Str × Bool) : Prop := H t = some (.tup [.str d.1, .bl d.2])
def spPairs : Sp := fun vs H Q _ => vs = [] ∧ ∀ (l : Addr) (H' : Hp) (ts : List Addr), Same H H' → H' l = some (.lst (ts.map V.ref)) → Paired (PairAt H') ts pairD → Q (.ref l) H'
theorem paired_app {α β : Type} {R : α → β → Prop} : ∀ {xs xs' : List α} {ys ys' : List β}, Paired R xs ys → Paired R xs' ys' → Paired R (xs ++ xs') (ys ++ ys')
  | _, _, _, _, .nil, h => h
  | _, _, _, _, .cons r t, h => .cons r (paired_app t h)
theorem pairs_run {K : PySem.W.Frag} (b : Bool) {w : Addr} {H : Hp} {Q : VK} (hw : H w = some (.lst (wordsD.map V.str))) (q : ∀ (D : Addr) (H' : Hp) (ts : List Addr), Same H H' → H' D = some (.lst (ts.map V.ref)) → Paired (PairAt H') ts (wordsD.map fun x => (x, b)) → Q (.ref D) H') :
    tLc (iList K (tVar 0)) (gName 1) tYes (tTup (tCons (tVar 1) (tCons (tC (.bl b)) tNil))) [1] [some (.ref w), none] H Q := by
  refine ⟨_, rfl, w, rfl, ⟨_, SqL.of hw⟩, fun D nD => ?_⟩
  refine lc_list (xs := wordsD.map V.str) (fun n H' => Same H H' ∧ ∃ ts : List Addr, H' D = some (.lst (ts.map V.ref)) ∧ ts.length = n ∧ Paired (PairAt H') ts ((wordsD.take n).map fun x => (x, b))) ⟨same_new nD, [], upd_same, rfl, .nil⟩ (fun n H' _ h => SqL.of (h.1 _ _ hw)) ?_ ?_
  · rintro n x H1 hx ⟨s1, ts, e1, hl, p1⟩
    have hn : n < wordsD.length := by
      have := (List.getElem?_eq_some_iff.mp hx).1
      rwa [List.length_map] at this
    have ex : x = .str wordsD[n] := by
      rw [List.getElem?_map, List.getElem?_eq_getElem hn] at hx
      exact (Option.some.inj hx).symm
    refine ⟨rfl, ?_⟩
    unfold tYes
    dsimp only
    rw [if_pos rfl]
    refine ⟨_, rfl, Nat.le_of_ble_eq_true rfl, fun t nt => ?_⟩
    have st := same_new (o := .tup [x, .bl b]) nt
    have hD : t ≠ D := fun z => by
      rw [z, e1] at nt
      cases nt
    have eD := st _ _ e1
    refine ⟨_, eD, ?_, same_put nD (s1.trans st), ts ++ [t], ?_, ?_, ?_⟩
    · rw [List.length_map, hl, sizeLine_eq]
      have : wordsD.length = 6 := rfl
      omega
    · rw [upd_same, List.map_append]
      rfl
    · rw [List.length_append, hl]
      rfl
    · have up : ∀ {c : Addr} {o : HO}, H1 c = some o → (∀ xs, o ≠ .lst xs) → upd (upd H1 t (.tup [x, .bl b])) D (.lst (ts.map V.ref ++ [.ref t])) c = some o := fun {c o} e ne => by
        rw [upd_ne (fun z => by rw [z, e1] at e; exact ne _ (Option.some.inj e).symm)]
        exact st _ _ e
      rw [List.take_succ, List.getElem?_eq_getElem hn, List.map_append]
      refine paired_app (paired_imp (fun u d e => up e fun xs z => by cases z) p1) (.cons ?_ .nil)
      show upd _ _ _ t = some (.tup [.str wordsD[n], .bl b])
      rw [upd_ne hD, upd_same, ex]
  · rintro H1 ⟨s1, ts, e1, hl, p1⟩
    refine q D H1 ts s1 e1 ?_
    rw [List.length_map, List.take_length] at p1
    exact p1
section
variable {P : Program} {w : World} {K : PySem.W.Frag} {mg : Str → Option Value} {base : Heap} {f : Addr} {fd : FuncData}
theorem c_pairs (T : Bt mg) (F : FnP K "_law_pairs" s_pairs f fd) (hm : mg "_law_pairs" = some (.ref f)) (k_lots : Cal P w K mg base 1 "_law_lots" spLots) : Cal P w K mg base 2 "_law_pairs" spPairs := by
  have hnd := sc_pairs.nd
  refine cal_mk F hm sc_pairs (fun _ _ _ _ _ _ us hl => match us, hl with | [], _ => rfl) (fun vs H Q E h => ?_) (fun cdv A outer s H vs Q E hr h => ?_)
  · rw [h.1]
    rfl
  · obtain ⟨rfl, q⟩ := h
    refine ⟨_, (pss_cons (ps_set (i := 0) hnd rfl (by first | exact Or.inl rfl | exact Or.inr rfl) (pe_callTy (call_list_dK (by rfl)) (by rfl) T.m_list (by decide +kernel) (pa_cons (pe_cal0 k_lots hr (by omega) (by rfl)) pa_nil)))
      (pss_one (ps_ret (pe_op op_cat (pe_lc (own := [("_law_word", 1)]) (tt := tYes) (by rfl) hnd (pi_list (pv 0)) (blkOk_by (own := [("_law_word", 1)]) (N := N_pairs) (sc := defScope s_pairs) (by decide +kernel)) (fun _ _ _ _ _ => (pg_name (i := 1) hnd rfl (by first | exact Or.inl rfl | exact Or.inr rfl))) (fun _ _ _ _ _ => pts_nil) (fun _ _ _ _ _ => (pe_tup (pa_cons (pv 1) (pa_cons pe_bl pa_nil))))) (pe_lc (own := [("_law_word", 1)]) (tt := tYes) (by rfl) hnd (pi_list (pv 0)) (blkOk_by (own := [("_law_word", 1)]) (N := N_pairs) (sc := defScope s_pairs) (by decide +kernel)) (fun _ _ _ _ _ => (pg_name (i := 1) hnd rfl (by first | exact Or.inl rfl | exact Or.inr rfl))) (fun _ _ _ _ _ => pts_nil) (fun _ _ _ _ _ => (pe_tup (pa_cons (pv 1) (pa_cons pe_bl pa_nil))))))))), ?_⟩
    refine ⟨rfl, fun d H1 kvs s1 e1 L1 => ⟨d, kvs, rfl, e1, fun w nw => ?_⟩⟩
    rw [L1.keys]
    have s2 := same_new (o := .lst (wordsD.map V.str)) nw
    unfold gName
    dsimp only
    refine retop_step ?_
    refine pairs_run false upd_same fun D1 H2 ts1 s3 f1 p1 => ?_
    refine pairs_run true (s3 _ _ upd_same) fun D2 H3 ts2 s4 f2 p2 => ?_
    refine ⟨D1, D2, _, _, rfl, rfl, s4 _ _ f1, f2, ?_, fun l nl => ?_⟩
    · rw [List.length_map, List.length_map, Paired.length p1, Paired.length p2, sizeLine_eq]
      exact Nat.le_of_ble_eq_true rfl
    · have s5 := same_new (o := .lst (ts1.map V.ref ++ ts2.map V.ref)) nl
      refine q l _ (ts1 ++ ts2) ((((s1.trans s2).trans s3).trans s4).trans s5) (by rw [upd_same, List.map_append]) ?_
      exact paired_app (paired_imp (fun _ _ e => s5 _ _ (s4 _ _ e)) p1) (paired_imp (fun _ _ e => s5 _ _ e) p2)
end
/-! ### the kinds -/
theorem op_isnotB {X : Cx} : OpR X (compareOp .IsNot) (fun x y H Q => ∃ b, y = .bl b ∧ Q (.bl (!decide (x = .bl b))) H) := by
  intro pins s σ H x y v u Q I rx ry h
  obtain ⟨b, rfl, q⟩ := h
  cases (show u = Value.bool b from ry)
  by_cases e : x = .bl b
  · subst e
    cases (show v = Value.bool b from rx)
    exact wpAny_isNot_self rfl ⟨.bl false, H, I, rfl, by simpa using q⟩
  · have q2 : Q (.bl true) H := by simpa [e] using q
    have fin : ∀ {w : Value}, v = w → w ≠ .bool b → (plainIs w (.bool b) = true) → wpAny (model X.prog X.w) X.A (compareOp .IsNot v (.bool b)) (EP X pins σ Q) X.xe s := fun e1 e2 e3 => by
      rw [e1]
      exact wpAny_isNot_other e3 e2 ⟨.bl true, H, I, rfl, q2⟩
    cases x with
    | bl c =>
      cases (show v = Value.bool c from rx)
      exact fin rfl (fun z => e (by injection z with z; rw [z])) rfl
    | non => exact fin rx (fun z => nomatch z) rfl
    | ref a => exact fin rx (fun z => nomatch z) rfl
    | ty n => exact fin rx (fun z => nomatch z) rfl
    | int i =>
      obtain ⟨t, e1⟩ := rx
      exact fin e1 (fun z => nomatch z) rfl
    | str i =>
      obtain ⟨t, e1⟩ := rx
      exact fin e1 (fun z => nomatch z) rfl
    | byt i =>
      obtain ⟨t, e1⟩ := rx
      exact fin e1 (fun z => nomatch z) rfl
    | flt i =>
      obtain ⟨t, e1⟩ := rx
      exact fin e1 (fun z => nomatch z) rfl
abbrev s_kinit : Stmt := inClass (top 12) 0
abbrev N_kinit : List Str := ["self", "turns", "calm"]
theorem sc_kinit : FnScope N_kinit ["self", "turns", "calm"] (defScope s_kinit) := ⟨rfl, rfl, rfl, by decide +kernel, rfl, by decide +kernel, by decide +kernel⟩
/-- not a text -/
structure NoS (K : PySem.W.Frag) (H : Hp) (x : V) : Prop where
  ex : ∃ t, TyX K H x t ∧ PySem.W.kitOne K t (.type "str") = some false
theorem str_ty {K : PySem.W.Frag} {H : Hp} {z : Str} : TyX K H (.str z) (.type "str") := .base (.str z)
theorem str_kit {K : PySem.W.Frag} : PySem.W.kitOne K (.type "str") (.type "str") = some true := rfl
theorem iteT2 {c : Bool} {A B : Prop} (hc : c = true) (h : A) : if c = true then A else B := by rw [if_pos hc]; exact h
theorem iteN2 {c : Bool} {A B : Prop} (hc : c = false) (h : B) : if c = true then A else B := by rw [if_neg (by rw [hc]; decide)]; exact h
structure KiF (P : Program) (w : World) (K : PySem.W.Frag) (mg : Str → Option Value) (base : Heap) (C dL CT CF : Addr) (es : Array DictEntry) (n : Nat) : Prop where
  mgC : mg "Kind" = some (.ref C)
  cls : Cls K C
  noT : NoAttr K C "_turns"
  noC : NoAttr K C "_calm"
  mgL : mg "LOTS" = some (.ref dL)
  tab : KDict K w dL es n
  inL : ∀ z, ∃ r, PySem.W.nsIn K dL z = some r ∧ r.isSome = wordsD.contains z
  eT : ErC P w K mg base "InvalidTurns" "given" bVE CT
  eF : ErC P w K mg base "InvalidFlag" "given" bVE CF
  tyT : PySem.W.typeIn K (.ref CT) = some (.type "type")
  tyF : PySem.W.typeIn K (.ref CF) = some (.type "type")
def kindF (z : Str) (b : Bool) : List (Str × V) := [("_turns", .str z), ("_calm", .bl b)]
def spKinit (K : PySem.W.Frag) (C CT CF : Addr) : Sp := fun vs H Q E => ∃ (a dx : Addr) (t c : V), vs = [.ref a, t, c] ∧ H a = some (.ins C dx []) ∧
  ((∃ z b, t = .str z ∧ wordsD.contains z = true ∧ c = .bl b ∧ Q .non (upd (upd H a (.ins C dx [("_turns", .str z)])) a (.ins C dx (kindF z b)))) ∨
   (((∃ z, t = .str z ∧ wordsD.contains z = false) ∨ NoS K H t) ∧ ∀ d H', Same H H' → H d = none → H' d = some (.xd [("given", t)]) → E (.ref CT) (some d) H') ∨
   (∃ z, t = .str z ∧ wordsD.contains z = true ∧ (∀ b, c ≠ .bl b) ∧ ∀ d H', Same H H' → H d = none → H' d = some (.xd [("given", c)]) → E (.ref CF) (some d) H'))
section
variable {P : Program} {w : World} {K : PySem.W.Frag} {mg : Str → Option Value} {base : Heap} {f : Addr} {fd : FuncData} {C dL CT CF : Addr} {es : Array DictEntry} {n : Nat}
theorem c_kinit (T : Bt mg) (mstr : mg "str" = none) (KF : KiF P w K mg base C dL CT CF es n) (F : FunD K "__init__" "Kind.__init__" (defArgs s_kinit) (defBody s_kinit) (defScope s_kinit) [] [("calm", .bl false)] f fd) : FnOk P w K mg base (L2.CX P w) 3 f fd ["self", "turns", "calm"] (spKinit K C CT CF) := by
  have hnd := sc_kinit.nd
  refine F.ok sc_kinit (fun vs H Q E h => ?_) (fun cdv A outer s H vs Q E hr h => ?_)
  · obtain ⟨a, dx, t, c, rfl, _⟩ := h
    rfl
  · obtain ⟨a, dx, t, c, rfl, ha, h⟩ := h
    refine ⟨_, (pss_cons (ps_if (PW.pt (pw_or (pt_not (pt_val (pe_callB call_isi (by rfl) T.m_isinstance (by decide +kernel) (pa_cons (pv 1) (pa_cons (pe_bltn (v := .ty "str") (by rfl) mstr (by decide +kernel) rfl) pa_nil))))) (pw_or1 (pt_cmpR (op_notIn_kd KF.tab) (pv 1) (pe_glob (v := .ref dL) (by rfl) KF.mgL rfl) (by rfl)))))
      (pss_one (ps_raise (by rfl) (takes_of rfl rfl rfl rfl) (pmk_er KF.eT KF.tyT hr (by omega) (by rfl) (pv 1))))
      pss_nil)
      (pss_cons (ps_if (PW.pt (pw_and (pt_cmpR op_isnotB (pv 2) pe_bl (nomark _)) (pw_and1 (pt_cmpR op_isnotB (pv 2) pe_bl (nomark _)))))
      (pss_one (ps_raise (by rfl) (takes_of rfl rfl rfl rfl) (pmk_er KF.eF KF.tyF hr (by omega) (by rfl) (pv 2))))
      pss_nil)
      (pss_cons (ps_fld (pv 0) (pv 1) (by rfl))
      (pss_one (ps_fld (pv 0) (pv 2) (by rfl)))))), ?_⟩
    rcases h with ⟨z, b, rfl, hz, rfl, q⟩ | ⟨hb, q⟩ | ⟨z, rfl, hz, hc, q⟩
    · obtain ⟨r, e, hr2⟩ := KF.inL z
      refine ⟨_, rfl, _, _, _, _, _, rfl, .ty _, str_ty, str_kit, _, rfl, iteF ⟨_, rfl, z, r, rfl, rfl, e, ?_⟩⟩
      rw [hr2, hz]
      refine ⟨_, rfl, iteF ?_⟩
      refine ⟨_, rfl, true, rfl, _, rfl, ?_⟩
      cases b with
      | true =>
        refine iteN2 (by decide +kernel) (iteF ?_)
        refine ⟨_, rfl, _, rfl, a, C, dx, [], rfl, ha, KF.cls, KF.noT, by decide, ?_⟩
        refine ⟨_, rfl, _, rfl, a, C, dx, _, rfl, upd_same, KF.cls, KF.noC, Nat.le_of_ble_eq_true rfl, ?_⟩
        exact q
      | false =>
        refine iteT2 (by decide +kernel) ⟨_, rfl, false, rfl, _, rfl, iteN2 (by decide +kernel) ?_⟩
        refine ⟨_, rfl, _, rfl, a, C, dx, [], rfl, ha, KF.cls, KF.noT, by decide, ?_⟩
        refine ⟨_, rfl, _, rfl, a, C, dx, _, rfl, upd_same, KF.cls, KF.noC, Nat.le_of_ble_eq_true rfl, ?_⟩
        exact q
    · rcases hb with ⟨z, rfl, hz⟩ | hb
      · obtain ⟨r, e, hr2⟩ := KF.inL z
        refine ⟨_, rfl, _, _, _, _, _, rfl, .ty _, str_ty, str_kit, _, rfl, iteF ⟨_, rfl, z, r, rfl, rfl, e, ?_⟩⟩
        rw [hr2, hz]
        exact ⟨_, rfl, iteT ⟨_, rfl, fun d H' s n x => q d H' s n x⟩⟩
      · obtain ⟨T0, ty, k⟩ := hb.ex
        exact ⟨_, rfl, _, _, _, _, _, rfl, .ty _, ty, k, _, rfl, iteT (iteT ⟨_, rfl, fun d H' s n x => q d H' s n x⟩)⟩
    · obtain ⟨r, e, hr2⟩ := KF.inL z
      refine ⟨_, rfl, _, _, _, _, _, rfl, .ty _, str_ty, str_kit, _, rfl, iteF ⟨_, rfl, z, r, rfl, rfl, e, ?_⟩⟩
      rw [hr2, hz]
      refine ⟨_, rfl, iteF ?_⟩
      refine ⟨_, rfl, true, rfl, _, rfl, ?_⟩
      refine iteT2 (by rw [decide_eq_false (hc true)]; rfl) ⟨_, rfl, false, rfl, _, rfl, iteT2 (by rw [decide_eq_false (hc false)]; rfl) ?_⟩
      exact ⟨_, rfl, fun d H' s n x => q d H' s n x⟩
end
abbrev s_kturns : Stmt := inClass (top 12) 2
abbrev N_kturns : List Str := ["self"]
theorem sc_kturns : FnScope N_kturns ["self"] (defScope s_kturns) := ⟨rfl, rfl, rfl, by decide +kernel, rfl, by decide +kernel, by decide +kernel⟩
abbrev s_kcalm : Stmt := inClass (top 12) 3
abbrev N_kcalm : List Str := ["self"]
theorem sc_kcalm : FnScope N_kcalm ["self"] (defScope s_kcalm) := ⟨rfl, rfl, rfl, by decide +kernel, rfl, by decide +kernel, by decide +kernel⟩
abbrev s_klot : Stmt := inClass (top 12) 4
abbrev N_klot : List Str := ["self"]
theorem sc_klot : FnScope N_klot ["self"] (defScope s_klot) := ⟨rfl, rfl, rfl, by decide +kernel, rfl, by decide +kernel, by decide +kernel⟩
abbrev s_kstr : Stmt := inClass (top 12) 10
abbrev N_kstr : List Str := ["self"]
theorem sc_kstr : FnScope N_kstr ["self"] (defScope s_kstr) := ⟨rfl, rfl, rfl, by decide +kernel, rfl, by decide +kernel, by decide +kernel⟩
abbrev s_keq : Stmt := inClass (top 12) 9
abbrev N_keq : List Str := ["self", "other"]
theorem sc_keq : FnScope N_keq ["self", "other"] (defScope s_keq) := ⟨rfl, rfl, rfl, by decide +kernel, rfl, by decide +kernel, by decide +kernel⟩
/-- a kind stands at a -/
def KindAt (C : Addr) (H : Hp) (a : Addr) (z : Str) (b : Bool) : Prop := ∃ dx, H a = some (.ins C dx (kindF z b))
theorem KindAt.same {C : Addr} {H H' : Hp} {a : Addr} {z : Str} {b : Bool} (h : KindAt C H a z b) (s : Same H H') : KindAt C H' a z b := let ⟨dx, e⟩ := h; ⟨dx, s _ _ e⟩
def lotOf (z : Str) : List Turn := (lotD.lookup z).getD []
/-- a lot of the program, a tuple of tuples that stands for good -/
def LotK (K : PySem.W.Frag) (l : Addr) (lot : List Turn) : Prop := ∃ ts : List Addr, (∀ H, SqT K H l (ts.map V.ref)) ∧ Paired (fun t u => ∀ H, SqT K H t (turnV u)) ts lot
def spKturns (C : Addr) : Sp := fun vs H Q _ => ∃ (a : Addr) (z : Str) (b : Bool), vs = [.ref a] ∧ KindAt C H a z b ∧ Q (.str z) H
def spKcalm (C : Addr) : Sp := fun vs H Q _ => ∃ (a : Addr) (z : Str) (b : Bool), vs = [.ref a] ∧ KindAt C H a z b ∧ Q (.bl b) H
def spKlot (K : PySem.W.Frag) (C : Addr) : Sp := fun vs H Q _ => ∃ (a : Addr) (z : Str) (b : Bool), vs = [.ref a] ∧ KindAt C H a z b ∧ wordsD.contains z = true ∧ ∀ l, LotK K l (lotOf z) → Q (.ref l) H
/-- a kind's text -/
def kindS (z : Str) (b : Bool) : Str := cond b (Str.empty ++ ("calm " : Str) ++ z) z
def spKstr (C : Addr) : Sp := fun vs H Q _ => ∃ (a : Addr) (z : Str) (b : Bool), vs = [.ref a] ∧ KindAt C H a z b ∧ z.length ≤ 1000 ∧ Q (.str (kindS z b)) H
def spKeq (K : PySem.W.Frag) (C : Addr) : Sp := fun vs H Q _ => ∃ (a : Addr) (z : Str) (b : Bool) (y : V), vs = [.ref a, y] ∧ KindAt C H a z b ∧
  ((∃ (c : Addr) (z2 : Str) (b2 : Bool), y = .ref c ∧ KindAt C H c z2 b2 ∧ Q (.bl (decide (z = z2) && decide (b = b2))) H) ∨ (∃ t, TyX K H y t ∧ PySem.W.kitOne K t (.ref C) = some false ∧ Q (.bl false) H))
structure KiG (K : PySem.W.Frag) (w : World) (mg : Str → Option Value) (C dL : Addr) : Prop where
  calm : ∃ t, mg "_CALM" = some (.str "calm " t)
  lots : ∀ z, wordsD.contains z = true → ∃ l, KDct K w dL z (.ref l) ∧ LotK K l (lotOf z)
  ex : InsC K C
  self : PySem.W.kitOne K (.ref C) (.ref C) = some true
section
variable {P : Program} {w : World} {K : PySem.W.Frag} {mg : Str → Option Value} {base : Heap} {f : Addr} {fd : FuncData} {C dL CT CF : Addr} {es : Array DictEntry} {n : Nat}
theorem c_kturns (KF : KiF P w K mg base C dL CT CF es n) (F : FunD K "turns" "Kind.turns" (defArgs s_kturns) (defBody s_kturns) (defScope s_kturns) [] [] f fd) : FnOk P w K mg base L2.CX0 1 f fd ["self"] (spKturns C) := by
  have hnd := sc_kturns.nd
  refine F.ok sc_kturns (fun vs H Q E h => ?_) (fun cdv A outer s H vs Q E hr h => ?_)
  · obtain ⟨a, z, b, rfl, _⟩ := h
    rfl
  · obtain ⟨a, z, b, rfl, ⟨dx, e⟩, q⟩ := h
    exact ⟨_, (pss_one (ps_ret (pe_fld (pv 0) (by rfl)))), _, rfl, a, C, dx, _, _, rfl, e, KF.cls, KF.noT, rfl, q⟩
theorem c_kcalm (KF : KiF P w K mg base C dL CT CF es n) (F : FunD K "calm" "Kind.calm" (defArgs s_kcalm) (defBody s_kcalm) (defScope s_kcalm) [] [] f fd) : FnOk P w K mg base L2.CX0 1 f fd ["self"] (spKcalm C) := by
  have hnd := sc_kcalm.nd
  refine F.ok sc_kcalm (fun vs H Q E h => ?_) (fun cdv A outer s H vs Q E hr h => ?_)
  · obtain ⟨a, z, b, rfl, _⟩ := h
    rfl
  · obtain ⟨a, z, b, rfl, ⟨dx, e⟩, q⟩ := h
    exact ⟨_, (pss_one (ps_ret (pe_fld (pv 0) (by rfl)))), _, rfl, a, C, dx, _, _, rfl, e, KF.cls, KF.noC, rfl, q⟩
theorem c_klot (KF : KiF P w K mg base C dL CT CF es n) (KG : KiG K w mg C dL) (F : FunD K "lot" "Kind.lot" (defArgs s_klot) (defBody s_klot) (defScope s_klot) [] [] f fd) : FnOk P w K mg base L2.CX0 1 f fd ["self"] (spKlot K C) := by
  have hnd := sc_klot.nd
  refine F.ok sc_klot (fun vs H Q E h => ?_) (fun cdv A outer s H vs Q E hr h => ?_)
  · obtain ⟨a, z, b, rfl, _⟩ := h
    rfl
  · obtain ⟨a, z, b, rfl, ⟨dx, e⟩, hz, q⟩ := h
    obtain ⟨l, kd, lk⟩ := KG.lots z hz
    exact ⟨_, (pss_one (ps_ret (pe_ix ix_kdict (pe_glob (v := .ref dL) (by rfl) KF.mgL rfl) (pe_fld (pv 0) (by rfl)) (fun _ _ => rfl)))), _, rfl, a, C, dx, _, _, rfl, e, KF.cls, KF.noT, rfl, dL, z, .ref l, rfl, rfl, kd, q l lk⟩
theorem c_kstr (T : Bt mg) (mstr : mg "str" = none) (KF : KiF P w K mg base C dL CT CF es n) (KG : KiG K w mg C dL) (F : FunD K "__str__" "Kind.__str__" (defArgs s_kstr) (defBody s_kstr) (defScope s_kstr) [] [] f fd) : FnOk P w K mg base L2.CX0 1 f fd ["self"] (spKstr C) := by
  have hnd := sc_kstr.nd
  obtain ⟨tc, mc⟩ := KG.calm
  refine F.ok sc_kstr (fun vs H Q E h => ?_) (fun cdv A outer s H vs Q E hr h => ?_)
  · obtain ⟨a, z, b, rfl, _⟩ := h
    rfl
  · obtain ⟨a, z, b, rfl, ⟨dx, e⟩, hz, q⟩ := h
    refine ⟨_, (pss_cons (ps_if (pt_val (pe_fld (pv 0) (by rfl)))
      (pss_one (ps_ret (pe_joined (.cons (pe_fmt (pe_glob (v := .str "calm ") (by rfl) mc ⟨_, rfl⟩)) (.cons (pe_fmt (pe_fld (pv 0) (by rfl))) .nil)))))
      pss_nil)
      (pss_one (ps_ret (pe_callTy SkE.call_str_str (by rfl) mstr (by decide +kernel) (pa_cons (pe_fld (pv 0) (by rfl)) pa_nil))))), ?_⟩
    refine ⟨_, rfl, a, C, dx, _, _, rfl, e, KF.cls, KF.noC, rfl, b, rfl, ?_⟩
    cases b with
    | true =>
      refine iteT2 rfl (.inl ⟨_, rfl, Nat.le_of_ble_eq_true rfl, _, rfl, Nat.le_of_ble_eq_true rfl, ?_⟩)
      refine ⟨_, rfl, a, C, dx, _, _, rfl, e, KF.cls, KF.noT, rfl, .inl ⟨_, rfl, ?_, _, rfl, ?_, q⟩⟩
      · rw [sizeLine_eq]
        omega
      · rw [sizeLine_eq]
        have : (Str.empty ++ ("calm " : Str) ++ z).length = 5 + z.length := by
          rw [Str.length_append]
          rfl
        omega
    | false => exact iteN2 rfl ⟨_, rfl, a, C, dx, _, _, rfl, e, KF.cls, KF.noT, rfl, _, rfl, q⟩
theorem c_keq (T : Bt mg) (KF : KiF P w K mg base C dL CT CF es n) (KG : KiG K w mg C dL) (F : FunD K "__eq__" "Kind.__eq__" (defArgs s_keq) (defBody s_keq) (defScope s_keq) [] [] f fd) : FnOk P w K mg base L2.CX0 1 f fd ["self", "other"] (spKeq K C) := by
  have hnd := sc_keq.nd
  refine F.ok sc_keq (fun vs H Q E h => ?_) (fun cdv A outer s H vs Q E hr h => ?_)
  · obtain ⟨a, z, b, y, rfl, _⟩ := h
    rfl
  · obtain ⟨a, z, b, y, rfl, ⟨dx, e⟩, q⟩ := h
    refine ⟨_, (pss_one (ps_ret (pe_and (pe_callB call_isi (by rfl) T.m_isinstance (by decide +kernel) (pa_cons (pv 1) (pa_cons (pe_glob (v := .ref C) (by rfl) KF.mgC rfl) pa_nil))) (pe_and (pe_cmpR op_eq (pe_fld (pv 0) (by rfl)) (pe_fld (pv 1) (by rfl)) (nomark _)) (pe_one (pe_cmpR op_eq (pe_fld (pv 0) (by rfl)) (pe_fld (pv 1) (by rfl)) (nomark _))))))), ?_⟩
    rcases q with ⟨c, z2, b2, rfl, ⟨dy, e2⟩, q⟩ | ⟨t, ty, kn, q⟩
    · refine ⟨_, rfl, _, _, _, _, _, rfl, .own C, .base (.ins e2 KF.cls KG.ex.ha KG.ex.hn KG.ex.ht KG.ex.hm), KG.self, true, rfl, iteT ?_⟩
      refine ⟨_, rfl, a, C, dx, _, _, rfl, e, KF.cls, KF.noT, rfl, _, rfl, c, C, dy, _, _, rfl, e2, KF.cls, KF.noT, rfl, rfl, _, rfl, ?_⟩
      have hz : decide (V.str z = V.str z2) = decide (z = z2) := decide_eq_decide.mpr ⟨fun h => by injection h, fun h => by rw [h]⟩
      rw [hz]
      cases hd : decide (z = z2) with
      | true =>
        rw [hd, Bool.true_and] at q
        refine iteT ⟨_, rfl, a, C, dx, _, _, rfl, e, KF.cls, KF.noC, rfl, _, rfl, c, C, dy, _, _, rfl, e2, KF.cls, KF.noC, rfl, rfl, ?_⟩
        have hb : decide (V.bl b = V.bl b2) = decide (b = b2) := decide_eq_decide.mpr ⟨fun h => by injection h, fun h => by rw [h]⟩
        rw [hb]
        exact q
      | false =>
        rw [hd, Bool.false_and] at q
        exact iteF q
    · exact ⟨_, rfl, _, _, _, _, _, rfl, .own C, ty, kn, false, rfl, iteF q⟩
end
abbrev s_kread : Stmt := inClass (top 12) 1
abbrev N_kread : List Str := ["cls", "text", "turns"]
theorem sc_kread : FnScope N_kread ["cls", "text"] (defScope s_kread) := ⟨rfl, rfl, rfl, by decide +kernel, rfl, by decide +kernel, by decide +kernel⟩
/-- what Kind.read takes off the front -/
def offCalm (y : Str) : Str := Txt.removeprefix y "calm "
def spKread (K : PySem.W.Frag) (C CX : Addr) : Sp := fun vs H Q E => ∃ t : V, vs = [.ref C, t] ∧
  ((∃ y, t = .str y ∧ y.length ≤ 10000 ∧ wordsD.contains (offCalm y) = true ∧ ∀ a H', Same H H' → H a = none → KindAt C H' a (offCalm y) (!decide (V.str (offCalm y) = V.str y)) → Q (.ref a) H') ∨
   (((∃ y, t = .str y ∧ y.length ≤ 10000 ∧ wordsD.contains (offCalm y) = false) ∨ NoS K H t) ∧ ∀ d H', Same H H' → H d = none → H' d = some (.xd [("given", t)]) → E (.ref CX) (some d) H'))
section
variable {P : Program} {w : World} {K : PySem.W.Frag} {mg : Str → Option Value} {base : Heap} {f fi : Addr} {fd fdi : FuncData} {C dL CT CF CX : Addr} {es : Array DictEntry} {n : Nat}
theorem c_kread (T : Bt mg) (mstr : mg "str" = none) (KF : KiF P w K mg base C dL CT CF es n) (KG : KiG K w mg C dL) (eX : ErC P w K mg base "InvalidText" "given" bVE CX) (tyX : PySem.W.typeIn K (.ref CX) = some (.type "type")) (KM : Mk K C fi)
    (Fi : FnOk P w K mg base (L2.CX P w) 3 fi fdi ["self", "turns", "calm"] (spKinit K C CT CF)) (Bi : KBn K fdi ["self", "turns", "calm"] 2 ["calm"] (fun us ws => us ++ ws) (fun us ws => us ++ ws))
    (F : FunD K "read" "Kind.read" (defArgs s_kread) (defBody s_kread) (defScope s_kread) [] [] f fd) : FnOk P w K mg base (L2.CX P w) 5 f fd ["cls", "text"] (spKread K C CX) := by
  have hnd := sc_kread.nd
  obtain ⟨tc, mc⟩ := KG.calm
  refine F.ok sc_kread (fun vs H Q E h => ?_) (fun cdv A outer s H vs Q E hr h => ?_)
  · obtain ⟨t, rfl, _⟩ := h
    rfl
  · obtain ⟨t, rfl, h⟩ := h
    refine ⟨_, (pss_cons (ps_if (pt_not (pt_val (pe_callB call_isi (by rfl) T.m_isinstance (by decide +kernel) (pa_cons (pv 1) (pa_cons (pe_bltn (v := .ty "str") (by rfl) mstr (by decide +kernel) rfl) pa_nil)))))
      (pss_one (ps_raise (by rfl) (takes_of rfl rfl rfl rfl) (pmk_er eX tyX hr (by omega) (by rfl) (pv 1))))
      pss_nil)
      (pss_cons (ps_set (i := 2) hnd rfl (by first | exact Or.inl rfl | exact Or.inr rfl) (pe_bm PySem.F.plainAttrs_str PySem.F.slot_str_removeprefix PySem.F.type_str_removeprefix mt_removeprefix (pv 1) (pa_cons (pe_glob (v := .str "calm ") (by rfl) mc ⟨_, rfl⟩) pa_nil)))
      (pss_cons (ps_if (pt_cmpR (op_notIn_kd KF.tab) (pv 2) (pe_glob (v := .ref dL) (by rfl) KF.mgL rfl) (by rfl))
      (pss_one (ps_raise (by rfl) (takes_of rfl rfl rfl rfl) (pmk_er eX tyX hr (by omega) (by rfl) (pv 1))))
      pss_nil)
      (pss_one (ps_ret (pe_makeVK (i := 0) KM Fi hr (by omega) rfl (by first | exact Or.inl rfl | exact Or.inr rfl) Bi pass_none (pa_cons (pv 2) pa_nil) (pk_cons (pe_cmpR op_ne (pv 2) (pv 1) (nomark _)) pk_nil))))))), ?_⟩
    rcases h with ⟨y, rfl, hl, hz, q⟩ | ⟨⟨y, rfl, hl, hz⟩ | hb, q⟩
    · obtain ⟨r, e, hr2⟩ := KF.inL (offCalm y)
      refine ⟨_, rfl, _, _, _, _, _, rfl, .ty _, str_ty, str_kit, _, rfl, iteF ?_⟩
      refine ⟨_, rfl, ?_, _, _, rfl, rfl, ?_, ?_⟩
      · rfl
      · rw [sizeLine_eq]
        omega
      refine ⟨_, rfl, offCalm y, r, rfl, rfl, e, ?_⟩
      rw [hr2, hz]
      refine ⟨_, rfl, iteF ?_⟩
      refine ⟨rfl, _, rfl, _, rfl, _, rfl, rfl, rfl, rfl, fun x dx hx hdx ne => ?_⟩
      refine ⟨x, dx, .str (offCalm y), _, rfl, upd_same, .inl ⟨offCalm y, _, rfl, hz, rfl, rfl, q x _ (fun b o h => ?_) hx ⟨dx, upd_same⟩⟩⟩
      rw [upd_ne (ne_of_none h hx), upd_ne (ne_of_none h hx), upd_ne (ne_of_none h hx), upd_ne (ne_of_none h hdx)]
      exact h
    · obtain ⟨r, e, hr2⟩ := KF.inL (offCalm y)
      refine ⟨_, rfl, _, _, _, _, _, rfl, .ty _, str_ty, str_kit, _, rfl, iteF ?_⟩
      refine ⟨_, rfl, rfl, _, _, rfl, rfl, by rw [sizeLine_eq]; omega, ?_⟩
      refine ⟨_, rfl, offCalm y, r, rfl, rfl, e, ?_⟩
      rw [hr2, hz]
      exact ⟨_, rfl, iteT ⟨_, rfl, fun d H' s n x => q d H' s n x⟩⟩
    · obtain ⟨T0, ty, k⟩ := hb.ex
      exact ⟨_, rfl, _, _, _, _, _, rfl, .ty _, ty, k, _, rfl, iteT ⟨_, rfl, fun d H' s n x => q d H' s n x⟩⟩
end
abbrev s_line : Stmt := top 24
abbrev N_line : List Str := ["_law_pair"]
theorem sc_line : FnScope N_line ["_law_pair"] (defScope s_line) := ⟨rfl, rfl, rfl, by decide +kernel, rfl, by decide +kernel, by decide +kernel⟩
def lineS (z : Str) (b : Bool) : Str := cond b ("calm " : Str) ("" : Str) ++ z
def spLine (K : PySem.W.Frag) : Sp := fun vs H Q _ => ∃ (t : Addr) (z : Str) (b : Bool), vs = [.ref t] ∧ PairAt H t (z, b) ∧ z.length ≤ 1000 ∧ Q (.str (lineS z b)) H
theorem line_kind : ∀ d ∈ pairD, lineS d.1 d.2 = kindS d.1 d.2 := by decide +kernel
section
variable {P : Program} {w : World} {K : PySem.W.Frag} {mg : Str → Option Value} {base : Heap} {f : Addr} {fd : FuncData}
theorem c_line (F : FnP K "_law_line" s_line f fd) (hm : mg "_law_line" = some (.ref f)) : Cal P w K mg base 1 "_law_line" (spLine K) := by
  have hnd := sc_line.nd
  refine cal_mk F hm sc_line (fun _ _ _ _ _ _ us hl => match us, hl with | [_], _ => rfl) (fun vs H Q E h => ?_) (fun cdv A outer s H vs Q E hr h => ?_)
  · obtain ⟨t, z, b, rfl, _⟩ := h
    rfl
  · obtain ⟨t, z, b, rfl, ht, hz, q⟩ := h
    refine ⟨_, (pss_one (ps_ret (pe_op op_add_str (pe_ifExp (pt_val (pe_ix ix_tup (pv 0) pe_int (fun _ _ => rfl))) pe_str pe_str) (pe_ix ix_tup (pv 0) pe_int (fun _ _ => rfl))))), ?_⟩
    have bound : ∀ y : Str, y.length ≤ 5 → y.length + z.length ≤ sizeLine := fun y h => by
      rw [sizeLine_eq]
      omega
    refine ⟨_, rfl, t, [.str z, .bl b], 1, _, rfl, rfl, SqT.of ht, rfl, b, rfl, ?_⟩
    cases b with
    | true => exact iteT2 rfl ⟨_, rfl, t, [.str z, .bl true], 0, _, rfl, rfl, SqT.of ht, rfl, _, _, rfl, rfl, bound _ (by decide +kernel), q⟩
    | false => exact iteN2 rfl ⟨_, rfl, t, [.str z, .bl false], 0, _, rfl, rfl, SqT.of ht, rfl, _, _, rfl, rfl, bound _ (by decide +kernel), q⟩
end
end L2.K4
set_option Elab.async false
set_option linter.all false
set_option maxRecDepth 100000
set_option maxHeartbeats 8000000
namespace L2.K4
open PySem PySem.Spec PyProof.Rows L2.Tb
abbrev s_check_kind : Stmt := top 13
abbrev N_check_kind : List Str := ["kind"]
theorem sc_check_kind : FnScope N_check_kind ["kind"] (defScope s_check_kind) := ⟨rfl, rfl, rfl, by decide +kernel, rfl, by decide +kernel, by decide +kernel⟩
abbrev s_holds : Stmt := top 14
abbrev N_holds : List Str := ["lot", "turns", "turn"]
theorem sc_holds : FnScope N_holds ["lot", "turns"] (defScope s_holds) := ⟨rfl, rfl, rfl, by decide +kernel, rfl, by decide +kernel, by decide +kernel⟩
/-- a kind, or what is none -/
def spCheck (K : PySem.W.Frag) (C CN : Addr) : Sp := fun vs H Q E => ∃ v : V, vs = [v] ∧
  ((∃ (a : Addr) (z : Str) (b : Bool), v = .ref a ∧ KindAt C H a z b ∧ Q .non H) ∨ (∃ t, TyX K H v t ∧ PySem.W.kitOne K t (.ref C) = some false ∧ ∀ d H', Same H H' → H d = none → H' d = some (.xd [("given", v)]) → E (.ref CN) (some d) H'))
def turnD (t : Turn) : PyData := .tuple [.int t.1, .int t.2.1, .int t.2.2]
/-- a tuple of turns -/
def TurnsAt (K : PySem.W.Frag) (H : Hp) (l : Addr) (lot : List Turn) : Prop := ∃ ts : List Addr, SqT K H l (ts.map V.ref) ∧ Paired (fun t u => SqT K H t (turnV u)) ts lot
def spHolds (K : PySem.W.Frag) : Sp := fun vs H Q _ => ∃ (l m : Addr) (us ws : List Turn), vs = [.ref l, .ref m] ∧ us.length ≤ 20 ∧ ws.length ≤ 20 ∧ (∀ H', Same H H' → TurnsAt K H' l us ∧ TurnsAt K H' m ws) ∧ ∀ H', Same H H' → Q (.bl (ws.all fun t => decide (t ∈ us))) H'
section
variable {P : Program} {w : World} {K : PySem.W.Frag} {mg : Str → Option Value} {base : Heap} {f : Addr} {fd : FuncData} {C dL CT CF CN : Addr} {es : Array DictEntry} {n : Nat}
theorem c_check (T : Bt mg) (KF : KiF P w K mg base C dL CT CF es n) (KG : KiG K w mg C dL) (eN : ErC P w K mg base "NotAKind" "given" bVE CN) (tyN : PySem.W.typeIn K (.ref CN) = some (.type "type")) (F : FnP K "check_kind" s_check_kind f fd) : FnOk P w K mg base (L2.CX P w) 3 f fd ["kind"] (spCheck K C CN) := by
  have hnd := sc_check_kind.nd
  refine F.ok sc_check_kind (fun vs H Q E h => ?_) (fun cdv A outer s H vs Q E hr h => ?_)
  · obtain ⟨v, rfl, _⟩ := h
    rfl
  · obtain ⟨v, rfl, h⟩ := h
    refine ⟨_, (pss_one (ps_if (pt_not (pt_val (pe_callB call_isi (by rfl) T.m_isinstance (by decide +kernel) (pa_cons (pv 0) (pa_cons (pe_glob (v := .ref C) (by rfl) KF.mgC rfl) pa_nil)))))
      (pss_one (ps_raise (by rfl) (takes_of rfl rfl rfl rfl) (pmk_er eN tyN hr (by omega) (by rfl) (pv 0))))
      pss_nil)), ?_⟩
    rcases h with ⟨a, z, b, rfl, ⟨dx, e⟩, q⟩ | ⟨t, ty, kn, q⟩
    · exact ⟨_, rfl, _, _, _, _, _, rfl, .own C, .base (.ins e KF.cls KG.ex.ha KG.ex.hn KG.ex.ht KG.ex.hm), KG.self, true, rfl, iteF q⟩
    · exact ⟨_, rfl, _, _, _, _, _, rfl, .own C, ty, kn, false, rfl, iteT ⟨_, rfl, q⟩⟩
end
theorem sqt_same {K : PySem.W.Frag} {H H' : Hp} {a : Addr} {xs : List V} (h : SqT K H a xs) (s : Same H H') : SqT K H' a xs := by
  rcases h with (h | ⟨o, h⟩) | h
  · exact .inl (.inl (s _ _ h))
  · exact .inl (.inr ⟨o, s _ _ h⟩)
  · exact .inr h
theorem cb_one {r : List V → Hp → VK → Prop} {ta : TE} {σ : St} {H : Hp} {Q : VK} (h : ta σ H fun x H1 => r [x] H1 Q) : tCB r (tCons ta tNil) σ H Q := h
/-! ### turns as data -/
theorem turn_eqv (t u : Turn) : PyData.eqv (turnD t) (turnD u) = decide (t = u) := by
  obtain ⟨a, b, c⟩ := t
  obtain ⟨a', b', c'⟩ := u
  simp only [turnD, PyData.eqv, PyData.eqvAll]
  by_cases h1 : a = a' <;> by_cases h2 : b = b' <;> by_cases h3 : c = c' <;> simp [h1, h2, h3]
theorem turn_shaped (t : Turn) : SeqAt.shaped (turnD t) = true := by
  show ((turnD t).canLay0 && decide ((turnD t).depth ≤ 64)) = true
  simp [turnD, PyData.canLay0, PyData.canLayAll0, PyData.depth, PyData.depthAll]
theorem turns_lay : ∀ us : List Turn, PyData.canLayAll0 (us.map turnD) = true
  | [] => by simp [PyData.canLayAll0]
  | u :: us => by
    have h := turns_lay us
    simp [PyData.canLayAll0, turnD, PyData.canLay0, h]
theorem turns_depth : ∀ us : List Turn, PyData.depthAll (us.map turnD) ≤ 1
  | [] => by simp [PyData.depthAll]
  | u :: us => by
    have h := turns_depth us
    have h2 : (turnD u).depth = 1 := by simp [turnD, PyData.depth, PyData.depthAll]
    simp only [List.map_cons, PyData.depthAll]
    omega
theorem turns_shaped (us : List Turn) : SeqAt.shaped (.tuple (us.map turnD)) = true := by
  show (PyData.canLay0 (.tuple (us.map turnD)) && decide (PyData.depth (.tuple (us.map turnD)) ≤ 64)) = true
  rw [Bool.and_eq_true]
  exact ⟨by simp only [PyData.canLay0]; exact turns_lay us, decide_eq_true (by have := turns_depth us; simp only [PyData.depth]; omega)⟩
theorem turns_any (us : List Turn) (t : Turn) : ((us.map turnD).any fun z => PyData.eqv z (turnD t)) = decide (t ∈ us) := by
  induction us with
  | nil => simp
  | cons m us ih =>
    rw [List.map_cons, List.any_cons, ih, turn_eqv]
    by_cases h : m = t
    · subst h
      simp
    · have h2 : ¬ t = m := fun e => h e.symm
      by_cases h3 : t ∈ us <;> simp [h, h2, h3]
theorem dp_turn {K : PySem.W.Frag} {H : Hp} {t : Addr} {u : Turn} (h : SqT K H t (turnV u)) : Dp K H (.ref t) (turnD u) := .tup h (.cons (.int _) (.cons (.int _) (.cons (.int _) .nil)))
theorem dp_turns {K : PySem.W.Frag} {H : Hp} : ∀ {ts : List Addr} {lot : List Turn}, Paired (fun t u => SqT K H t (turnV u)) ts lot → DpAll K H (ts.map V.ref) (lot.map turnD)
  | _, _, .nil => .nil
  | _, _, .cons r t => .cons (dp_turn r) (dp_turns t)
theorem TurnsAt.dp {K : PySem.W.Frag} {H : Hp} {l : Addr} {us : List Turn} (h : TurnsAt K H l us) : Dp K H (.ref l) (.tuple (us.map turnD)) := by
  obtain ⟨ts, a, b⟩ := h
  exact .tup a (dp_turns b)
theorem paired_len {α β : Type} {R : α → β → Prop} : ∀ {xs : List α} {ys : List β}, Paired R xs ys → xs.length = ys.length
  | _, _, .nil => rfl
  | _, _, .cons _ t => congrArg Nat.succ (paired_len t)
theorem paired_nth {α β : Type} {R : α → β → Prop} : ∀ {xs : List α} {ys : List β} {i : Nat} {x : α}, Paired R xs ys → xs[i]? = some x → ∃ y, ys[i]? = some y ∧ R x y
  | _, _, 0, _, .cons r _, h => ⟨_, rfl, by cases h; exact r⟩
  | _, _, i + 1, _, .cons _ t, h => paired_nth (i := i) t (by simpa using h) |> fun ⟨y, e, r⟩ => ⟨y, by simpa using e, r⟩
  | _, _, _, _, .nil, h => by simp at h
section
variable {P : Program} {w : World} {K : PySem.W.Frag} {mg : Str → Option Value} {base : Heap} {f : Addr} {fd : FuncData}
theorem c_holds (T : Bt mg) (F : FnP K "_holds" s_holds f fd) (hm : mg "_holds" = some (.ref f)) : Cal P w K mg base 1 "_holds" (spHolds K) := by
  have hnd := sc_holds.nd
  refine cal_mk F hm sc_holds (fun _ _ _ _ _ _ us hl => match us, hl with | [_, _], _ => rfl) (fun vs H Q E h => ?_) (fun cdv A outer s H vs Q E hr h => ?_)
  · obtain ⟨l, m, us, ws, rfl, _⟩ := h
    rfl
  · obtain ⟨l, m, us, ws, rfl, lu, lw, hA, q⟩ := h
    have hu65 : (A.deeper (envOfC "_holds" (defScope s_holds) s.heap.objs.size f cdv)).units + 65 < cLine := by
      have := hr.un
      omega
    refine ⟨_, (pss_one (ps_ret (pe_callB (cr_all (by rfl)) (by rfl) T.m_all (by decide +kernel) (pa_cons (pe_lc (own := [("turn", 2)]) (tt := tYes) (by rfl) hnd (pi_tup (pv 1)) (blkOk_by (own := [("turn", 2)]) (N := N_holds) (sc := defScope s_holds) (by decide +kernel)) (fun _ _ _ _ _ => (pg_name (i := 2) hnd rfl (by first | exact Or.inl rfl | exact Or.inr rfl))) (fun _ _ _ _ _ => pts_nil) (fun _ _ _ _ _ => (pe_cmpR (show OpR _ (compareOp .In) (rInDT K false) from op_inDT hu65) (pv 2) (pv 0) (by rfl)))) pa_nil)))), ?_⟩
    obtain ⟨tm, em, pm⟩ := (hA H (Same.refl _)).2
    have lm : tm.length = ws.length := paired_len pm
    refine cb_one ⟨_, rfl, m, rfl, ⟨_, em⟩, fun D nD => ?_⟩
    refine lc_tup (xs := tm.map V.ref) (fun i H' => Same H H' ∧ H' D = some (.lst ((ws.take i).map fun t => .bl (decide (t ∈ us))))) ⟨same_new nD, upd_same⟩ (fun i H' _ y => sqt_same em y.1) ?_ ?_
    · rintro i x H1 hx ⟨s1, e1⟩
      refine ⟨rfl, ?_⟩
      unfold tYes
      dsimp only
      rw [if_pos rfl]
      obtain ⟨t, et, rfl⟩ : ∃ t, tm[i]? = some t ∧ x = .ref t := by
        rw [List.getElem?_map] at hx
        obtain ⟨t, e1, e2⟩ := Option.map_eq_some_iff.mp hx
        exact ⟨t, e1, e2.symm⟩
      obtain ⟨u, eu, su⟩ := paired_nth pm et
      have li : i < ws.length := (List.getElem?_eq_some_iff.mp eu).1
      refine ⟨_, rfl, _, rfl, turnD u, us.map turnD, dp_turn (sqt_same su s1), (hA H1 s1).1.dp, turn_shaped u, turns_shaped us, ?_⟩
      rw [if_neg (by decide), turns_any]
      exact ⟨_, e1, by rw [List.length_map, List.length_take, sizeLine_eq]; omega, same_put nD s1, by rw [upd_same, List.take_add_one, eu, List.map_append]; rfl⟩
    · rintro H1 ⟨s1, e1⟩
      rw [List.length_map, lm, List.take_length] at e1
      refine ⟨D, ws.map fun t => decide (t ∈ us), rfl, SqL.of (by rw [e1, List.map_map]; rfl), ?_⟩
      have := q H1 s1
      rw [List.all_map]
      exact this
end
end L2.K4
set_option Elab.async false
set_option linter.all false
set_option maxRecDepth 100000
set_option maxHeartbeats 8000000
namespace L2.K4
open PySem PySem.Spec PyProof.Rows L2.Tb
abbrev s_least_lot : Stmt := top 15
abbrev N_least_lot : List Str := ["turns", "name", "fitting"]
theorem sc_least_lot : FnScope N_least_lot ["turns"] (defScope s_least_lot) := ⟨rfl, rfl, rfl, by decide +kernel, rfl, by decide +kernel, by decide +kernel⟩
abbrev s_kwithin : Stmt := inClass (top 12) 6
abbrev N_kwithin : List Str := ["self", "other"]
theorem sc_kwithin : FnScope N_kwithin ["self", "other"] (defScope s_kwithin) := ⟨rfl, rfl, rfl, by decide +kernel, rfl, by decide +kernel, by decide +kernel⟩
/-- the lots that have all these turns -/
def fitD (ws : List Turn) : List Str := wordsD.filter fun z => ws.all fun t => decide (t ∈ lotOf z)
def spLeast (K : PySem.W.Frag) : Sp := fun vs H Q _ => ∃ (m : Addr) (ws : List Turn) (z : Str), vs = [.ref m] ∧ ws.length ≤ 20 ∧ (∀ H', Same H H' → TurnsAt K H' m ws) ∧ (fitD ws)[0]? = some z ∧ ∀ H', Same H H' → Q (.str z) H'
theorem TurnsAt.lot {K : PySem.W.Frag} {l : Addr} {lot : List Turn} (h : LotK K l lot) (H : Hp) : TurnsAt K H l lot := by
  obtain ⟨ts, a, b⟩ := h
  exact ⟨ts, a H, paired_imp (fun _ _ e => e H) b⟩
theorem lots_pos : ∀ z ∈ wordsD, (lotOf z).length ≠ 0 := by decide +kernel
theorem lots_len : ∀ z ∈ wordsD, (lotOf z).length ≤ 6 := by decide +kernel
theorem filter_take {α : Type} {p : α → Bool} {xs : List α} {i : Nat} {x : α} (h : xs[i]? = some x) : (xs.take (i + 1)).filter p = (xs.take i).filter p ++ (if p x = true then [x] else []) := by
  rw [List.take_add_one, h, List.filter_append]
  cases c : p x <;> simp [c]
section
variable {P : Program} {w : World} {K : PySem.W.Frag} {mg : Str → Option Value} {base : Heap} {f : Addr} {fd : FuncData} {C dL CT CF CN : Addr} {es : Array DictEntry} {n : Nat}
theorem c_least (T : Bt mg) (KF : KiF P w K mg base C dL CT CF es n) (KG : KiG K w mg C dL) (KA : KeysAt K w dL wordsD) (F : FnP K "_least_lot" s_least_lot f fd) (hm : mg "_least_lot" = some (.ref f)) (k_holds : Cal P w K mg base 1 "_holds" (spHolds K)) : Cal P w K mg base 2 "_least_lot" (spLeast K) := by
  have hnd := sc_least_lot.nd
  refine cal_mk F hm sc_least_lot (fun _ _ _ _ _ _ us hl => match us, hl with | [_], _ => rfl) (fun vs H Q E h => ?_) (fun cdv A outer s H vs Q E hr h => ?_)
  · obtain ⟨m, ws, z, rfl, _⟩ := h
    rfl
  · obtain ⟨m, ws, z0, rfl, lw, hA, hz0, q⟩ := h
    refine ⟨_, (pss_cons (ps_setLc (i := 2) (own := [("name", 1)]) (by rfl) hnd rfl (by rfl) (sw_true rfl rfl rfl (by decide +kernel)) (pi_kd KA (pe_glob (v := .ref dL) (by rfl) KF.mgL rfl)) (blkOk_by (own := [("name", 1)]) (N := N_least_lot) (sc := defScope s_least_lot) (by decide +kernel)) (fun _ _ _ _ _ => (pg_name (i := 1) hnd rfl (by first | exact Or.inl rfl | exact Or.inr rfl))) (fun _ _ _ _ _ => (pts_one (pt_val (pe_cal k_holds hr (by omega) (by rfl) (pa_cons (pe_ix (show IxR _ (rIxD K w) from ix_kdict) (pe_glob (v := .ref dL) (by rfl) KF.mgL rfl) (pv 1) (fun _ _ => rfl)) (pa_cons (pv 0) pa_nil)))))) (fun _ _ _ _ _ => (pv 1)))
      (pss_one (ps_ret (pe_ix ix_list (pv 2) pe_int (fun _ _ => rfl))))), ?_⟩
    refine ⟨rfl, fun D nD => ?_⟩
    refine lc_it walk_kd (fun i H' => Same H H' ∧ H' D = some (.lst (((wordsD.take i).filter fun z => ws.all fun t => decide (t ∈ lotOf z)).map V.str))) ⟨same_new nD, upd_same⟩ (fun _ _ _ _ => trivial) ?_ ?_
    · rintro i x H1 H2 hi ⟨s1, e1⟩ ⟨rfl, z, hz, rfl⟩
      refine ⟨rfl, ?_⟩
      have mz : z ∈ wordsD := List.mem_of_getElem? hz
      obtain ⟨l, kd, lk⟩ := KG.lots z (List.contains_iff_mem.mpr mz)
      have l6 := lots_len z mz
      refine ⟨_, rfl, dL, z, .ref l, rfl, rfl, kd, _, rfl, l, m, lotOf z, ws, rfl, by omega, lw, fun H' s => ⟨TurnsAt.lot lk H', hA H' (s1.trans s)⟩, fun H3 s3 => ⟨_, rfl, ?_⟩⟩
      dsimp only
      have la : (List.map V.str ((wordsD.take i).filter fun z => ws.all fun t => decide (t ∈ lotOf z))).length ≤ 6 := by
        rw [List.length_map]
        exact Nat.le_trans (List.length_filter_le ..) (Nat.le_trans (List.length_take_le' ..) (by decide))
      cases c : (ws.all fun t => decide (t ∈ lotOf z)) with
      | true => exact iteT ⟨_, rfl, _, s3 _ _ e1, by rw [sizeLine_eq]; omega, same_put nD (s1.trans s3), by rw [upd_same, filter_take hz, c, if_pos rfl, List.map_append]; rfl⟩
      | false => exact iteF ⟨s1.trans s3, by rw [s3 _ _ e1, filter_take hz, c, if_neg (by decide), List.append_nil]⟩
    · rintro H1 ⟨s1, e1⟩
      rw [List.take_length] at e1
      refine ⟨_, rfl, D, _, 0, .str z0, rfl, rfl, SqL.of e1, atI_nat (j := 0) ?_, q H1 s1⟩
      rw [List.getElem?_map]
      show Option.map V.str (fitD ws)[0]? = _
      rw [hz0]
      rfl
end

abbrev s_kand : Stmt := inClass (top 12) 7
abbrev N_kand : List Str := ["self", "other"]
theorem sc_kand : FnScope N_kand ["self", "other"] (defScope s_kand) := ⟨rfl, rfl, rfl, by decide +kernel, rfl, by decide +kernel, by decide +kernel⟩
abbrev s_kor : Stmt := inClass (top 12) 8
abbrev N_kor : List Str := ["self", "other", "turn", "common"]
theorem sc_kor : FnScope N_kor ["self", "other"] (defScope s_kor) := ⟨rfl, rfl, rfl, by decide +kernel, rfl, by decide +kernel, by decide +kernel⟩
def withinD (x y : Str × Bool) : Bool := ((lotOf y.1).all fun t => decide (t ∈ lotOf x.1)) && (x.2 || !y.2)
/-- self a kind; other a kind, or what is none and is refused -/
def spK2 (K : PySem.W.Frag) (C CN : Addr) (good : Str × Bool → Str × Bool → Hp → VK → Prop) : Sp := fun vs H Q E => ∃ (a : Addr) (x : Str × Bool) (v : V), vs = [.ref a, v] ∧ KindAt C H a x.1 x.2 ∧ wordsD.contains x.1 = true ∧
  ((∃ (c : Addr) (y : Str × Bool), v = .ref c ∧ KindAt C H c y.1 y.2 ∧ wordsD.contains y.1 = true ∧ good x y H Q) ∨ (∃ t, TyX K H v t ∧ PySem.W.kitOne K t (.ref C) = some false ∧ ∀ d H', Same H H' → H d = none → H' d = some (.xd [("given", v)]) → E (.ref CN) (some d) H'))
def gWithin : Str × Bool → Str × Bool → Hp → VK → Prop := fun x y H Q => ∀ H', Same H H' → Q (.bl (withinD x y)) H'
/-- what self & other, self | other need -/
structure KiO (P : Program) (w : World) (K : PySem.W.Frag) (mg : Str → Option Value) (base : Heap) (C CT CF CN : Addr) : Prop where
  mck : ∃ fc fdc, mg "check_kind" = some (.ref fc) ∧ PySem.W.keepIn K (.ref fc) = true ∧ Binds K fdc ["kind"] [] ∧ FnOk P w K mg base (L2.CX P w) 3 fc fdc ["kind"] (spCheck K C CN)
  lot : ∃ p g fd, PropOf K C "lot" p g ∧ FnOk P w K mg base L2.CX0 1 g fd ["self"] (spKlot K C) ∧ Binds K fd ["self"] []
  calm : ∃ p g fd, PropOf K C "calm" p g ∧ FnOk P w K mg base L2.CX0 1 g fd ["self"] (spKcalm C) ∧ Binds K fd ["self"] []
  mkr : ∃ fi fdi, Mk K C fi ∧ FnOk P w K mg base (L2.CX P w) 3 fi fdi ["self", "turns", "calm"] (spKinit K C CT CF) ∧ KBn K fdi ["self", "turns", "calm"] 2 ["calm"] (fun us ws => us ++ ws) (fun us ws => us ++ ws)
section
variable {P : Program} {w : World} {K : PySem.W.Frag} {mg : Str → Option Value} {base : Heap} {f : Addr} {fd : FuncData} {C dL CT CF CN : Addr} {es : Array DictEntry} {n : Nat}
theorem c_kwithin (T : Bt mg) (KF : KiF P w K mg base C dL CT CF es n) (KO : KiO P w K mg base C CT CF CN) (k_holds : Cal P w K mg base 1 "_holds" (spHolds K)) (F : FunD K "within" "Kind.within" (defArgs s_kwithin) (defBody s_kwithin) (defScope s_kwithin) [] [] f fd) :
    FnOk P w K mg base (L2.CX P w) 5 f fd ["self", "other"] (spK2 K C CN gWithin) := by
  have hnd := sc_kwithin.nd
  obtain ⟨⟨fc, fdc, mck, kck, Bck, CK⟩, ⟨pl, gl, fdl, PL, Fl, Bl⟩, ⟨pc, gc, fdk, PC, Fc, Bc⟩, ⟨fi, fdi, KM, Fi, B1⟩⟩ := KO
  refine F.ok sc_kwithin (fun vs H Q E h => ?_) (fun cdv A outer s H vs Q E hr h => ?_)
  · obtain ⟨a, x, v, rfl, _⟩ := h
    rfl
  · obtain ⟨a, x, v, rfl, ⟨dx, ea⟩, hx, h⟩ := h
    refine ⟨_, (pss_cons (ps_expr (pe_call CK (hr.mono (by omega)) (by rfl) mck kck Bck .nil (passes_call (takes_of rfl rfl rfl rfl) (fun _ _ _ _ h => h)) (pa_cons (pv 1) pa_nil)))
      (pss_one (ps_ret (pe_and (pe_cal k_holds hr (by omega) (by rfl) (pa_cons (pe_prop (E := L2.E0) (pv 0) KF.cls PL Fl (hr.mono (by omega)) Bl .nil (fun _ _ _ _ _ _ _ h => h.elim) (by rfl)) (pa_cons (pe_prop (E := L2.E0) (pv 1) KF.cls PL Fl (hr.mono (by omega)) Bl .nil (fun _ _ _ _ _ _ _ h => h.elim) (by rfl)) pa_nil))) (pe_one (pe_or (pe_prop (E := L2.E0) (pv 0) KF.cls PC Fc (hr.mono (by omega)) Bc .nil (fun _ _ _ _ _ _ _ h => h.elim) (by rfl)) (pe_one (pe_not (pe_prop (E := L2.E0) (pv 1) KF.cls PC Fc (hr.mono (by omega)) Bc .nil (fun _ _ _ _ _ _ _ h => h.elim) (by rfl)))))))))), ?_⟩
    rcases h with ⟨c, y, rfl, ⟨dy, ec⟩, hy, q⟩ | ⟨t, ty, kn, q⟩
    · have lx := lots_len x.1 (List.contains_iff_mem.mp hx)
      have ly := lots_len y.1 (List.contains_iff_mem.mp hy)
      refine ⟨_, rfl, .ref c, rfl, .inl ⟨c, y.1, y.2, rfl, ⟨dy, ec⟩, ?_⟩⟩
      refine ⟨_, rfl, a, dx, _, rfl, ea, a, x.1, x.2, rfl, ⟨dx, ea⟩, hx, fun l LK => ⟨_, rfl, c, dy, _, rfl, ec, c, y.1, y.2, rfl, ⟨dy, ec⟩, hy, fun m MK => ?_⟩⟩
      refine ⟨l, m, lotOf x.1, lotOf y.1, rfl, by omega, by omega, fun H' _ => ⟨TurnsAt.lot LK H', TurnsAt.lot MK H'⟩, fun H' s1 => ⟨_, rfl, ?_⟩⟩
      have q1 := q H' s1
      unfold withinD at q1
      have ea1 := s1 _ _ ea
      have ec1 := s1 _ _ ec
      cases hh : ((lotOf y.1).all fun t => decide (t ∈ lotOf x.1)) with
      | false =>
        rw [hh, Bool.false_and] at q1
        exact iteF q1
      | true =>
        rw [hh, Bool.true_and] at q1
        refine iteT ⟨_, rfl, a, dx, _, rfl, ea1, a, x.1, x.2, rfl, ⟨dx, ea1⟩, _, rfl, ?_⟩
        cases hb : x.2 with
        | true =>
          rw [hb, Bool.true_or] at q1
          exact iteT q1
        | false =>
          rw [hb, Bool.false_or] at q1
          exact iteF ⟨_, rfl, c, dy, _, rfl, ec1, c, y.1, y.2, rfl, ⟨dy, ec1⟩, _, rfl, q1⟩
    · exact ⟨_, rfl, v, rfl, .inr ⟨t, ty, kn, q⟩⟩
def andD (x y : Str × Bool) : Str × Bool := ((fitD (lotOf x.1 ++ lotOf y.1)).headD "", x.2 || y.2)
def orD (x y : Str × Bool) : Str × Bool := ((fitD ((lotOf x.1).filter fun t => decide (t ∈ lotOf y.1))).headD "", x.2 && y.2)
def gNew (C : Addr) (g : Str × Bool → Str × Bool → Str × Bool) : Str × Bool → Str × Bool → Hp → VK → Prop := fun x y H Q => ∀ (r : Addr) (H' : Hp), Same H H' → KindAt C H' r (g x y).1 (g x y).2 → Q (.ref r) H'
theorem fit_and : ∀ z ∈ wordsD, ∀ y ∈ wordsD, ∃ r, (fitD (lotOf z ++ lotOf y))[0]? = some r ∧ (fitD (lotOf z ++ lotOf y)).headD "" = r ∧ wordsD.contains r = true := by
  have h : ∀ z ∈ wordsD, ∀ y ∈ wordsD, (fitD (lotOf z ++ lotOf y))[0]? = some ((fitD (lotOf z ++ lotOf y)).headD "") ∧ wordsD.contains ((fitD (lotOf z ++ lotOf y)).headD "") = true := by decide +kernel
  exact fun z hz y hy => ⟨_, (h z hz y hy).1, rfl, (h z hz y hy).2⟩
theorem fit_or : ∀ z ∈ wordsD, ∀ y ∈ wordsD, ∃ r, (fitD ((lotOf z).filter fun t => decide (t ∈ lotOf y)))[0]? = some r ∧ (fitD ((lotOf z).filter fun t => decide (t ∈ lotOf y))).headD "" = r ∧ wordsD.contains r = true := by
  have h : ∀ z ∈ wordsD, ∀ y ∈ wordsD, (fitD ((lotOf z).filter fun t => decide (t ∈ lotOf y)))[0]? = some ((fitD ((lotOf z).filter fun t => decide (t ∈ lotOf y))).headD "") ∧ wordsD.contains ((fitD ((lotOf z).filter fun t => decide (t ∈ lotOf y))).headD "") = true := by decide +kernel
  exact fun z hz y hy => ⟨_, (h z hz y hy).1, rfl, (h z hz y hy).2⟩
theorem made_ok {H : Hp} {z : Str} {b : Bool} {Qf : VK} {E : XK} {x dx : Addr} (hz : wordsD.contains z = true) (hx : H x = none) (hdx : H dx = none) (q : ∀ H', Same H H' → KindAt C H' x z b → Qf .non H') :
    spKinit K C CT CF [.ref x, .str z, .bl b] (upd (upd H dx (.own x)) x (.ins C dx [])) Qf E := by
  refine ⟨x, dx, .str z, .bl b, rfl, upd_same, .inl ⟨z, b, rfl, hz, rfl, q _ (fun c o h => ?_) ⟨dx, upd_same⟩⟩⟩
  rw [upd_ne (ne_of_none h hx), upd_ne (ne_of_none h hx), upd_ne (ne_of_none h hx), upd_ne (ne_of_none h hdx)]
  exact h
theorem c_kand (T : Bt mg) (KF : KiF P w K mg base C dL CT CF es n) (KO : KiO P w K mg base C CT CF CN) (k_least_lot : Cal P w K mg base 2 "_least_lot" (spLeast K)) (F : FunD K "__and__" "Kind.__and__" (defArgs s_kand) (defBody s_kand) (defScope s_kand) [] [] f fd) :
    FnOk P w K mg base (L2.CX P w) 5 f fd ["self", "other"] (spK2 K C CN (gNew C andD)) := by
  have hnd := sc_kand.nd
  obtain ⟨⟨fc, fdc, mck, kck, Bck, CK⟩, ⟨pl, gl, fdl, PL, Fl, Bl⟩, ⟨pc, gc, fdk, PC, Fc, Bc⟩, ⟨fi, fdi, KM, Fi, B1⟩⟩ := KO
  refine F.ok sc_kand (fun vs H Q E h => ?_) (fun cdv A outer s H vs Q E hr h => ?_)
  · obtain ⟨a, x, v, rfl, _⟩ := h
    rfl
  · obtain ⟨a, x, v, rfl, ⟨dx, ea⟩, hx, h⟩ := h
    refine ⟨_, (pss_cons (ps_expr (pe_call CK (hr.mono (by omega)) (by rfl) mck kck Bck .nil (passes_call (takes_of rfl rfl rfl rfl) (fun _ _ _ _ h => h)) (pa_cons (pv 1) pa_nil)))
      (pss_one (ps_ret (pe_makeK KM Fi (hr.mono (by omega)) (by rfl) KF.mgC B1 pass_none (pa_cons (pe_cal k_least_lot hr (by omega) (by rfl) (pa_cons (pe_op op_catT (pe_prop (E := L2.E0) (pv 0) KF.cls PL Fl (hr.mono (by omega)) Bl .nil (fun _ _ _ _ _ _ _ h => h.elim) (by rfl)) (pe_prop (E := L2.E0) (pv 1) KF.cls PL Fl (hr.mono (by omega)) Bl .nil (fun _ _ _ _ _ _ _ h => h.elim) (by rfl))) pa_nil)) pa_nil) (pk_cons (pe_or (pe_prop (E := L2.E0) (pv 0) KF.cls PC Fc (hr.mono (by omega)) Bc .nil (fun _ _ _ _ _ _ _ h => h.elim) (by rfl)) (pe_one (pe_prop (E := L2.E0) (pv 1) KF.cls PC Fc (hr.mono (by omega)) Bc .nil (fun _ _ _ _ _ _ _ h => h.elim) (by rfl)))) pk_nil))))), ?_⟩
    rcases h with ⟨c, y, rfl, ⟨dy, ec⟩, hy, q⟩ | ⟨t, ty, kn, q⟩
    · have lx := lots_len x.1 (List.contains_iff_mem.mp hx)
      have ly := lots_len y.1 (List.contains_iff_mem.mp hy)
      refine ⟨_, rfl, .ref c, rfl, .inl ⟨c, y.1, y.2, rfl, ⟨dy, ec⟩, ?_⟩⟩
      refine ⟨_, rfl, a, dx, _, rfl, ea, a, x.1, x.2, rfl, ⟨dx, ea⟩, hx, fun l LK => ⟨_, rfl, c, dy, _, rfl, ec, c, y.1, y.2, rfl, ⟨dy, ec⟩, hy, fun m MK => ?_⟩⟩
      obtain ⟨tx, hx1, hx2⟩ := LK
      obtain ⟨ty, hy1, hy2⟩ := MK
      have nx := lots_pos x.1 (List.contains_iff_mem.mp hx)
      have ny := lots_pos y.1 (List.contains_iff_mem.mp hy)
      have lx2 := paired_len hx2
      have ly2 := paired_len hy2
      obtain ⟨r0, er1, er2, er3⟩ := fit_and x.1 (List.contains_iff_mem.mp hx) y.1 (List.contains_iff_mem.mp hy)
      refine ⟨l, m, _, _, rfl, rfl, hx1 H, hy1 H, ?_, ?_, fun z => ?_, fun _ p np => ?_⟩
      · intro z
        have := congrArg List.length z
        rw [List.length_map, lx2] at this
        exact nx this
      · rw [List.length_map, List.length_map, sizeLine_eq]
        omega
      · have := congrArg List.length z
        rw [List.length_map, ly2] at this
        exact absurd this ny
      have s1 := same_new (o := .tup (tx.map V.ref ++ ty.map V.ref)) np
      have e1 := upd_same (H := H) (a := p) (o := .tup (tx.map V.ref ++ ty.map V.ref))
      generalize upd H p (.tup (tx.map V.ref ++ ty.map V.ref)) = H1 at s1 e1 ⊢
      refine ⟨p, lotOf x.1 ++ lotOf y.1, r0, rfl, by rw [List.length_append]; omega, fun H' s' => ⟨tx ++ ty, SqT.of (by rw [s' _ _ e1, List.map_append]), paired_app (paired_imp (fun _ _ e => e H') hx2) (paired_imp (fun _ _ e => e H') hy2)⟩, er1, fun H2 s2 => ?_⟩
      have ea2 := s2 _ _ (s1 _ _ ea)
      have ec2 := s2 _ _ (s1 _ _ ec)
      have fin : ∀ (b : Bool) (i : Addr) (H4 : Hp), b = (x.2 || y.2) → Same H2 H4 → KindAt C H4 i r0 b → Q (.ref i) H4 := fun b i H4 e s4 k4 => q i H4 ((s1.trans s2).trans s4) (by
        unfold andD
        rw [er2, ← e]
        exact k4)
      refine ⟨_, rfl, a, dx, _, rfl, ea2, a, x.1, x.2, rfl, ⟨dx, ea2⟩, _, rfl, ?_⟩
      cases hb : x.2 with
      | true => exact iteT ⟨rfl, rfl, fun i di ni ndi _ => made_ok er3 ni ndi fun H4 s4 k4 => ⟨rfl, fin true i H4 (by rw [hb]; rfl) s4 k4⟩⟩
      | false => exact iteF ⟨_, rfl, c, dy, _, rfl, ec2, c, y.1, y.2, rfl, ⟨dy, ec2⟩, rfl, rfl, fun i di ni ndi _ => made_ok er3 ni ndi fun H4 s4 k4 => ⟨rfl, fin y.2 i H4 (by rw [hb]; rfl) s4 k4⟩⟩
    · exact ⟨_, rfl, v, rfl, .inr ⟨t, ty, kn, q⟩⟩
theorem c_kor (T : Bt mg) (KF : KiF P w K mg base C dL CT CF es n) (KO : KiO P w K mg base C CT CF CN) (k_least_lot : Cal P w K mg base 2 "_least_lot" (spLeast K)) (F : FunD K "__or__" "Kind.__or__" (defArgs s_kor) (defBody s_kor) (defScope s_kor) [] [] f fd) :
    FnOk P w K mg base (L2.CX P w) 5 f fd ["self", "other"] (spK2 K C CN (gNew C orD)) := by
  have hnd := sc_kor.nd
  obtain ⟨⟨fc, fdc, mck, kck, Bck, CK⟩, ⟨pl, gl, fdl, PL, Fl, Bl⟩, ⟨pc, gc, fdk, PC, Fc, Bc⟩, ⟨fi, fdi, KM, Fi, B1⟩⟩ := KO
  refine F.ok sc_kor (fun vs H Q E h => ?_) (fun cdv A outer s H vs Q E hr h => ?_)
  · obtain ⟨a, x, v, rfl, _⟩ := h
    rfl
  · obtain ⟨a, x, v, rfl, ⟨dx, ea⟩, hx, h⟩ := h
    have hu65 : (A.deeper (envOfC "Kind.__or__" (defScope s_kor) s.heap.objs.size f cdv)).units + 65 < cLine := by
      have := hr.un
      omega
    refine ⟨_, (pss_cons (ps_expr (pe_call CK (hr.mono (by omega)) (by rfl) mck kck Bck .nil (passes_call (takes_of rfl rfl rfl rfl) (fun _ _ _ _ h => h)) (pa_cons (pv 1) pa_nil)))
      (pss_cons (ps_set (i := 3) hnd rfl (by first | exact Or.inl rfl | exact Or.inr rfl) (pe_callTy call_tuple_of (by rfl) T.m_tuple (by decide +kernel) (pa_cons (pe_lc (own := [("turn", 2)]) (by rfl) hnd (pi_tup (pe_prop (E := L2.E0) (pv 0) KF.cls PL Fl (hr.mono (by omega)) Bl .nil (fun _ _ _ _ _ _ _ h => h.elim) (by rfl))) (blkOk_by (own := [("turn", 2)]) (N := N_kor) (sc := defScope s_kor) (by decide +kernel)) (fun _ _ _ _ _ => (pg_name (i := 2) hnd rfl (by first | exact Or.inl rfl | exact Or.inr rfl))) (fun _ _ _ _ _ => (pts_one (pt_cmpR (show OpR _ (compareOp .In) (rInDT K false) from op_inDT hu65) (pv 2) (pe_prop (E := L2.E0) (pv 1) KF.cls PL Fl (hr.mono (by omega)) Bl .nil (fun _ _ _ _ _ _ _ h => h.elim) (by rfl)) (by rfl)))) (fun _ _ _ _ _ => (pv 2))) pa_nil)))
      (pss_one (ps_ret (pe_makeK KM Fi (hr.mono (by omega)) (by rfl) KF.mgC B1 pass_none (pa_cons (pe_cal k_least_lot hr (by omega) (by rfl) (pa_cons (pv 3) pa_nil)) pa_nil) (pk_cons (pe_and (pe_prop (E := L2.E0) (pv 0) KF.cls PC Fc (hr.mono (by omega)) Bc .nil (fun _ _ _ _ _ _ _ h => h.elim) (by rfl)) (pe_one (pe_prop (E := L2.E0) (pv 1) KF.cls PC Fc (hr.mono (by omega)) Bc .nil (fun _ _ _ _ _ _ _ h => h.elim) (by rfl)))) pk_nil)))))), ?_⟩
    rcases h with ⟨c, y, rfl, ⟨dy, ec⟩, hy, q⟩ | ⟨t, ty, kn, q⟩
    · have lx := lots_len x.1 (List.contains_iff_mem.mp hx)
      have ly := lots_len y.1 (List.contains_iff_mem.mp hy)
      refine ⟨_, rfl, .ref c, rfl, .inl ⟨c, y.1, y.2, rfl, ⟨dy, ec⟩, ?_⟩⟩
      refine ⟨_, rfl, a, dx, _, rfl, ea, a, x.1, x.2, rfl, ⟨dx, ea⟩, hx, fun l LK => ?_⟩
      obtain ⟨tx, hx1, hx2⟩ := LK
      have lx2 := paired_len hx2
      obtain ⟨r0, er1, er2, er3⟩ := fit_or x.1 (List.contains_iff_mem.mp hx) y.1 (List.contains_iff_mem.mp hy)
      refine ⟨l, rfl, ⟨_, hx1 H⟩, fun D nD => ?_⟩
      refine lc_tup (xs := tx.map V.ref) (fun i H' => Same H H' ∧ ∃ ts : List Addr, H' D = some (.lst (ts.map V.ref)) ∧ ts.length ≤ i ∧ Paired (fun t u => ∀ H, SqT K H t (turnV u)) ts (((lotOf x.1).take i).filter fun t => decide (t ∈ lotOf y.1))) ⟨same_new nD, [], upd_same, Nat.le_refl _, .nil⟩ (fun i H' _ _ => hx1 H') ?_ ?_
      · rintro i e H1 he ⟨s1, ts, e1, le1, p1⟩
        refine ⟨rfl, ?_⟩
        obtain ⟨ti, et, rfl⟩ : ∃ t, tx[i]? = some t ∧ e = .ref t := by
          rw [List.getElem?_map] at he
          obtain ⟨t, e1, e2⟩ := Option.map_eq_some_iff.mp he
          exact ⟨t, e1, e2.symm⟩
        obtain ⟨u, eu, su⟩ := paired_nth hx2 et
        have li : i < 6 := by
          have := (List.getElem?_eq_some_iff.mp eu).1
          omega
        have ec1 := s1 _ _ ec
        refine ⟨_, rfl, _, rfl, c, dy, _, rfl, ec1, c, y.1, y.2, rfl, ⟨dy, ec1⟩, hy, fun m MK => ⟨turnD u, (lotOf y.1).map turnD, dp_turn (su H1), (TurnsAt.lot MK H1).dp, turn_shaped u, turns_shaped _, ?_⟩⟩
        rw [if_neg (by decide), turns_any]
        refine ⟨_, rfl, ?_⟩
        dsimp only
        cases c2 : decide (u ∈ lotOf y.1) with
        | true => exact iteT ⟨_, rfl, _, e1, by rw [List.length_map, sizeLine_eq]; omega, same_put nD s1, ts ++ [ti], by rw [upd_same, List.map_append]; rfl, by rw [List.length_append, List.length_singleton]; omega, by rw [filter_take eu, c2, if_pos rfl]; exact paired_app p1 (.cons su .nil)⟩
        | false => exact iteF ⟨s1, ts, e1, by omega, by rw [filter_take eu, c2, if_neg (by decide), List.append_nil]; exact p1⟩
      · rintro H1 ⟨s1, ts, e1, le1, p1⟩
        rw [List.length_map, lx2, List.take_length] at p1
        have lf : ((lotOf x.1).filter fun t => decide (t ∈ lotOf y.1)).length ≤ 6 := Nat.le_trans (List.length_filter_le ..) lx
        refine ⟨D, _, rfl, .inl ⟨SqL.of e1, fun p np => ?_⟩⟩
        have s2 := same_new (o := .tup (ts.map V.ref)) np
        have e2 := upd_same (H := H1) (a := p) (o := .tup (ts.map V.ref))
        generalize upd H1 p (.tup (ts.map V.ref)) = H2 at s2 e2 ⊢
        refine ⟨_, rfl, p, _, r0, rfl, by omega, fun H' s' => ⟨ts, SqT.of (s' _ _ e2), paired_imp (fun _ _ e => e H') p1⟩, er1, fun H3 s3 => ?_⟩
        have s13 := (s1.trans s2).trans s3
        have ea3 := s13 _ _ ea
        have ec3 := s13 _ _ ec
        have fin : ∀ (b : Bool) (i : Addr) (H4 : Hp), b = (x.2 && y.2) → Same H3 H4 → KindAt C H4 i r0 b → Q (.ref i) H4 := fun b i H4 e s4 k4 => q i H4 (s13.trans s4) (by
          unfold orD
          rw [er2, ← e]
          exact k4)
        refine ⟨_, rfl, a, dx, _, rfl, ea3, a, x.1, x.2, rfl, ⟨dx, ea3⟩, _, rfl, ?_⟩
        cases hb : x.2 with
        | true => exact iteT ⟨_, rfl, c, dy, _, rfl, ec3, c, y.1, y.2, rfl, ⟨dy, ec3⟩, rfl, rfl, fun i di ni ndi _ => made_ok er3 ni ndi fun H4 s4 k4 => ⟨rfl, fin y.2 i H4 (by rw [hb]; rfl) s4 k4⟩⟩
        | false => exact iteF ⟨rfl, rfl, fun i di ni ndi _ => made_ok er3 ni ndi fun H4 s4 k4 => ⟨rfl, fin false i H4 (by rw [hb]; rfl) s4 k4⟩⟩
    · exact ⟨_, rfl, v, rfl, .inr ⟨t, ty, kn, q⟩⟩
end
end L2.K4
set_option Elab.async false
set_option linter.all false
set_option maxRecDepth 100000
set_option maxHeartbeats 8000000
namespace L2.K4
open PySem PySem.Spec PyProof.Rows L2.Tb
/-! ### rules and the turns that they keep -/
def tat (t : List Int) (i : Int) : Int := t.getD i.toNat 0
def img (t : List Int) (u : Turn) : List Int := [tat t u.1, tat t u.2.1, tat t u.2.2]
def comp (u v : Turn) : Turn := (tat [u.1, u.2.1, u.2.2] v.1, tat [u.1, u.2.1, u.2.2] v.2.1, tat [u.1, u.2.1, u.2.2] v.2.2)
def okX (i : Int) : Bool := decide (i = 0) || (decide (i = 1) || decide (i = 2))
def okT (u : Turn) : Bool := okX u.1 && (okX u.2.1 && okX u.2.2)
theorem tat_img {t : List Int} {u : Turn} {i : Int} (h : okX i = true) : tat (img t u) i = tat t (tat [u.1, u.2.1, u.2.2] i) := by
  unfold okX at h
  rcases (by simpa using h : i = 0 ∨ i = 1 ∨ i = 2) with rfl | rfl | rfl <;> rfl
theorem img_comp {t : List Int} {u v : Turn} (h : okT v = true) : img (img t u) v = img t (comp u v) := by
  obtain ⟨a, b⟩ := He.ba h
  obtain ⟨b, c⟩ := He.ba b
  show [tat (img t u) v.1, tat (img t u) v.2.1, tat (img t u) v.2.2] = _
  rw [tat_img a, tat_img b, tat_img c]
  rfl
/-- the rule keeps the turn -/
def keepsD (R : List (List Int)) (u : Turn) : Bool := R.all fun t => decide (img t u ∈ R)
theorem keeps_comp {R : List (List Int)} {u v : Turn} (hv : okT v = true) (a : keepsD R u = true) (b : keepsD R v = true) : keepsD R (comp u v) = true := by
  refine List.all_eq_true.mpr fun t ht => decide_eq_true ?_
  have h1 := of_decide_eq_true (List.all_eq_true.mp a t ht)
  have h2 := of_decide_eq_true (List.all_eq_true.mp b _ h1)
  rw [img_comp hv] at h2
  exact h2
/-- the rule's triples of one thing with itself -/
def stillD (R : List (List Int)) : Bool := R.all fun t => decide ([tat t 0, tat t 0, tat t 0] ∈ R)
def ofD (R : List (List Int)) (x : Str × Bool) : Bool := ((lotOf x.1).all fun u => keepsD R u) && (stillD R || !x.2)
theorem and_made : ∀ z ∈ wordsD, ∀ y ∈ wordsD, ∀ t ∈ lotOf (andD (z, false) (y, false)).1, ∃ a ∈ lotOf z ++ lotOf y, ∃ b ∈ lotOf z ++ lotOf y, ∃ c ∈ lotOf z ++ lotOf y, okT b = true ∧ okT c = true ∧ t = comp (comp a b) c := by decide +kernel
theorem and_has : ∀ z ∈ wordsD, ∀ y ∈ wordsD, ∀ t ∈ lotOf z ++ lotOf y, t ∈ lotOf (andD (z, false) (y, false)).1 := by decide +kernel
theorem or_in : ∀ z ∈ wordsD, ∀ y ∈ wordsD, ∀ t ∈ lotOf (orD (z, false) (y, false)).1, t ∈ lotOf z ∧ t ∈ lotOf y := by decide +kernel
theorem of_and {R : List (List Int)} {x y : Str × Bool} (hx : x.1 ∈ wordsD) (hy : y.1 ∈ wordsD) : ofD R (andD x y) = (ofD R x && ofD R y) := by
  have key : ((lotOf (andD x y).1).all fun u => keepsD R u) = (((lotOf x.1).all fun u => keepsD R u) && ((lotOf y.1).all fun u => keepsD R u)) := by
    rw [← List.all_append, Bool.eq_iff_iff]
    refine ⟨fun h => List.all_eq_true.mpr fun t ht => List.all_eq_true.mp h t (and_has x.1 hx y.1 hy t ht), fun h => List.all_eq_true.mpr fun t ht => ?_⟩
    obtain ⟨a, ha, b, hb, c, hc, ob, oc, rfl⟩ := and_made x.1 hx y.1 hy t ht
    have k := List.all_eq_true.mp h
    exact keeps_comp oc (keeps_comp ob (k a ha) (k b hb)) (k c hc)
  unfold ofD
  rw [key]
  show (_ && (stillD R || !(x.2 || y.2))) = _
  cases ((lotOf x.1).all fun u => keepsD R u) <;> cases ((lotOf y.1).all fun u => keepsD R u) <;> cases stillD R <;> cases x.2 <;> cases y.2 <;> rfl
theorem of_or {R : List (List Int)} {x y : Str × Bool} (hx : x.1 ∈ wordsD) (hy : y.1 ∈ wordsD) (h : (ofD R x || ofD R y) = true) : ofD R (orD x y) = true := by
  unfold ofD at h ⊢
  show (((lotOf (orD x y).1).all fun u => keepsD R u) && (stillD R || !(x.2 && y.2))) = true
  rw [Bool.and_eq_true]
  have sub := or_in x.1 hx y.1 hy
  rcases (Bool.or_eq_true _ _).mp h with h | h
  · obtain ⟨h1, h2⟩ := (Bool.and_eq_true _ _).mp h
    exact ⟨List.all_eq_true.mpr fun t ht => List.all_eq_true.mp h1 t (sub t ht).1, by revert h2; cases stillD R <;> cases x.2 <;> cases y.2 <;> exact fun z => by first | rfl | exact z⟩
  · obtain ⟨h1, h2⟩ := (Bool.and_eq_true _ _).mp h
    exact ⟨List.all_eq_true.mpr fun t ht => List.all_eq_true.mp h1 t (sub t ht).2, by revert h2; cases stillD R <;> cases x.2 <;> cases y.2 <;> exact fun z => by first | rfl | exact z⟩
theorem of_within {R : List (List Int)} {x y : Str × Bool} (h : ofD R x = true) (hw : withinD x y = true) : ofD R y = true := by
  unfold ofD at h ⊢
  unfold withinD at hw
  obtain ⟨h1, h2⟩ := (Bool.and_eq_true _ _).mp h
  obtain ⟨w1, w2⟩ := (Bool.and_eq_true _ _).mp hw
  rw [Bool.and_eq_true]
  refine ⟨List.all_eq_true.mpr fun t ht => List.all_eq_true.mp h1 t (of_decide_eq_true (List.all_eq_true.mp w1 t ht)), ?_⟩
  cases hs : stillD R <;> cases hx : x.2 <;> cases hy : y.2 <;> simp_all
end L2.K4
set_option Elab.async false
set_option linter.all false
set_option maxRecDepth 100000
set_option maxHeartbeats 8000000
namespace L2.K4
open PySem PySem.Spec PyProof.Rows L2.Tb
/-! ### a rule as a dict -/
def kOf (ns : List Int) : List Key := ns.map Sum.inl
theorem kOf_inj {a b : List Int} (h : kOf a = kOf b) : a = b := by
  induction a generalizing b with
  | nil =>
    cases b with
    | nil => rfl
    | cons y b => cases h
  | cons x a ih =>
    cases b with
    | nil => cases h
    | cons y b =>
      injection h with h1 h2
      injection h1 with h1
      rw [h1, ih h2]
theorem kOf_V (ns : List Int) : (kOf ns).map kV = ns.map V.int := by
  unfold kOf
  rw [List.map_map]
  rfl
structure RuleAt (H : Hp) (d : Addr) (R : List (List Int)) : Prop where
  ex : ∃ kvs : List (List Key × V), H d = some (.dT kvs) ∧ kvs.map (·.1) = R.map kOf
  few : R.length ≤ 100
  tri : ∀ t ∈ R, t.length = 3
theorem RuleAt.same {H H' : Hp} {d : Addr} {R : List (List Int)} (h : RuleAt H d R) (s : Same H H') : RuleAt H' d R := by
  obtain ⟨kvs, a, b⟩ := h.ex
  exact ⟨⟨kvs, s _ _ a, b⟩, h.few, h.tri⟩
theorem val_kOf {kvs : List (List Key × V)} {R : List (List Int)} (h : kvs.map (·.1) = R.map kOf) (ns : List Int) : (valV kvs (kOf ns)).isSome = decide (ns ∈ R) := by
  unfold valV
  rw [Option.isSome_map, Bool.eq_iff_iff, List.find?_isSome, decide_eq_true_iff]
  constructor
  · rintro ⟨kv, m, e⟩
    have e := of_decide_eq_true e
    have m2 : kv.1 ∈ R.map kOf := h ▸ List.mem_map_of_mem m
    obtain ⟨t, mt, et⟩ := List.mem_map.mp m2
    rw [e] at et
    rw [← kOf_inj et]
    exact mt
  · intro m
    have m2 : kOf ns ∈ kvs.map (·.1) := h ▸ List.mem_map_of_mem m
    obtain ⟨kv, m3, e⟩ := List.mem_map.mp m2
    exact ⟨kv, m3, decide_eq_true e⟩
abbrev s_keeps : Stmt := top 30
abbrev N_keeps : List Str := ["_law_rule_here", "_law_turn", "_law_i", "_law_j", "_law_k", "_law_trio"]
theorem sc_keeps : FnScope N_keeps ["_law_rule_here", "_law_turn"] (defScope s_keeps) := ⟨rfl, rfl, rfl, by decide +kernel, rfl, by decide +kernel, by decide +kernel⟩
def spKeeps (K : PySem.W.Frag) : Sp := fun vs H Q _ => ∃ (d t : Addr) (R : List (List Int)) (u : Turn), vs = [.ref d, .ref t] ∧ RuleAt H d R ∧ SqT K H t (turnV u) ∧ okT u = true ∧ ∀ H', Same H H' → Q (.bl (keepsD R u)) H'
theorem tat_at {t : List Int} {i : Int} (hl : t.length = 3) (h : okX i = true) : atI (t.map V.int) i = some (.int (tat t i)) := by
  unfold okX at h
  match t, hl with
  | [x, y, w], _ => rcases (by simpa using h : i = 0 ∨ i = 1 ∨ i = 2) with rfl | rfl | rfl <;> rfl
section
variable {P : Program} {w : World} {K : PySem.W.Frag} {mg : Str → Option Value} {base : Heap} {f : Addr} {fd : FuncData}
theorem c_keeps (T : Bt mg) (F : FnP K "_law_keeps" s_keeps f fd) (hm : mg "_law_keeps" = some (.ref f)) : Cal P w K mg base 1 "_law_keeps" (spKeeps K) := by
  have hnd := sc_keeps.nd
  refine cal_mk F hm sc_keeps (fun _ _ _ _ _ _ us hl => match us, hl with | [_, _], _ => rfl) (fun vs H Q E h => ?_) (fun cdv A outer s H vs Q E hr h => ?_)
  · obtain ⟨d, t, R, u, rfl, _⟩ := h
    rfl
  · obtain ⟨d, t, R, u, rfl, hR, hu, ok, q⟩ := h
    have hu1 : (A.deeper (envOfC "_law_keeps" (defScope s_keeps) s.heap.objs.size f cdv)).units + 1 < cLine := by
      have := hr.un
      omega
    obtain ⟨o1, o2⟩ := He.ba ok
    obtain ⟨o2, o3⟩ := He.ba o2
    refine ⟨_, (pss_cons (ps_asg (pv 1) (pg_tup (by rfl) (pgs_cons (pg_name (i := 2) hnd rfl (by first | exact Or.inl rfl | exact Or.inr rfl)) (pgs_cons (pg_name (i := 3) hnd rfl (by first | exact Or.inl rfl | exact Or.inr rfl)) (pgs_cons (pg_name (i := 4) hnd rfl (by first | exact Or.inl rfl | exact Or.inr rfl)) pgs_nil)))))
      (pss_one (ps_ret (pe_callB (cr_all (by rfl)) (by rfl) T.m_all (by decide +kernel) (pa_cons (pe_lc (own := [("_law_trio", 5)]) (tt := tYes) (by rfl) hnd (pi_list (pe_callTy (call_list_dT (by rfl)) (by rfl) T.m_list (by decide +kernel) (pa_cons (pv 0) pa_nil))) (blkOk_by (own := [("_law_trio", 5)]) (N := N_keeps) (sc := defScope s_keeps) (by decide +kernel)) (fun _ _ _ _ _ => (pg_name (i := 5) hnd rfl (by first | exact Or.inl rfl | exact Or.inr rfl))) (fun _ _ _ _ _ => pts_nil) (fun _ _ _ _ _ => (pe_cmp (pc_din hu1 (pe_tup (pa_cons (pe_ix (show IxR _ (rIxT K) from ix_tup) (pv 5) (pv 2) (fun _ _ => rfl)) (pa_cons (pe_ix (show IxR _ (rIxT K) from ix_tup) (pv 5) (pv 3) (fun _ _ => rfl)) (pa_cons (pe_ix (show IxR _ (rIxT K) from ix_tup) (pv 5) (pv 4) (fun _ _ => rfl)) pa_nil)))) (pv 0))))) pa_nil))))), ?_⟩
    refine ⟨_, rfl, t, turnV u, rfl, hu, rfl, _, _, rfl, _, _, rfl, _, _, rfl, rfl, ?_⟩
    obtain ⟨kvs, ed, ek⟩ := hR.ex
    dsimp only
    refine cb_one ⟨_, rfl, d, kvs, rfl, .inl ed, fun p bs np hb => ?_⟩
    have s1 := same_new (o := .lst (bs.map V.ref)) np
    have e1 := upd_same (H := H) (a := p) (o := .lst (bs.map V.ref))
    generalize upd H p (.lst (bs.map V.ref)) = H1 at s1 e1 ⊢
    have lk : kvs.length = R.length := by simpa using congrArg List.length ek
    have lb : bs.length = R.length := by rw [← lk]; exact (paired_len hb).symm
    refine ⟨p, rfl, ⟨_, SqL.of e1⟩, fun D nD => ?_⟩
    refine lc_list (xs := bs.map V.ref) (fun i H' => Same H1 H' ∧ H' D = some (.lst ((R.take i).map fun t => .bl (decide (img t u ∈ R))))) ⟨same_new nD, upd_same⟩ (fun i H' _ y => SqL.of (y.1 _ _ e1)) ?_ ?_
    · rintro i x H2 hx ⟨s2, e2⟩
      refine ⟨rfl, ?_⟩
      unfold tYes
      dsimp only
      rw [if_pos rfl]
      have li : i < R.length := by
        have := (List.getElem?_eq_some_iff.mp hx).1
        rw [List.length_map, lb] at this
        exact this
      obtain ⟨kv, ekv⟩ : ∃ kv, kvs[i]? = some kv := ⟨kvs[i]'(by omega), List.getElem?_eq_getElem (by omega)⟩
      obtain ⟨b, eb, hbv⟩ := paired_nth hb ekv
      have er : R[i]? = some R[i] := List.getElem?_eq_getElem li
      have ekr : kv.1 = kOf R[i] := by
        have := congrArg (fun l : List (List Key) => l[i]?) ek
        rw [List.getElem?_map, List.getElem?_map, ekv, er] at this
        exact Option.some.inj this
      have ex : x = .ref b := by
        rw [List.getElem?_map, eb] at hx
        exact (Option.some.inj hx).symm
      subst ex
      rw [ekr, kOf_V] at hbv
      have l3 := hR.tri R[i] (List.getElem_mem ..)
      have hb2 : H2 b = some (.tup (R[i].map V.int)) := s2 _ _ (s1 _ _ hbv)
      refine ⟨_, rfl, _, rfl, b, _, _, _, rfl, rfl, SqT.of hb2, tat_at l3 o1, _, rfl, _, rfl, b, _, _, _, rfl, rfl, SqT.of hb2, tat_at l3 o2, _, rfl, _, rfl, b, _, _, _, rfl, rfl, SqT.of hb2, tat_at l3 o3, Nat.le_of_ble_eq_true rfl, fun p2 np2 => ?_⟩
      have s3 : Same H2 (upd H2 p2 (.tup ((img R[i] u).map V.int))) := same_new np2
      refine ⟨_, rfl, d, _, rfl, DGet.t (k := kOf (img R[i] u)) (s3 _ _ (s2 _ _ (s1 _ _ ed))) (by rw [kOf_V]; exact upd_same), ?_⟩
      rw [val_kOf ek]
      exact ⟨_, s3 _ _ e2, by rw [List.length_map, List.length_take, sizeLine_eq]; have := hR.few; omega, same_put nD (s2.trans s3), by rw [upd_same, List.take_add_one, er, List.map_append]; rfl⟩
    · rintro H2 ⟨s2, e2⟩
      rw [List.length_map, lb, List.take_length] at e2
      refine ⟨D, R.map fun t => decide (img t u ∈ R), rfl, SqL.of (by rw [e2, List.map_map]; rfl), ?_⟩
      have := q H2 (s1.trans s2)
      unfold keepsD at this
      rw [List.all_map]
      exact this
end
end L2.K4
set_option Elab.async false
set_option linter.all false
set_option maxRecDepth 100000
set_option maxHeartbeats 8000000
namespace L2.K4
open PySem PySem.Spec PyProof.Rows L2.Tb
abbrev s_kinds_of : Stmt := top 29
abbrev N_kinds_of : List Str := ["_law_rule_here", "_law_turn", "_law_kept", "_law_a", "_law_b", "_law_c", "_law_still", "_law_found", "_law_word", "_law_flag"]
theorem sc_kinds_of : FnScope N_kinds_of ["_law_rule_here"] (defScope s_kinds_of) := ⟨rfl, rfl, rfl, by decide +kernel, rfl, by decide +kernel, by decide +kernel⟩
def ofKv (R : List (List Int)) (x : Str × Bool) : Key × V := (.inr (lineS x.1 x.2), .bl (ofD R x))
def spKindsOf : Sp := fun vs H Q _ => ∃ (d : Addr) (R : List (List Int)), vs = [.ref d] ∧ RuleAt H d R ∧ ∀ (o : Addr) (H' : Hp), Same H H' → H o = none → H' o = some (.dK (pairD.map (ofKv R))) → Q (.ref o) H'
theorem all_ok : ∀ z ∈ wordsD, ∀ u ∈ lotOf z, okT u = true ∧ u ∈ lotOf "all" := by decide +kernel
theorem all_six : (lotOf "all").length = 6 := by decide +kernel
section
variable {C : Addr}
theorem pair_word : ∀ d ∈ pairD, wordsD.contains d.1 = true := by decide +kernel
theorem pair_len : ∀ d ∈ pairD, d.1.length ≤ 1000 := by decide +kernel
theorem pair_at {H : Hp} {ts : List Addr} {i : Nat} {x : V} (p : Paired (PairAt H) ts pairD) (hx : (ts.map V.ref)[i]? = some x) : ∃ t d, x = .ref t ∧ pairD[i]? = some d ∧ PairAt H t d := by
  rw [List.getElem?_map] at hx
  obtain ⟨t, e, rfl⟩ := Option.map_eq_some_iff.mp hx
  obtain ⟨d, e2, r⟩ := paired_nth p e
  exact ⟨t, d, rfl, e2, r⟩
theorem lots_get {H : Hp} {kvs : List (Key × V)} {z : Str} (hz : wordsD.contains z = true) (h : LotsAt H kvs) : ∃ ll ts, valV kvs (.inr z) = some (.ref ll) ∧ H ll = some (.lst (ts.map V.ref)) ∧ Paired (fun t u => H t = some (.tup (turnV u))) ts (lotOf z) := by
  have hl : lotD.lookup z = some (lotOf z) := (show ∀ z ∈ wordsD, lotD.lookup z = some (lotOf z) by decide +kernel) z (List.contains_iff_mem.mp hz)
  unfold LotsAt at h
  generalize lotD = ds at h hl
  induction h with
  | nil => cases hl
  | @cons kv d kvs ds r _ ih =>
    obtain ⟨e, l, e2, ts, h1, h2⟩ := r
    by_cases q : z = d.1
    · have e3 : lotOf z = d.2 := by
        have : (d :: ds).lookup z = some d.2 := by
          obtain ⟨d1, d2⟩ := d
          simp only [List.lookup]
          rw [show (z == d1) = true from beq_iff_eq.mpr q]
        rw [this] at hl
        exact (Option.some.inj hl).symm
      refine ⟨l, ts, ?_, h1, by rw [e3]; exact h2⟩
      rw [valV_pos (by rw [e, q]), e2]
    · have hl2 : ds.lookup z = some (lotOf z) := by
        obtain ⟨d1, d2⟩ := d
        simp only [List.lookup] at hl
        rw [show (z == d1) = false from beq_eq_false_iff_ne.mpr q] at hl
        exact hl
      obtain ⟨l3, ts3, h3, h4⟩ := ih hl2
      refine ⟨l3, ts3, ?_, h4⟩
      rw [← h3]
      have ne : ¬ kv.1 = (.inr z : Key) := fun c => q (by rw [e] at c; injection c with c; exact c.symm)
      simp [valV, List.find?_cons, ne]
end
theorem and_or {A S F : Bool} {σ : St} {H : Hp} {Q : VK} (h6 : σ[6]? = some (some (.bl S))) (h9 : σ[9]? = some (some (.bl F))) (q : Q (.bl (A && (S || !F))) H) : ∃ c, V.bl A = V.bl c ∧ (if c = true then tOrV (tVar 6) (tNotV (tVar 9)) σ H Q else Q (.bl false) H) := by
  refine ⟨A, rfl, ?_⟩
  cases A with
  | false => exact iteF q
  | true =>
    refine iteT ⟨_, h6, S, rfl, ?_⟩
    cases S with
    | true => exact iteT q
    | false => exact iteF ⟨_, h9, _, rfl, q⟩
theorem turnsL_shaped (us : List Turn) : SeqAt.shaped (.list (us.map turnD)) = true := by
  show (PyData.canLay0 (.list (us.map turnD)) && decide (PyData.depth (.list (us.map turnD)) ≤ 64)) = true
  rw [Bool.and_eq_true]
  exact ⟨by simp only [PyData.canLay0]; exact turns_lay us, decide_eq_true (by have := turns_depth us; simp only [PyData.depth]; omega)⟩
theorem rule_nth {H : Hp} {kvs : List (List Key × V)} {R : List (List Int)} {bs : List Addr} {i : Nat} {x : V} (ek : kvs.map (·.1) = R.map kOf) (hb : IsKeys H kvs bs) (hx : (bs.map V.ref)[i]? = some x) : ∃ b r, x = .ref b ∧ R[i]? = some r ∧ r ∈ R ∧ H b = some (.tup (r.map V.int)) := by
  have lk : kvs.length = R.length := by simpa using congrArg List.length ek
  have lb : bs.length = R.length := by rw [← lk]; exact (paired_len hb).symm
  have li : i < R.length := by
    have := (List.getElem?_eq_some_iff.mp hx).1
    rw [List.length_map, lb] at this
    exact this
  obtain ⟨kv, ekv⟩ : ∃ kv, kvs[i]? = some kv := ⟨kvs[i]'(by omega), List.getElem?_eq_getElem (by omega)⟩
  obtain ⟨b, eb, hbv⟩ := paired_nth hb ekv
  have er : R[i]? = some R[i] := List.getElem?_eq_getElem li
  have ekr : kv.1 = kOf R[i] := by
    have := congrArg (fun l : List (List Key) => l[i]?) ek
    rw [List.getElem?_map, List.getElem?_map, ekv, er] at this
    exact Option.some.inj this
  refine ⟨b, R[i], ?_, er, List.getElem_mem .., ?_⟩
  · rw [List.getElem?_map, eb] at hx
    exact (Option.some.inj hx).symm
  · rw [ekr, kOf_V] at hbv
    exact hbv
theorem lines_new : ∀ i, i < 12 → ∀ d ∈ pairD[i]?, ∀ e ∈ pairD.take i, lineS e.1 e.2 ≠ lineS d.1 d.2 := by decide +kernel
theorem put_new {R : List (List Int)} {i : Nat} {d : Str × Bool} (hd : pairD[i]? = some d) : putK ((pairD.take i).map (ofKv R)) (.inr (lineS d.1 d.2)) (.bl (ofD R d)) = (pairD.take (i + 1)).map (ofKv R) := by
  have hi : i < 12 := (List.getElem?_eq_some_iff.mp hd).1
  unfold putK
  rw [if_neg]
  · rw [List.take_add_one, hd, List.map_append]
    rfl
  · intro h
    obtain ⟨kv, m, e⟩ := List.any_eq_true.mp h
    obtain ⟨x, mx, rfl⟩ := List.mem_map.mp m
    have e := of_decide_eq_true e
    injection e with e
    exact lines_new i hi d hd x mx e
theorem gname_go {i : Nat} {x : V} {σ : St} {H : Hp} {k : St → Hp → Prop} (h : k (σ.set i (some x)) H) : gName i x σ H k := h
section
variable {P : Program} {w : World} {K : PySem.W.Frag} {mg : Str → Option Value} {base : Heap} {f : Addr} {fd : FuncData}
theorem c_kinds_of (T : Bt mg) (F : FnP K "_law_kinds_of" s_kinds_of f fd) (hm : mg "_law_kinds_of" = some (.ref f)) (k_keeps : Cal P w K mg base 1 "_law_keeps" (spKeeps K)) (k_lots : Cal P w K mg base 1 "_law_lots" spLots) (k_pairs : Cal P w K mg base 2 "_law_pairs" spPairs)
    (k_line : Cal P w K mg base 1 "_law_line" (spLine K)) : Cal P w K mg base 3 "_law_kinds_of" spKindsOf := by
  have hnd := sc_kinds_of.nd
  refine cal_mk F hm sc_kinds_of (fun _ _ _ _ _ _ us hl => match us, hl with | [_], _ => rfl) (fun vs H Q E h => ?_) (fun cdv A outer s H vs Q E hr h => ?_)
  · obtain ⟨d, R, rfl, _⟩ := h
    rfl
  · obtain ⟨d, R, rfl, hR, q⟩ := h
    have hu1 : (A.deeper (envOfC "_law_kinds_of" (defScope s_kinds_of) s.heap.objs.size f cdv)).units + 1 < cLine := by
      have := hr.un
      omega
    have hu65 : (A.deeper (envOfC "_law_kinds_of" (defScope s_kinds_of) s.heap.objs.size f cdv)).units + 65 < cLine := by
      have := hr.un
      omega
    refine ⟨_, (pss_cons (ps_set (i := 2) hnd rfl (by first | exact Or.inl rfl | exact Or.inr rfl) (pe_lc (own := [("_law_turn", 1)]) (by rfl) hnd (pi_list (pe_dget (Nat.lt_of_le_of_lt (Nat.add_le_add_left (by decide) _) hr.units) (pe_cal0 k_lots hr (by omega) (by rfl)) pe_str (fun _ _ => rfl))) (blkOk_by (own := [("_law_turn", 1)]) (N := N_kinds_of) (sc := defScope s_kinds_of) (by decide +kernel)) (fun _ _ _ _ _ => (pg_name (i := 1) hnd rfl (by first | exact Or.inl rfl | exact Or.inr rfl))) (fun _ _ _ _ _ => (pts_one (pt_val (pe_cal k_keeps hr (by omega) (by rfl) (pa_cons (pv 0) (pa_cons (pv 1) pa_nil)))))) (fun _ _ _ _ _ => (pv 1))))
      (pss_cons (ps_set (i := 6) hnd rfl (by first | exact Or.inl rfl | exact Or.inr rfl) (pe_callB (cr_all (by rfl)) (by rfl) T.m_all (by decide +kernel) (pa_cons (pe_lc (own := [("_law_a", 3), ("_law_b", 4), ("_law_c", 5)]) (tt := tYes) (g := (gTup K 3 (gCons (gName 3) (gCons (gName 4) (gCons (gName 5) gNil))))) (by rfl) hnd (pi_list (pe_callTy (call_list_dT (by rfl)) (by rfl) T.m_list (by decide +kernel) (pa_cons (pv 0) pa_nil))) (blkOk_by (own := [("_law_a", 3), ("_law_b", 4), ("_law_c", 5)]) (N := N_kinds_of) (sc := defScope s_kinds_of) (by decide +kernel)) (fun _ _ _ _ _ => (pg_tup (by rfl) (pgs_cons (pg_name (i := 3) hnd rfl (by first | exact Or.inl rfl | exact Or.inr rfl)) (pgs_cons (pg_name (i := 4) hnd rfl (by first | exact Or.inl rfl | exact Or.inr rfl)) (pgs_cons (pg_name (i := 5) hnd rfl (by first | exact Or.inl rfl | exact Or.inr rfl)) pgs_nil))))) (fun _ _ _ _ _ => pts_nil) (fun _ _ _ _ _ => (pe_cmp (pc_din hu1 (pe_tup (pa_cons (pv 3) (pa_cons (pv 3) (pa_cons (pv 3) pa_nil)))) (pv 0))))) pa_nil)))
      (pss_cons (ps_set (i := 7) hnd rfl (by first | exact Or.inl rfl | exact Or.inr rfl) pe_dnewK)
      (pss_cons (ps_for PassesOwn.never (by rfl) (pi_list (pe_cal0 k_pairs hr (by omega) (by rfl))) (pg_tup (by rfl) (pgs_cons (pg_name (i := 8) hnd rfl (by first | exact Or.inl rfl | exact Or.inr rfl)) (pgs_cons (pg_name (i := 9) hnd rfl (by first | exact Or.inl rfl | exact Or.inr rfl)) pgs_nil)))
      (pss_one (ps_asg (pe_and (pe_callB (cr_all (by rfl)) (by rfl) T.m_all (by decide +kernel) (pa_cons (pe_lc (own := [("_law_turn", 1)]) (tt := tYes) (by rfl) hnd (pi_list (pe_dget (Nat.lt_of_le_of_lt (Nat.add_le_add_left (by decide) _) hr.units) (pe_cal0 k_lots hr (by omega) (by rfl)) (pv 8) (fun _ _ => rfl))) (blkOk_by (own := [("_law_turn", 1)]) (N := N_kinds_of) (sc := defScope s_kinds_of) (by decide +kernel)) (fun _ _ _ _ _ => (pg_name (i := 1) hnd rfl (by first | exact Or.inl rfl | exact Or.inr rfl))) (fun _ _ _ _ _ => pts_nil) (fun _ _ _ _ _ => (pe_cmpR (show OpR _ (compareOp .In) (rInD K) from op_inD hu65) (pv 1) (pv 2) (by rfl)))) pa_nil)) (pe_one (pe_or (pv 6) (pe_one (pe_not (pv 9)))))) (pg_sub (pv 7) (pe_cal k_line hr (by omega) (by rfl) (pa_cons (pe_tup (pa_cons (pv 8) (pa_cons (pv 9) pa_nil))) pa_nil)) (set_dict (Nat.lt_of_le_of_lt (Nat.add_le_add_left (by decide) _) hr.units))))))
      (pss_one (ps_ret (pv 7))))))), ?_⟩
    refine ⟨rfl, fun dl H1 kvs s1 e1 L1 => ?_⟩
    obtain ⟨ll, tl, hv, el, pl⟩ := lots_get (z := "all") (by decide +kernel) L1
    refine ⟨dl, .ref ll, rfl, ?_, ?_⟩
    · have z := DGet.k (k := .inr "all") e1
      rw [hv] at z
      exact z
    have R1 := hR.same s1
    have lt6 : tl.length = 6 := by rw [paired_len pl, all_six]
    refine ⟨ll, rfl, ⟨_, SqL.of el⟩, fun D nD => ?_⟩
    refine lc_list (xs := tl.map V.ref) (fun i G => Same H1 G ∧ ∃ ks : List Addr, G D = some (.lst (ks.map V.ref)) ∧ ks.length ≤ i ∧ Paired (fun t u => H1 t = some (.tup (turnV u))) ks (((lotOf "all").take i).filter fun u => keepsD R u)) ⟨same_new nD, [], upd_same, Nat.le_refl _, .nil⟩ (fun i G _ y => SqL.of (y.1 _ _ el)) ?_ ?_
    · rintro i x G hx ⟨sg, ks, eg, lk, pk⟩
      refine ⟨rfl, ?_⟩
      obtain ⟨ti, et, rfl⟩ : ∃ t, tl[i]? = some t ∧ x = .ref t := by
        rw [List.getElem?_map] at hx
        obtain ⟨t, e1, e2⟩ := Option.map_eq_some_iff.mp hx
        exact ⟨t, e1, e2.symm⟩
      obtain ⟨u, eu, su⟩ := paired_nth pl et
      have ok := (all_ok "all" (by decide +kernel) u (List.mem_of_getElem? eu)).1
      have li : i < 6 := by
        have := (List.getElem?_eq_some_iff.mp et).1
        omega
      refine ⟨_, rfl, _, rfl, d, ti, R, u, rfl, R1.same sg, SqT.of (sg _ _ su), ok, fun G2 s2 => ⟨_, rfl, ?_⟩⟩
      dsimp only
      cases c : keepsD R u with
      | true => exact iteT ⟨_, rfl, _, s2 _ _ eg, by rw [List.length_map, sizeLine_eq]; omega, same_put nD (sg.trans s2), ks ++ [ti], by rw [upd_same, List.map_append]; rfl, by rw [List.length_append, List.length_singleton]; omega, by rw [filter_take eu, c, if_pos rfl]; exact paired_app pk (.cons su .nil)⟩
      | false => exact iteF ⟨sg.trans s2, ks, s2 _ _ eg, by omega, by rw [filter_take eu, c, if_neg (by decide), List.append_nil]; exact pk⟩
    · rintro G ⟨sg, ks, eg, lk, pk⟩
      rw [List.length_map, lt6, ← all_six, List.take_length] at pk
      have RG := R1.same sg
      refine gname_go ?_
      dsimp only
      obtain ⟨kvR, ed, ek⟩ := RG.ex
      refine ⟨_, rfl, d, kvR, rfl, .inl ed, fun p bs np hb => ?_⟩
      have s2 := same_new (o := .lst (bs.map V.ref)) np
      have e2 := upd_same (H := G) (a := p) (o := .lst (bs.map V.ref))
      generalize upd G p (.lst (bs.map V.ref)) = G2 at s2 e2 hb ⊢
      have lb : bs.length = R.length := by
        have lk2 : kvR.length = R.length := by simpa using congrArg List.length ek
        rw [← lk2]
        exact (paired_len hb).symm
      refine ⟨p, rfl, ⟨_, SqL.of e2⟩, fun D2 nD2 => ?_⟩
      refine lc_list (xs := bs.map V.ref) (fun i H' => Same G2 H' ∧ H' D2 = some (.lst ((R.take i).map fun t => .bl (decide ([tat t 0, tat t 0, tat t 0] ∈ R))))) ⟨same_new nD2, upd_same⟩ (fun i H' _ y => SqL.of (y.1 _ _ e2)) ?_ ?_
      · rintro i x H3 hx ⟨s3, e3⟩
        obtain ⟨b, r, rfl, er, mr, ebr⟩ := rule_nth ek hb hx
        have eb3 := s3 _ _ (s2 _ _ ebr)
        obtain ⟨x, y, z, rfl⟩ : ∃ x y z, r = [x, y, z] := by
          match r, RG.tri r mr with
          | [x, y, z], _ => exact ⟨x, y, z, rfl⟩
        refine ⟨b, [.int x, .int y, .int z], rfl, SqT.of eb3, rfl, _, _, rfl, _, _, rfl, _, _, rfl, rfl, rfl, ?_⟩
        unfold tYes
        dsimp only
        rw [if_pos rfl]
        refine ⟨_, rfl, _, rfl, _, rfl, Nat.le_of_ble_eq_true rfl, fun p2 np2 => ?_⟩
        have s4 : Same H3 (upd H3 p2 (.tup [.int x, .int x, .int x])) := same_new np2
        refine ⟨_, rfl, d, _, rfl, DGet.t (k := kOf [x, x, x]) (s4 _ _ (s3 _ _ (s2 _ _ ed))) (by rw [kOf_V]; exact upd_same), ?_⟩
        rw [val_kOf ek]
        exact ⟨_, s4 _ _ e3, by rw [List.length_map, List.length_take, sizeLine_eq]; have := hR.few; omega, same_put nD2 (s3.trans s4), by rw [upd_same, List.take_add_one, er, List.map_append]; rfl⟩
      · rintro H3 ⟨s3, e3⟩
        rw [List.length_map, lb, List.take_length] at e3
        refine ⟨D2, R.map fun t => decide ([tat t 0, tat t 0, tat t 0] ∈ R), rfl, SqL.of (by rw [e3, List.map_map]; rfl), ?_⟩
        rw [show (R.map fun t => decide ([tat t 0, tat t 0, tat t 0] ∈ R)).all id = stillD R by rw [List.all_map]; rfl]
        refine gname_go ?_
        dsimp only
        refine fun o no => ?_
        refine gname_go ?_
        dsimp only
        have s5 := same_new (o := .dK []) no
        have e5 := upd_same (H := H3) (a := o) (o := .dK [])
        generalize upd H3 o (.dK []) = H5 at s5 e5 ⊢
        have kept5 : H5 D = some (.lst (ks.map V.ref)) := s5 _ _ (s3 _ _ (s2 _ _ eg))
        have pk5 : Paired (fun t u => H5 t = some (.tup (turnV u))) ks ((lotOf "all").filter fun u => keepsD R u) := paired_imp (fun _ _ e => s5 _ _ (s3 _ _ (s2 _ _ (sg _ _ e)))) pk
        refine ⟨rfl, fun lp H6 ts s6 e6 pr => ?_⟩
        have nlo : ∀ {b : Addr} {xs : List V}, H6 b = some (.lst xs) → b ≠ o := fun {b xs} e z => by
          rw [z, s6 _ _ e5] at e
          cases e
        have nto : ∀ {b : Addr} {xs : List V}, H6 b = some (.tup xs) → b ≠ o := fun {b xs} e z => by
          rw [z, s6 _ _ e5] at e
          cases e
        have nHo : H o = none := by
          cases c : H o with
          | none => rfl
          | some v =>
            have := s3 _ _ (s2 _ _ (sg _ _ (s1 _ _ c)))
            rw [this] at no
            cases no
        refine ⟨lp, rfl, ⟨_, SqL.of e6⟩, ?_⟩
        refine for_list (xs := ts.map V.ref) (fun i σ' G' => SameB o H6 G' ∧ G' o = some (.dK ((pairD.take i).map (ofKv R))) ∧ ∃ x1 x3 x4 x5 x8 x9, σ' = [some (.ref d), x1, some (.ref D), x3, x4, x5, some (.bl (stillD R)), some (.ref o), x8, x9])
          ⟨SameB.refl _ _, s6 _ _ e5, _, _, _, _, _, _, rfl⟩ (fun i σ' G' _ h => SqL.of (h.1 _ _ (nlo e6) e6)) ?_ ?_
        · rintro i x σ' G3 hx ⟨sb, eo, x1, x3, x4, x5, x8, x9, rfl⟩
          obtain ⟨tp, dd, rfl, hd, hta⟩ := pair_at pr hx
          have hmem : dd ∈ pairD := List.mem_of_getElem? hd
          have hz := pair_word dd hmem
          have hlen := pair_len dd hmem
          have mz := List.contains_iff_mem.mp hz
          have hta' : PairAt G3 tp dd := sb _ _ (nto hta) hta
          have kept3 : G3 D = some (.lst (ks.map V.ref)) := sb _ _ (nlo (s6 _ _ kept5)) (s6 _ _ kept5)
          have pk3 : Paired (fun t u => G3 t = some (.tup (turnV u))) ks ((lotOf "all").filter fun u => keepsD R u) := paired_imp (fun _ _ e => sb _ _ (nto (s6 _ _ e)) (s6 _ _ e)) pk5
          refine ⟨tp, [.str dd.1, .bl dd.2], rfl, SqT.of hta', rfl, _, _, rfl, _, _, rfl, rfl, ?_⟩
          refine ⟨rfl, fun dl2 G4 kvs2 s7 e7 L7 => ?_⟩
          obtain ⟨ll2, tl2, hv2, el2, pl2⟩ := lots_get hz L7
          refine ⟨_, rfl, dl2, .ref ll2, rfl, ?_, ll2, rfl, ⟨_, SqL.of el2⟩, fun D3 nD3 => ?_⟩
          · have z := DGet.k (k := .inr dd.1) e7
            rw [hv2] at z
            exact z
          refine lc_list (xs := tl2.map V.ref) (fun j G' => Same G4 G' ∧ G' D3 = some (.lst (((lotOf dd.1).take j).map fun u => .bl (decide (u ∈ (lotOf "all").filter fun u => keepsD R u))))) ⟨same_new nD3, upd_same⟩ (fun j G' _ y => SqL.of (y.1 _ _ el2)) ?_ ?_
          · rintro j x G5 hx2 ⟨s8, e8⟩
            refine ⟨rfl, ?_⟩
            unfold tYes
            dsimp only
            rw [if_pos rfl]
            obtain ⟨ti, et, rfl⟩ : ∃ t, tl2[j]? = some t ∧ x = .ref t := by
              rw [List.getElem?_map] at hx2
              obtain ⟨t, e1, e2⟩ := Option.map_eq_some_iff.mp hx2
              exact ⟨t, e1, e2.symm⟩
            obtain ⟨u, eu, su⟩ := paired_nth pl2 et
            refine ⟨_, rfl, _, rfl, turnD u, ((lotOf "all").filter fun u => keepsD R u).map turnD, dp_turn (SqT.of (s8 _ _ su)), .lst (SqL.of (s8 _ _ (s7 _ _ kept3))) (dp_turns (paired_imp (fun _ _ e => SqT.of (s8 _ _ (s7 _ _ e))) pk3)), turn_shaped u, turnsL_shaped _, ?_⟩
            rw [turns_any]
            have l6 := lots_len dd.1 mz
            exact ⟨_, e8, by rw [List.length_map, List.length_take, sizeLine_eq]; omega, same_put nD3 s8, by rw [upd_same, List.take_add_one, eu, List.map_append]; rfl⟩
          · rintro G5 ⟨s8, e8⟩
            rw [List.length_map, paired_len pl2, List.take_length] at e8
            refine ⟨D3, (lotOf dd.1).map fun u => decide (u ∈ (lotOf "all").filter fun u => keepsD R u), rfl, SqL.of (by rw [e8, List.map_map]; rfl), ?_⟩
            have ka : ((lotOf dd.1).map fun u => decide (u ∈ (lotOf "all").filter fun u => keepsD R u)).all id = ((lotOf dd.1).all fun u => keepsD R u) := by
              rw [List.all_map, Bool.eq_iff_iff, List.all_eq_true, List.all_eq_true]
              refine ⟨fun h u hu => (List.mem_filter.mp (of_decide_eq_true (h u hu))).2, fun h u hu => decide_eq_true (List.mem_filter.mpr ⟨(all_ok dd.1 mz u hu).2, h u hu⟩)⟩
            rw [ka]
            refine and_or rfl rfl ?_
            refine ⟨_, rfl, _, rfl, _, rfl, Nat.le_of_ble_eq_true rfl, fun t nt => ⟨t, dd.1, dd.2, rfl, upd_same, hlen, ?_⟩⟩
            have s9 := same_new (o := .tup [.str dd.1, .bl dd.2]) nt
            have s79 := s7.trans (s8.trans s9)
            have l12 : (pairD.take i).length ≤ 12 := by
              rw [List.length_take]
              exact Nat.min_le_right ..
            refine ⟨o, _, rfl, DPut.k (k := .inr (lineS dd.1 dd.2)) (s79 _ _ eo) (by rw [List.length_map, sizeLine_eq]; omega), ?_⟩
            refine ⟨(sb.trans (SameB.of s79)).put, ?_, _, _, _, _, _, _, rfl⟩
            rw [upd_same]
            exact congrArg (fun l => some (HO.dK l)) (put_new hd)
        · rintro σ' G' ⟨sb, eo, x1, x3, x4, x5, x8, x9, rfl⟩
          refine ⟨_, rfl, ?_⟩
          have l12 : ts.length = 12 := paired_len pr
          rw [List.length_map, l12] at eo
          refine q o G' (fun b v e => sb _ _ (ne_of_none e nHo) (s6 _ _ (s5 _ _ (s3 _ _ (s2 _ _ (sg _ _ (s1 _ _ e))))))) nHo eo
end
end L2.K4
set_option Elab.async false
set_option linter.all false
set_option maxRecDepth 100000
set_option maxHeartbeats 8000000
namespace L2.K4
open PySem PySem.Spec PyProof.Rows L2.Tb
abbrev s_told : Stmt := top 32
abbrev N_told : List Str := ["_law_act", "_law_heard", "e"]
theorem sc_told : FnScope N_told ["_law_act"] (defScope s_told) := ⟨rfl, rfl, rfl, by decide +kernel, rfl, by decide +kernel, by decide +kernel⟩
/-- what the law hears of an error of the class at C: its given alone -/
def HeardG (C : Addr) (cls : Value) (d : Option Addr) (H : Hp) (Q : VK) : Prop := cls = .ref C ∧ ∃ dd v, d = some dd ∧ H dd = some (.xd [("given", v)]) ∧ ∀ T, H T = none → Q (.ref T) (upd H T (.tup [v]))
/-- the law's look: NotAKind -/
def TTnot (CN : Addr) : (XK → Hp → VK → Prop) → Hp → VK → Prop := fun tl H Q =>
  tl (fun cls d H1 => HeardG CN cls d H1 Q) H (fun v H1 => ∀ T, H1 T = none → Q (.ref T) (upd H1 T (.tup [.str "no error", .bl (decide (v = .non))])))
structure ToldN (K : PySem.W.Frag) (mg : Str → Option Value) (CN : Addr) : Prop where
  gN : mg "NotAKind" = some (.ref CN)
  xN : XfC K CN
  nN : PySem.W.findIn K (.ref CN) "given" = some none
  nn : PySem.W.exmOne K (.ref CN) (.ref CN) = some true
section
variable {X : Cx} {CN : Addr}
theorem told_gives (TF : ToldN X.K X.mg CN) {g : Addr} {cdg : Value} {q : Str} : LamX.GivesTo X N_told "_law_told" (defScope s_told) g cdg (defBody s_told) "_law_act" q (TTnot CN) := by
  have hnd := sc_told.nd
  intro f c' s H Q tl act hc h
  refine ⟨_, pss_cons (ps_try_asMany (X := (cxOf C8.CX0 X.prog X.w X.K X.mg X.base N_told "_law_told" (defScope s_told) g cdg X.A X.stack s H C8.E0).nox)
      (tb := fun W D σ H => ∃ Ech : XK, (∀ cls d σ' H', Ech cls d H' → W cls d σ' H') ∧ tAsg (tTup (tCons (tC (.str "no error")) (tCons (tIsN (tUp fun σZ HZ Q => σZ[0]? = some (some (.ref f)) ∧ HZ c' = some (LamX.CodeO c' q) ∧ tl Ech HZ Q)) tNil))) (gName 1) D σ H)
      rfl rfl hnd (fun W pn xe tk _ => ?_)
      (.cons (i := 2) rfl rfl ⟨rfl, by decide, .inl TF.gN⟩ (fun a oe cls d pn hz hf => pss_one (ps_set (i := 1) hnd rfl (by first | exact Or.inl rfl | exact Or.inr rfl) (pe_tup (pa_cons (pe_xf TF.xN TF.nN hz hf (pv 2)) pa_nil))))
      (.stop _))) (pss_one (ps_ret (pv 1))), ?_⟩
  · refine ⟨fun pins s' σ H' D I h' => ?_⟩
    obtain ⟨Ech, hW, h'⟩ := h'
    refine PSs.run (X := ((cxOf C8.CX0 X.prog X.w X.K X.mg X.base N_told "_law_told" (defScope s_told) g cdg X.A X.stack s H C8.E0).nox.tr pn xe)) (t := tAsg (tTup (tCons (tC (.str "no error")) (tCons (tIsN (tUp fun σZ HZ Q => σZ[0]? = some (some (.ref f)) ∧ HZ c' = some (LamX.CodeO c' q) ∧ tl Ech HZ Q)) tNil))) (gName 1)) ?_ pins s' σ H' D I h'
    have act1 := fun p1 p2 => pe_up (act W pn xe Ech p1 p2 tk hW)
    exact pss_one (ps_set (i := 1) hnd rfl (by first | exact Or.inl rfl | exact Or.inr rfl) (pe_tup (pa_cons pe_str (pa_cons (pe_cmp (pc_isN (act1 _ _))) pa_nil))))
  · refine ⟨fun cls d H1 => HeardG CN cls d H1 Q, fun cls d σ' H1 e hl => ?_, _, ⟨rfl, hc, h⟩, ?_⟩
    · obtain ⟨s0, s1, s2, rfl⟩ : ∃ s0 s1 s2, σ' = [s0, s1, s2] := by
        match σ', hl with
        | [s0, s1, s2], _ => exact ⟨s0, s1, s2, rfl⟩
      obtain ⟨rfl, dd, v, rfl, ed, q⟩ := e
      exact ⟨true, TF.nn, fun _ a na => ⟨_, rfl, rfl, rfl, dd, _, v, rfl, ed, rfl, Nat.le_of_ble_eq_true rfl, fun T nT => ⟨_, rfl, q T nT⟩⟩, (fun z => Bool.noConfusion z)⟩
    · rintro v H1 q1
      exact ⟨Nat.le_of_ble_eq_true rfl, fun T nT => ⟨_, rfl, q1 T nT⟩⟩
end
end L2.K4
set_option Elab.async false
set_option linter.all false
set_option maxRecDepth 100000
set_option maxHeartbeats 8000000
namespace L2.K4
open PySem PySem.Spec PyProof.Rows L2.Tb
abbrev s_share : Stmt := top 26
abbrev N_share : List Str := ["_law_lots_here", "_law_one", "_law_two", "_law_turn", "_law_found", "_law_word"]
theorem sc_share : FnScope N_share ["_law_lots_here", "_law_one", "_law_two"] (defScope s_share) := ⟨rfl, rfl, rfl, by decide +kernel, rfl, by decide +kernel, by decide +kernel⟩
def shareD (x y : Str) : List Turn := (lotOf x).filter fun t => decide (t ∈ lotOf y)
def spShare : Sp := fun vs H Q _ => ∃ (d : Addr) (kvs : List (Key × V)) (x y : Str), vs = [.ref d, .str x, .str y] ∧ H d = some (.dK kvs) ∧ LotsAt H kvs ∧ x ∈ wordsD ∧ y ∈ wordsD ∧ ∀ H', Same H H' → Q (.str ((wordsD.filter fun w => decide (lotOf w = shareD x y)).headD "")) H'
theorem turnsL_eqv : ∀ a b : List Turn, PyData.eqv (.list (a.map turnD)) (.list (b.map turnD)) = decide (a = b) := by
  have key : ∀ a b : List Turn, PyData.eqvAll (a.map turnD) (b.map turnD) = decide (a = b) := by
    intro a
    induction a with
    | nil => intro b; cases b <;> simp [PyData.eqvAll]
    | cons x a ih =>
      intro b
      cases b with
      | nil => simp [PyData.eqvAll]
      | cons y b =>
        simp only [List.map_cons, PyData.eqvAll, turn_eqv, ih b]
        by_cases h : x = y
        · subst h
          simp
        · simp [h]
  intro a b
  simp only [PyData.eqv]
  exact key a b
theorem share_has : ∀ x ∈ wordsD, ∀ y ∈ wordsD, (wordsD.filter fun w => decide (lotOf w = shareD x y))[0]? = some ((wordsD.filter fun w => decide (lotOf w = shareD x y)).headD "") := by decide +kernel
theorem lots_key {H : Hp} {kvs : List (Key × V)} (h : LotsAt H kvs) {i : Nat} {k : Key} {v : V} (e : kvs[i]? = some (k, v)) : ∃ z, k = .inr z ∧ wordsD[i]? = some z := by
  unfold LotsAt at h
  obtain ⟨dd, e2, r⟩ := paired_nth h e
  refine ⟨dd.1, r.1, ?_⟩
  show (lotD.map (·.1))[i]? = _
  rw [List.getElem?_map, e2]
  rfl
theorem lots_size {H : Hp} {kvs : List (Key × V)} (h : LotsAt H kvs) : kvs.length = wordsD.length := by
  unfold LotsAt at h
  rw [paired_len h]
  rfl
section
variable {P : Program} {w : World} {K : PySem.W.Frag} {mg : Str → Option Value} {base : Heap} {f : Addr} {fd : FuncData}
theorem c_share (T : Bt mg) (F : FnP K "_law_share" s_share f fd) (hm : mg "_law_share" = some (.ref f)) : Cal P w K mg base 1 "_law_share" spShare := by
  have hnd := sc_share.nd
  refine cal_mk F hm sc_share (fun _ _ _ _ _ _ us hl => match us, hl with | [_, _, _], _ => rfl) (fun vs H Q E h => ?_) (fun cdv A outer s H vs Q E hr h => ?_)
  · obtain ⟨d, kvs, x, y, rfl, _⟩ := h
    rfl
  · obtain ⟨d, kvs, x, y, rfl, ed, L, mx, my, q⟩ := h
    have hu65 : (A.deeper (envOfC "_law_share" (defScope s_share) s.heap.objs.size f cdv)).units + 65 < cLine := by
      have := hr.un
      omega
    refine ⟨_, (pss_cons (ps_set (i := 4) hnd rfl (by first | exact Or.inl rfl | exact Or.inr rfl) (pe_lc (own := [("_law_turn", 3)]) (by rfl) hnd (pi_list (pe_dget (Nat.lt_of_le_of_lt (Nat.add_le_add_left (by decide) _) hr.units) (pv 0) (pv 1) (fun _ _ => rfl))) (blkOk_by (own := [("_law_turn", 3)]) (N := N_share) (sc := defScope s_share) (by decide +kernel)) (fun _ _ _ _ _ => (pg_name (i := 3) hnd rfl (by first | exact Or.inl rfl | exact Or.inr rfl))) (fun _ _ _ _ _ => (pts_one (pt_cmpR (show OpR _ (compareOp .In) (rInD K) from op_inD hu65) (pv 3) (pe_dget (Nat.lt_of_le_of_lt (Nat.add_le_add_left (by decide) _) hr.units) (pv 0) (pv 2) (fun _ _ => rfl)) (by rfl)))) (fun _ _ _ _ _ => (pv 3))))
      (pss_one (ps_ret (pe_ix ix_list (pe_lock (pe_lc (own := [("_law_word", 5)]) (by rfl) hnd (pi_keys (pv 0)) (blkOk_by (own := [("_law_word", 5)]) (N := N_share) (sc := defScope s_share) (by decide +kernel)) (fun _ _ _ _ _ => (pg_name (i := 5) hnd rfl (by first | exact Or.inl rfl | exact Or.inr rfl))) (fun _ _ _ _ _ => (pts_one (pt_cmpR (show OpR _ (compareOp .Eq) (rEqD K) from op_eqD hr.units) (pe_dget (Nat.lt_of_le_of_lt (Nat.add_le_add_left (by decide) _) hr.units) (pv 0) (pv 5) (fun _ _ => rfl)) (pv 4) (nomark _)))) (fun _ _ _ _ _ => (pv 5)))) pe_int (fun _ _ => rfl))))), ?_⟩
    obtain ⟨l1, t1, v1, e1, p1⟩ := lots_get (List.contains_iff_mem.mpr mx) L
    obtain ⟨l2, t2, v2, e2, p2⟩ := lots_get (List.contains_iff_mem.mpr my) L
    have g1 : DGet H d (.str x) (some (.ref l1)) := by
      have z := DGet.k (k := .inr x) ed
      rw [v1] at z
      exact z
    have g2 : ∀ {G : Hp}, Same H G → DGet G d (.str y) (some (.ref l2)) := fun {G} s => by
      have z := DGet.k (k := .inr y) (s _ _ ed)
      rw [v2] at z
      exact z
    refine ⟨_, rfl, _, rfl, d, .ref l1, rfl, g1, l1, rfl, ⟨_, SqL.of e1⟩, fun D nD => ?_⟩
    refine lc_list (xs := t1.map V.ref) (fun i G => Same H G ∧ ∃ ks : List Addr, G D = some (.lst (ks.map V.ref)) ∧ ks.length ≤ i ∧ Paired (fun t u => H t = some (.tup (turnV u))) ks (((lotOf x).take i).filter fun t => decide (t ∈ lotOf y))) ⟨same_new nD, [], upd_same, Nat.le_refl _, .nil⟩ (fun i G _ y => SqL.of (y.1 _ _ e1)) ?_ ?_
    · rintro i z G hz ⟨sg, ks, eg, lk, pk⟩
      refine ⟨rfl, ?_⟩
      obtain ⟨ti, et, rfl⟩ : ∃ t, t1[i]? = some t ∧ z = .ref t := by
        rw [List.getElem?_map] at hz
        obtain ⟨t, e1, e2⟩ := Option.map_eq_some_iff.mp hz
        exact ⟨t, e1, e2.symm⟩
      obtain ⟨u, eu, su⟩ := paired_nth p1 et
      have li : i < 6 := by
        have := (List.getElem?_eq_some_iff.mp eu).1
        have := lots_len x mx
        omega
      refine ⟨_, rfl, _, rfl, _, rfl, d, .ref l2, rfl, g2 sg, turnD u, (lotOf y).map turnD, dp_turn (SqT.of (sg _ _ su)), .lst (SqL.of (sg _ _ e2)) (dp_turns (paired_imp (fun _ _ e => SqT.of (sg _ _ e)) p2)), turn_shaped u, turnsL_shaped _, ?_⟩
      rw [turns_any]
      refine ⟨_, rfl, ?_⟩
      dsimp only
      cases c : decide (u ∈ lotOf y) with
      | true => exact iteT ⟨_, rfl, _, eg, by rw [List.length_map, sizeLine_eq]; omega, same_put nD sg, ks ++ [ti], by rw [upd_same, List.map_append]; rfl, by rw [List.length_append, List.length_singleton]; omega, by rw [filter_take eu, c, if_pos rfl]; exact paired_app pk (.cons su .nil)⟩
      | false => exact iteF ⟨sg, ks, eg, by omega, by rw [filter_take eu, c, if_neg (by decide), List.append_nil]; exact pk⟩
    · rintro G ⟨sg, ks, eg, lk, pk⟩
      rw [List.length_map, paired_len p1, List.take_length] at pk
      have pk : Paired (fun t u => H t = some (.tup (turnV u))) ks (shareD x y) := pk
      refine gname_go ?_
      dsimp only
      refine ⟨d, .dK kvs, sg _ _ ed, trivial, fun od => ?_⟩
      have lockd := upd_same (H := G) (a := d) (o := .frz od (.dK kvs))
      have keep : ∀ {b : Addr} {o : HO}, H b = some o → b ≠ d → upd G d (.frz od (.dK kvs)) b = some o := fun {b o} e n => by
        rw [upd_ne n]
        exact sg _ _ e
      have nd : ∀ {b : Addr} {xs : List V}, H b = some (.tup xs) ∨ H b = some (.lst xs) → b ≠ d := fun {b xs} e z => by
        rw [z, ed] at e
        rcases e with e | e <;> cases e
      have nDd : D ≠ d := fun z => by
        rw [z, ed] at nD
        cases nD
      have keptL : upd G d (.frz od (.dK kvs)) D = some (.lst (ks.map V.ref)) := by
        rw [upd_ne nDd]
        exact eg
      have back : ∀ {G' : Hp}, Same (upd G d (.frz od (.dK kvs))) G' → Same H (upd G' d (.dK kvs)) := fun {G'} s b o e => by
        by_cases c : b = d
        · subst c
          rw [ed] at e
          rw [upd_same]
          exact e
        · rw [upd_ne c]
          exact s _ _ (keep e c)
      generalize upd G d (.frz od (.dK kvs)) = GL at lockd keep keptL back ⊢
      refine ⟨_, rfl, d, od, rfl, .inl ⟨kvs, lockd, fun D5 nD5 => ?_⟩⟩
      refine lc_it walk_keys (fun i G' => Same GL G' ∧ G' D5 = some (.lst (((wordsD.take i).filter fun w => decide (lotOf w = shareD x y)).map V.str))) ⟨same_new nD5, upd_same⟩ (fun i G' _ h => h.1 _ _ lockd) ?_ ?_
      · rintro i z G5 G6 hi ⟨s5, e5⟩ ⟨rfl, k, v, hkv, rfl⟩
        obtain ⟨wd, rfl, hwd⟩ := lots_key L hkv
        have mw := List.mem_of_getElem? hwd
        obtain ⟨l3, t3, v3, e3, p3⟩ := lots_get (List.contains_iff_mem.mpr mw) L
        refine ⟨rfl, ?_⟩
        refine ⟨_, rfl, _, rfl, d, .ref l3, rfl, .inl ⟨kvs, .inr wd, .inr ⟨od, s5 _ _ lockd⟩, rfl, v3.symm⟩, _, rfl, .list ((lotOf wd).map turnD), .list ((shareD x y).map turnD), .lst (SqL.of (s5 _ _ (keep e3 (nd (.inr e3))))) (dp_turns (paired_imp (fun _ _ e => SqT.of (s5 _ _ (keep e (nd (.inl e))))) p3)), .lst (SqL.of (s5 _ _ keptL)) (dp_turns (paired_imp (fun _ _ e => SqT.of (s5 _ _ (keep e (nd (.inl e))))) pk)), turnsL_shaped _, turnsL_shaped _, ?_⟩
        rw [turnsL_eqv]
        refine ⟨_, rfl, ?_⟩
        dsimp only
        have la : (List.map V.str ((wordsD.take i).filter fun w => decide (lotOf w = shareD x y))).length ≤ 6 := by
          rw [List.length_map]
          exact Nat.le_trans (List.length_filter_le ..) (Nat.le_trans (List.length_take_le' ..) (by decide))
        cases c : decide (lotOf wd = shareD x y) with
        | true => exact iteT ⟨_, rfl, _, e5, by rw [sizeLine_eq]; omega, same_put nD5 s5, by rw [upd_same, filter_take hwd, c, if_pos rfl, List.map_append]; rfl⟩
        | false => exact iteF ⟨s5, by rw [e5, filter_take hwd, c, if_neg (by decide), List.append_nil]⟩
      · rintro G5 ⟨s5, e5⟩
        rw [lots_size L, List.take_length] at e5
        refine ⟨s5 _ _ lockd, ?_⟩
        have n5 : D5 ≠ d := fun z => by
          rw [z, lockd] at nD5
          cases nD5
        refine ⟨D5, _, 0, .str _, rfl, rfl, SqL.of (by rw [upd_ne n5]; exact e5), atI_nat (j := 0) (by rw [List.getElem?_map, share_has x mx y my]; rfl), q _ (back s5)⟩
end
end L2.K4
set_option Elab.async false
set_option linter.all false
set_option maxRecDepth 100000
set_option maxHeartbeats 8000000
namespace L2.K4
open PySem PySem.Spec PyProof.Rows L2.Tb
abbrev s_product : Stmt := top 25
abbrev N_product : List Str := ["_law_lots_here", "_law_one", "_law_two", "_law_found", "_law_turn", "_law_again", "_law_a", "_law_b", "_law_word"]
theorem sc_product : FnScope N_product ["_law_lots_here", "_law_one", "_law_two"] (defScope s_product) := ⟨rfl, rfl, rfl, by decide +kernel, rfl, by decide +kernel, by decide +kernel⟩
def tI (u : Turn) : List Int := [u.1, u.2.1, u.2.2]
def addT (fs : List Turn) (t : Turn) : List Turn := if decide (t ∈ fs) = true then fs else fs ++ [t]
def roundB (a : Turn) (fs bs : List Turn) : List Turn := bs.foldl (fun g b => addT g (comp a b)) fs
def roundA (fs as : List Turn) : List Turn := as.foldl (fun g a => roundB a g g) fs
def prod0 (x y : Str) : List Turn := (lotOf x ++ lotOf y).foldl addT []
def prodR (x y : Str) : Nat → List Turn
  | 0 => prod0 x y
  | i + 1 => roundA (prodR x y i) (prodR x y i)
def prodW (x y : Str) : Str := (andD (x, false) (y, false)).1
theorem prod_perm : ∀ z ∈ wordsD, ∀ y ∈ wordsD, (prodR z y 2).isPerm (lotOf (prodW z y)) = true := by decide +kernel
theorem prod_in : ∀ z ∈ wordsD, ∀ y ∈ wordsD, prodW z y ∈ wordsD := by decide +kernel
theorem lots_sorted : ∀ z ∈ wordsD, ((lotOf z).map tI).Pairwise (fun a b => rk 10 a ≤ rk 10 b) := by decide +kernel
theorem lots_all : ∀ z ∈ wordsD, ∀ t ∈ lotOf z, t ∈ lotOf "all" := by decide +kernel
theorem comp_all : ∀ a ∈ lotOf "all", ∀ b ∈ lotOf "all", comp a b ∈ lotOf "all" := by decide +kernel
theorem wi_all : ∀ a ∈ lotOf "all", ∀ m ∈ tI a, -10 ≤ m ∧ m < 10 := by decide +kernel
theorem ok_all : ∀ a ∈ lotOf "all", okT a = true := by decide +kernel
theorem word_at : ∀ v ∈ wordsD, (wordsD.filter fun w => decide (lotOf w = lotOf v))[0]? = some v := by decide +kernel
structure Six (fs : List Turn) : Prop where
  sub : ∀ t ∈ fs, t ∈ lotOf "all"
  nd : fs.Nodup
theorem nd_len {α : Type} [DecidableEq α] : ∀ (fs m : List α), fs.Nodup → (∀ t ∈ fs, t ∈ m) → fs.length ≤ m.length
  | [], _, _, _ => Nat.zero_le _
  | x :: fs, m, nd, h => by
    have hx := h x (List.mem_cons_self ..)
    have nd := List.nodup_cons.mp nd
    have := nd_len fs (m.erase x) nd.2 (fun t ht => (List.mem_erase_of_ne (fun e : t = x => nd.1 (by rw [← e]; exact ht))).mpr (h t (List.mem_cons_of_mem _ ht)))
    rw [List.length_erase_of_mem hx] at this
    have l0 : 0 < m.length := List.length_pos_of_mem hx
    rw [List.length_cons]
    omega
theorem Six.len {fs : List Turn} (h : Six fs) : fs.length ≤ 6 := by
  have := nd_len fs _ h.nd h.sub
  rw [all_six] at this
  exact this
theorem Six.add {fs : List Turn} (h : Six fs) {t : Turn} (ht : t ∈ lotOf "all") : Six (addT fs t) := by
  unfold addT
  by_cases c : t ∈ fs
  · rw [if_pos (decide_eq_true c)]
    exact h
  · rw [if_neg (by simpa using c)]
    refine ⟨fun u hu => ?_, ?_⟩
    · rcases List.mem_append.mp hu with hu | hu
      · exact h.sub u hu
      · rw [List.mem_singleton.mp hu]
        exact ht
    · refine List.nodup_append.mpr ⟨h.nd, List.nodup_cons.mpr ⟨List.not_mem_nil, List.nodup_nil⟩, fun a ha b hb => ?_⟩
      rw [List.mem_singleton.mp hb]
      exact fun e => c (e ▸ ha)
theorem Six.addAll {us : List Turn} : ∀ {fs : List Turn}, Six fs → (∀ t ∈ us, t ∈ lotOf "all") → Six (us.foldl addT fs) := by
  induction us with
  | nil => exact fun h _ => h
  | cons u us ih => exact fun h hu => ih (h.add (hu u (List.mem_cons_self ..))) fun t ht => hu t (List.mem_cons_of_mem _ ht)
theorem Six.b {a : Turn} (ha : a ∈ lotOf "all") {bs : List Turn} : ∀ {fs : List Turn}, Six fs → (∀ t ∈ bs, t ∈ lotOf "all") → Six (roundB a fs bs) := by
  unfold roundB
  induction bs with
  | nil => exact fun h _ => h
  | cons u us ih => exact fun h hu => ih (h.add (comp_all a ha u (hu u (List.mem_cons_self ..)))) fun t ht => hu t (List.mem_cons_of_mem _ ht)
theorem Six.a {as : List Turn} : ∀ {fs : List Turn}, Six fs → (∀ t ∈ as, t ∈ lotOf "all") → Six (roundA fs as) := by
  unfold roundA
  induction as with
  | nil => exact fun h _ => h
  | cons u us ih => exact fun h hu => ih (h.b (hu u (List.mem_cons_self ..)) h.sub) fun t ht => hu t (List.mem_cons_of_mem _ ht)
theorem foldl_take {α β : Type} (g : β → α → β) (b : β) {xs : List α} {i : Nat} {x : α} (h : xs[i]? = some x) : (xs.take (i + 1)).foldl g b = g ((xs.take i).foldl g b) x := by
  rw [List.take_add_one, h, List.foldl_append]
  rfl
theorem prodR_six {x y : Str} (hx : x ∈ wordsD) (hy : y ∈ wordsD) : ∀ i, Six (prodR x y i)
  | 0 => Six.addAll ⟨fun _ h => (List.not_mem_nil h).elim, List.nodup_nil⟩ fun t ht => by
    rcases List.mem_append.mp ht with ht | ht
    · exact lots_all x hx t ht
    · exact lots_all y hy t ht
  | i + 1 => (prodR_six hx hy i).a (prodR_six hx hy i).sub
theorem sorted_one : ∀ {L M : List (List Int)}, L.Perm M → (∀ a ∈ M, a.length = 3 ∧ Wi 10 a) → L.Pairwise (fun a b => rk 10 a ≤ rk 10 b) → M.Pairwise (fun a b => rk 10 a ≤ rk 10 b) → L = M
  | [], M, p, _, _, _ => by rw [p.nil_eq]
  | a :: L, [], p, _, _, _ => by cases p.length_eq
  | a :: L, b :: M, p, hM, h1, h2 => by
    have p1 := List.pairwise_cons.mp h1
    have p2 := List.pairwise_cons.mp h2
    have ma : a ∈ b :: M := p.mem_iff.mp (List.mem_cons_self ..)
    have mb : b ∈ a :: L := p.mem_iff.mpr (List.mem_cons_self ..)
    have e : a = b := by
      rcases List.mem_cons.mp ma with e | m1
      · exact e
      rcases List.mem_cons.mp mb with e | m2
      · exact e.symm
      obtain ⟨l1, w1⟩ := hM a ma
      obtain ⟨l2, w2⟩ := hM b (List.mem_cons_self ..)
      exact rk_inj (l1.trans l2.symm) w1 w2 (Int.le_antisymm (p1.1 b m2) (p2.1 a m1))
    subst e
    rw [sorted_one ((List.perm_cons a).mp p) (fun c hc => hM c (List.mem_cons_of_mem _ hc)) p1.2 p2.2]
theorem paired_of {R : Addr → List Int → Prop} : ∀ {L : List (Addr × List Int)} {us : List Turn}, L.map (·.2) = us.map tI → (∀ q ∈ L, R q.1 q.2) → Paired (fun t u => R t (tI u)) (L.map (·.1)) us
  | [], [], _, _ => .nil
  | [], u :: us, e, _ => by cases e
  | q :: L, [], e, _ => by cases e
  | q :: L, u :: us, e, h => by
    injection e with e1 e2
    refine .cons ?_ (paired_of e2 fun q' hq => h q' (List.mem_cons_of_mem _ hq))
    rw [← e1]
    exact h q (List.mem_cons_self ..)
theorem zip_of {R : Addr → Turn → Prop} : ∀ {ks : List Addr} {us : List Turn}, Paired R ks us → ∃ L : List (Addr × List Int), L.map (fun p => V.ref p.1) = ks.map V.ref ∧ L.map (·.2) = us.map tI ∧ ∀ q ∈ L, ∃ u ∈ us, q.2 = tI u ∧ R q.1 u
  | _, _, .nil => ⟨[], rfl, rfl, fun _ h => (List.not_mem_nil h).elim⟩
  | _, _, .cons (a := k) (b := u) r t => by
    obtain ⟨L, e1, e2, h⟩ := zip_of t
    refine ⟨(k, tI u) :: L, by rw [List.map_cons, List.map_cons, e1], by rw [List.map_cons, List.map_cons, e2], fun q hq => ?_⟩
    rcases List.mem_cons.mp hq with rfl | hq
    · exact ⟨u, List.mem_cons_self .., rfl, r⟩
    · obtain ⟨v, mv, e, r'⟩ := h q hq
      exact ⟨v, List.mem_cons_of_mem _ mv, e, r'⟩
/-- turns found so far -/
structure FoundAt (G : Hp) (D : Addr) (fs : List Turn) : Prop where
  ex : ∃ ks : List Addr, G D = some (.lst (ks.map V.ref)) ∧ Paired (fun t u => G t = some (.tup (turnV u))) ks fs
theorem FoundAt.same {G G' : Hp} {D : Addr} {fs : List Turn} (h : FoundAt G D fs) (s : Same G G') : FoundAt G' D fs := by
  obtain ⟨ks, a, b⟩ := h.ex
  exact ⟨ks, s _ _ a, paired_imp (fun _ _ e => s _ _ e) b⟩
theorem FoundAt.add {G : Hp} {D t : Addr} {fs : List Turn} {ks : List Addr} {u : Turn} (a : G D = some (.lst (ks.map V.ref))) (b : Paired (fun t u => G t = some (.tup (turnV u))) ks fs) (ht : G t = some (.tup (turnV u))) (c : decide (u ∈ fs) = false) :
    FoundAt (upd G D (.lst (ks.map V.ref ++ [.ref t]))) D (addT fs u) := by
  have up : ∀ {b : Addr} {xs : List V}, G b = some (.tup xs) → upd G D (.lst (ks.map V.ref ++ [.ref t])) b = some (.tup xs) := fun {b xs} e => by
    rw [upd_ne (fun z => by rw [z, a] at e; cases e)]
    exact e
  refine ⟨ks ++ [t], by rw [upd_same, List.map_append]; rfl, ?_⟩
  unfold addT
  rw [c, if_neg (by decide)]
  exact paired_app (paired_imp (fun _ _ e => up e) b) (.cons (up ht) .nil)
def spProduct : Sp := fun vs H Q _ => ∃ (d : Addr) (kvs : List (Key × V)) (x y : Str), vs = [.ref d, .str x, .str y] ∧ H d = some (.dK kvs) ∧ LotsAt H kvs ∧ x ∈ wordsD ∧ y ∈ wordsD ∧ ∀ H', Same H H' → Q (.str (prodW x y)) H'
section
variable {P : Program} {w : World} {K : PySem.W.Frag} {mg : Str → Option Value} {base : Heap} {f : Addr} {fd : FuncData}
/-- if it isn't among them it is appended -/
theorem add_go {D : Addr} {fs : List Turn} {G : Hp} {σ : St} {u : Turn} {t : Addr} {En : Ends} (hD : FoundAt G D fs) (h6 : fs.length ≤ 6) (h4 : σ[4]? = some (some (.ref t))) (h3 : σ[3]? = some (some (.ref D))) (ht : G t = some (.tup (turnV u)))
    (q : ∀ G', FoundAt G' D (addT fs u) → SameB D G G' → En.nx σ G') :
    tIfS (tTest (tOp (rNotInD K) (tVar 4) (tVar 3))) (tDrop (tBM K "list" rAppend (tVar 3) (tCons (tVar 4) tNil))) tNext En σ G := by
  obtain ⟨ks, ek, pk⟩ := hD.ex
  refine ⟨_, h4, _, h3, turnD u, fs.map turnD, dp_turn (SqT.of ht), .lst (SqL.of ek) (dp_turns (paired_imp (fun _ _ e => SqT.of e) pk)), turn_shaped u, turnsL_shaped _, ?_⟩
  rw [turns_any]
  refine ⟨_, rfl, ?_⟩
  dsimp only
  cases c : decide (u ∈ fs) with
  | true =>
    refine iteF (q G ?_ (SameB.refl _ _))
    unfold addT
    rw [if_pos c]
    exact hD
  | false =>
    refine iteT ⟨_, h3, .inl ⟨rfl, _, SqL.of ek⟩, _, h4, D, _, _, rfl, rfl, ek, by rw [List.length_map, paired_len pk, sizeLine_eq]; omega, ?_⟩
    exact q _ (FoundAt.add ek pk ht c) SameB.set
theorem c_product (T : Bt mg) (F : FnP K "_law_product" s_product f fd) (hm : mg "_law_product" = some (.ref f)) : Cal P w K mg base 1 "_law_product" spProduct := by
  have hnd := sc_product.nd
  refine cal_mk F hm sc_product (fun _ _ _ _ _ _ us hl => match us, hl with | [_, _, _], _ => rfl) (fun vs H Q E h => ?_) (fun cdv A outer s H vs Q E hr h => ?_)
  · obtain ⟨d, kvs, x, y, rfl, _⟩ := h
    rfl
  · obtain ⟨d, kvs, x, y, rfl, ed, L, mx, my, q⟩ := h
    have hu65 : (A.deeper (envOfC "_law_product" (defScope s_product) s.heap.objs.size f cdv)).units + 65 < cLine := by
      have := hr.un
      omega
    refine ⟨_, (pss_cons (ps_set (i := 3) hnd rfl (by first | exact Or.inl rfl | exact Or.inr rfl) (pe_lst pa_nil))
      (pss_cons (ps_for PassesOwn.never (by rfl) (pi_list (pe_op op_cat (pe_dget (Nat.lt_of_le_of_lt (Nat.add_le_add_left (by decide) _) hr.units) (pv 0) (pv 1) (fun _ _ => rfl)) (pe_dget (Nat.lt_of_le_of_lt (Nat.add_le_add_left (by decide) _) hr.units) (pv 0) (pv 2) (fun _ _ => rfl)))) (pg_name (i := 4) hnd rfl (by first | exact Or.inl rfl | exact Or.inr rfl))
      (pss_one (ps_if (pt_cmpR (op_notInD hu65) (pv 4) (pv 3) (by rfl))
      (pss_one (ps_expr (pe_bm PySem.F.plainAttrs_list PySem.F.slot_list_append PySem.F.type_list_append mt_append (pv 3) (pa_cons (pv 4) pa_nil))))
      pss_nil)))
      (pss_cons (ps_for PassesOwn.never (by rfl) (pi_range1 (by rfl) T.m_range (pa_cons pe_int pa_nil)) (pg_name (i := 5) hnd rfl (by first | exact Or.inl rfl | exact Or.inr rfl))
      (pss_one (ps_for PassesOwn.never (by rfl) (pi_list (pe_callTy call_list_of (by rfl) T.m_list (by decide +kernel) (pa_cons (pv 3) pa_nil))) (pg_name (i := 6) hnd rfl (by first | exact Or.inl rfl | exact Or.inr rfl))
      (pss_one (ps_for PassesOwn.never (by rfl) (pi_list (pe_callTy call_list_of (by rfl) T.m_list (by decide +kernel) (pa_cons (pv 3) pa_nil))) (pg_name (i := 7) hnd rfl (by first | exact Or.inl rfl | exact Or.inr rfl))
      (pss_cons (ps_set (i := 4) hnd rfl (by first | exact Or.inl rfl | exact Or.inr rfl) (pe_tup (pa_cons (pe_ix ix_tup (pv 6) (pe_ix ix_tup (pv 7) pe_int (fun _ _ => rfl)) (fun _ _ => rfl)) (pa_cons (pe_ix ix_tup (pv 6) (pe_ix ix_tup (pv 7) pe_int (fun _ _ => rfl)) (fun _ _ => rfl)) (pa_cons (pe_ix ix_tup (pv 6) (pe_ix ix_tup (pv 7) pe_int (fun _ _ => rfl)) (fun _ _ => rfl)) pa_nil)))))
      (pss_one (ps_if (pt_cmpR (op_notInD hu65) (pv 4) (pv 3) (by rfl))
      (pss_one (ps_expr (pe_bm PySem.F.plainAttrs_list PySem.F.slot_list_append PySem.F.type_list_append mt_append (pv 3) (pa_cons (pv 4) pa_nil))))
      pss_nil))))))))
      (pss_cons (ps_set (i := 3) hnd rfl (by first | exact Or.inl rfl | exact Or.inr rfl) (pe_callB (cr_sortW (d := 3) (B := 10) (by decide)) (by rfl) T.m_sorted (by decide +kernel) (pa_cons (pv 3) pa_nil)))
      (pss_one (ps_ret (pe_ix ix_list (pe_lock (pe_lc (own := [("_law_word", 8)]) (by rfl) hnd (pi_keys (pv 0)) (blkOk_by (own := [("_law_word", 8)]) (N := N_product) (sc := defScope s_product) (by decide +kernel)) (fun _ _ _ _ _ => (pg_name (i := 8) hnd rfl (by first | exact Or.inl rfl | exact Or.inr rfl))) (fun _ _ _ _ _ => (pts_one (pt_cmpR (show OpR _ (compareOp .Eq) (rEqD K) from op_eqD hr.units) (pe_dget (Nat.lt_of_le_of_lt (Nat.add_le_add_left (by decide) _) hr.units) (pv 0) (pv 8) (fun _ _ => rfl)) (pv 3) (nomark _)))) (fun _ _ _ _ _ => (pv 8)))) pe_int (fun _ _ => rfl)))))))), ?_⟩
    obtain ⟨l1, t1, v1, e1, p1⟩ := lots_get (List.contains_iff_mem.mpr mx) L
    obtain ⟨l2, t2, v2, e2, p2⟩ := lots_get (List.contains_iff_mem.mpr my) L
    have lx := lots_len x mx
    have ly := lots_len y my
    have lt1 := paired_len p1
    have lt2 := paired_len p2
    refine ⟨Nat.zero_le _, fun D nD => ?_⟩
    refine gname_go ?_
    dsimp only
    have s0 := same_new (o := .lst []) nD
    have e0 := upd_same (H := H) (a := D) (o := .lst [])
    generalize upd H D (.lst []) = H0 at s0 e0 ⊢
    have g1 : DGet H0 d (.str x) (some (.ref l1)) := by
      have z := DGet.k (k := .inr x) (s0 _ _ ed)
      rw [v1] at z
      exact z
    have g2 : DGet H0 d (.str y) (some (.ref l2)) := by
      have z := DGet.k (k := .inr y) (s0 _ _ ed)
      rw [v2] at z
      exact z
    refine ⟨_, rfl, _, rfl, d, .ref l1, rfl, g1, _, rfl, _, rfl, d, .ref l2, rfl, g2, l1, l2, _, _, rfl, rfl, s0 _ _ e1, s0 _ _ e2, by rw [List.length_map, List.length_map, sizeLine_eq]; omega, fun c nc => ?_⟩
    have s1 := same_new (o := .lst (t1.map V.ref ++ t2.map V.ref)) nc
    have ec := upd_same (H := H0) (a := c) (o := .lst (t1.map V.ref ++ t2.map V.ref))
    have hcD : c ≠ D := fun z => by
      rw [z, e0] at nc
      cases nc
    generalize upd H0 c (.lst (t1.map V.ref ++ t2.map V.ref)) = H1 at s1 ec ⊢
    have es : (t1.map V.ref ++ t2.map V.ref) = (t1 ++ t2).map V.ref := List.map_append.symm
    have pu : Paired (fun t u => H1 t = some (.tup (turnV u))) (t1 ++ t2) (lotOf x ++ lotOf y) := paired_app (paired_imp (fun _ _ e => s1 _ _ (s0 _ _ e)) p1) (paired_imp (fun _ _ e => s1 _ _ (s0 _ _ e)) p2)
    have tD : ∀ {b : Addr} {xs : List V}, H1 b = some (.tup xs) → b ≠ D := fun {b xs} e z => by
      rw [z, s1 _ _ e0] at e
      cases e
    have m12 : ∀ t ∈ lotOf x ++ lotOf y, t ∈ lotOf "all" := fun t ht => by
      rcases List.mem_append.mp ht with ht | ht
      · exact lots_all x mx t ht
      · exact lots_all y my t ht
    have six0 : Six [] := ⟨fun _ h => (List.not_mem_nil h).elim, List.nodup_nil⟩
    refine ⟨c, rfl, ⟨_, SqL.of ec⟩, ?_⟩
    rw [es] at ec
    refine for_list (xs := (t1 ++ t2).map V.ref) (fun i σ' G => FoundAt G D (((lotOf x ++ lotOf y).take i).foldl addT []) ∧ SameB D H1 G ∧ ∃ x4, σ' = [some (.ref d), some (.str x), some (.str y), some (.ref D), x4, none, none, none, none])
      ⟨⟨[], s1 _ _ e0, .nil⟩, SameB.refl _ _, none, rfl⟩ (fun i σ' G _ h => SqL.of (h.2.1 _ _ hcD ec)) ?_ ?_
    · rintro i z σ' G hz ⟨fo, sb, x4, rfl⟩
      obtain ⟨ti, et, rfl⟩ : ∃ t, (t1 ++ t2)[i]? = some t ∧ z = .ref t := by
        rw [List.getElem?_map] at hz
        obtain ⟨t, e1, e2⟩ := Option.map_eq_some_iff.mp hz
        exact ⟨t, e1, e2.symm⟩
      obtain ⟨u, eu, su⟩ := paired_nth pu et
      refine gname_go ?_
      dsimp only
      refine add_go fo (Six.addAll six0 fun t ht => m12 t (List.mem_of_mem_take ht)).len rfl rfl (sb _ _ (tD su) su) fun G' fo' sb' => ⟨?_, sb.trans sb', _, rfl⟩
      rw [foldl_take _ _ eu]
      exact fo'
    · rintro σ' G ⟨fo, sb, x4, rfl⟩
      rw [List.length_map, paired_len pu, List.take_length] at fo
      refine ⟨2, rfl, by decide, by decide, for_range (n := 2) (fun i σ' G => FoundAt G D (prodR x y i) ∧ SameB D H1 G ∧ ∃ x4 x5 x6 x7, σ' = [some (.ref d), some (.str x), some (.str y), some (.ref D), x4, x5, x6, x7, none]) ⟨fo, sb, _, _, _, _, rfl⟩ ?_ ?_⟩
      · rintro i σ' G _ ⟨fo, sb, x4, x5, x6, x7, rfl⟩
        have six := prodR_six mx my i
        refine gname_go ?_
        dsimp only
        show tFor _ _ _ _ _ _
        obtain ⟨ks, ek, pk⟩ := fo.ex
        refine ⟨_, rfl, D, _, rfl, .inl (SqL.of ek), fun l nl => ?_⟩
        have s2 := same_new (o := .lst (ks.map V.ref)) nl
        have el := upd_same (H := G) (a := l) (o := .lst (ks.map V.ref))
        have hlD : l ≠ D := fun z => by
          rw [z, ek] at nl
          cases nl
        generalize upd G l (.lst (ks.map V.ref)) = G1 at s2 el ⊢
        have tD1 : ∀ {b : Addr} {xs : List V}, G1 b = some (.tup xs) → b ≠ D := fun {b xs} e z => by
          rw [z, s2 _ _ ek] at e
          cases e
        have pk1 := paired_imp (fun _ _ e => s2 _ _ e) pk
        refine ⟨l, rfl, ⟨_, SqL.of el⟩, ?_⟩
        refine for_list (xs := ks.map V.ref) (fun j σ' G' => FoundAt G' D (roundA (prodR x y i) ((prodR x y i).take j)) ∧ SameB D G1 G' ∧ ∃ x4 x6 x7, σ' = [some (.ref d), some (.str x), some (.str y), some (.ref D), x4, some (.int (0 + (i : Int))), x6, x7, none])
          ⟨fo.same s2, SameB.refl _ _, _, _, _, rfl⟩ (fun j σ' G' _ h => SqL.of (h.2.1 _ _ hlD el)) ?_ ?_
        · rintro j z σ' G2 hz ⟨fo2, sb2, x4, x6, x7, rfl⟩
          obtain ⟨ta, eta, rfl⟩ : ∃ t, ks[j]? = some t ∧ z = .ref t := by
            rw [List.getElem?_map] at hz
            obtain ⟨t, e1, e2⟩ := Option.map_eq_some_iff.mp hz
            exact ⟨t, e1, e2.symm⟩
          obtain ⟨a, ea, sa⟩ := paired_nth pk1 eta
          have ma := six.sub a (List.mem_of_getElem? ea)
          have six2 : Six (roundA (prodR x y i) ((prodR x y i).take j)) := six.a fun t ht => six.sub t (List.mem_of_mem_take ht)
          have fin2 : roundA (prodR x y i) ((prodR x y i).take (j + 1)) = roundB a (roundA (prodR x y i) ((prodR x y i).take j)) (roundA (prodR x y i) ((prodR x y i).take j)) := foldl_take _ _ ea
          rw [fin2]
          generalize roundA (prodR x y i) ((prodR x y i).take j) = g at six2 fo2 ⊢
          have ha2 := sb2 _ _ (tD1 sa) sa
          refine gname_go ?_
          dsimp only
          show tFor _ _ _ _ _ _
          obtain ⟨kb, ekb, pkb⟩ := fo2.ex
          refine ⟨_, rfl, D, _, rfl, .inl (SqL.of ekb), fun m nm => ?_⟩
          have s3 := same_new (o := .lst (kb.map V.ref)) nm
          have em := upd_same (H := G2) (a := m) (o := .lst (kb.map V.ref))
          have hmD : m ≠ D := fun z => by
            rw [z, ekb] at nm
            cases nm
          generalize upd G2 m (.lst (kb.map V.ref)) = G3 at s3 em ⊢
          have tD3 : ∀ {b : Addr} {xs : List V}, G3 b = some (.tup xs) → b ≠ D := fun {b xs} e z => by
            rw [z, s3 _ _ ekb] at e
            cases e
          have pkb1 := paired_imp (fun _ _ e => s3 _ _ e) pkb
          have ha3 := s3 _ _ ha2
          refine ⟨m, rfl, ⟨_, SqL.of em⟩, ?_⟩
          refine for_list (xs := kb.map V.ref) (fun k σ' G' => FoundAt G' D (roundB a g (g.take k)) ∧ SameB D G3 G' ∧ ∃ x4 x7, σ' = [some (.ref d), some (.str x), some (.str y), some (.ref D), x4, some (.int (0 + (i : Int))), some (.ref ta), x7, none])
            ⟨fo2.same s3, SameB.refl _ _, _, _, rfl⟩ (fun k σ' G' _ h => SqL.of (h.2.1 _ _ hmD em)) ?_ ?_
          · rintro k z σ' G4 hz ⟨fo4, sb4, x4, x7, rfl⟩
            obtain ⟨tb, etb, rfl⟩ : ∃ t, kb[k]? = some t ∧ z = .ref t := by
              rw [List.getElem?_map] at hz
              obtain ⟨t, e1, e2⟩ := Option.map_eq_some_iff.mp hz
              exact ⟨t, e1, e2.symm⟩
            obtain ⟨b, eb, sbt⟩ := paired_nth pkb1 etb
            have mb := six2.sub b (List.mem_of_getElem? eb)
            have ok := ok_all b mb
            obtain ⟨o1, o2⟩ := He.ba ok
            obtain ⟨o2, o3⟩ := He.ba o2
            have hb4 := sb4 _ _ (tD3 sbt) sbt
            have ha4 := sb4 _ _ (tD3 ha3) ha3
            have six4 : Six (roundB a g (g.take k)) := six2.b ma fun t ht => six2.sub t (List.mem_of_mem_take ht)
            rw [show roundB a g (g.take (k + 1)) = addT (roundB a g (g.take k)) (comp a b) from foldl_take _ _ eb]
            refine gname_go ?_
            dsimp only
            refine ⟨_, rfl, _, rfl, tb, _, 0, .int b.1, rfl, rfl, SqT.of hb4, rfl, ta, _, _, _, rfl, rfl, SqT.of ha4, tat_at (t := tI a) rfl o1, _, rfl, _, rfl, tb, _, 1, .int b.2.1, rfl, rfl, SqT.of hb4, rfl, ta, _, _, _, rfl, rfl, SqT.of ha4, tat_at (t := tI a) rfl o2, _, rfl, _, rfl, tb, _, 2, .int b.2.2, rfl, rfl, SqT.of hb4, rfl, ta, _, _, _, rfl, rfl, SqT.of ha4, tat_at (t := tI a) rfl o3, Nat.le_of_ble_eq_true rfl, fun t nt => ?_⟩
            have s5 := same_new (o := .tup (turnV (comp a b))) nt
            have e5 := upd_same (H := G4) (a := t) (o := .tup (turnV (comp a b)))
            refine gname_go ?_
            dsimp only
            show tIfS _ _ _ _ _ (upd G4 t (.tup (turnV (comp a b))))
            generalize upd G4 t (.tup (turnV (comp a b))) = G5 at s5 e5 ⊢
            exact add_go (fo4.same s5) six4.len rfl rfl e5 fun G' fo' sb' => ⟨fo', (sb4.trans (SameB.of s5)).trans sb', _, _, rfl⟩
          · rintro σ' G4 ⟨fo4, sb4, x4, x7, rfl⟩
            rw [List.length_map, paired_len pkb, List.take_length] at fo4
            exact ⟨fo4, (sb2.trans (SameB.of s3)).trans sb4, _, _, _, rfl⟩
        · rintro σ' G2 ⟨fo2, sb2, x4, x6, x7, rfl⟩
          rw [List.length_map, paired_len pk, List.take_length] at fo2
          exact ⟨fo2, (sb.trans (SameB.of s2)).trans sb2, _, _, _, _, rfl⟩
      · rintro σ' G ⟨fo, sb, x4, x5, x6, x7, rfl⟩
        have six := prodR_six mx my 2
        obtain ⟨ks, ek, pk⟩ := fo.ex
        obtain ⟨Z, z1, z2, z3⟩ := zip_of pk
        have lz : Z.length = (prodR x y 2).length := by simpa using congrArg List.length z2
        have l6 := six.len
        refine ⟨_, rfl, D, Z, rfl, SqL.of (by rw [ek, z1]), by omega, fun q hq => ?_, fun M p pm pw np => ?_⟩
        · obtain ⟨u, mu, eu, ru⟩ := z3 q hq
          refine ⟨?_, by rw [eu]; rfl, ?_⟩
          · rw [eu]
            exact SqT.of ru
          · rw [eu]
            exact wi_all u (six.sub u mu)
        refine gname_go ?_
        dsimp only
        have mw := prod_in x mx y my
        have same_ : M.map (·.2) = (lotOf (prodW x y)).map tI := by
          refine sorted_one ((pm.map _).trans ?_) (fun a ha => ?_) (List.pairwise_map.mpr pw) (lots_sorted _ mw)
          · rw [z2]
            exact (List.isPerm_iff.mp (prod_perm x mx y my)).map _
          · obtain ⟨u, mu, rfl⟩ := List.mem_map.mp ha
            exact ⟨rfl, wi_all u (lots_all _ mw u mu)⟩
        have pM : Paired (fun t u => G t = some (.tup (turnV u))) (M.map (·.1)) (lotOf (prodW x y)) := paired_of (R := fun t ns => G t = some (.tup (ns.map V.int))) same_ fun q hq => by
          obtain ⟨u, mu, eu, ru⟩ := z3 q (pm.mem_iff.mp hq)
          rw [eu]
          exact ru
        have s2 := same_new (o := .lst (M.map fun q => V.ref q.1)) np
        have e2' := upd_same (H := G) (a := p) (o := .lst (M.map fun q => V.ref q.1))
        generalize upd G p (.lst (M.map fun q => V.ref q.1)) = G2 at s2 e2' ⊢
        have keepH : Same H G2 := fun b o e => s2 _ _ (sb _ _ (ne_of_none e nD) (s1 _ _ (s0 _ _ e)))
        have ed2 := keepH _ _ ed
        have pM2 := paired_imp (fun _ _ e => s2 _ _ e) pM
        refine ⟨d, .dK kvs, ed2, trivial, fun od => ?_⟩
        have lockd := upd_same (H := G2) (a := d) (o := .frz od (.dK kvs))
        have keep : ∀ {b : Addr} {o : HO}, G2 b = some o → b ≠ d → upd G2 d (.frz od (.dK kvs)) b = some o := fun {b o} e n => by
          rw [upd_ne n]
          exact e
        have nd : ∀ {b : Addr} {xs : List V}, G2 b = some (.tup xs) ∨ G2 b = some (.lst xs) → b ≠ d := fun {b xs} e z => by
          rw [z, ed2] at e
          rcases e with e | e <;> cases e
        have keptL := keep e2' (nd (.inr e2'))
        have back : ∀ {G' : Hp}, Same (upd G2 d (.frz od (.dK kvs))) G' → Same H (upd G' d (.dK kvs)) := fun {G'} s b o e => by
          by_cases c : b = d
          · subst c
            rw [ed] at e
            rw [upd_same]
            exact e
          · rw [upd_ne c]
            exact s _ _ (keep (keepH _ _ e) c)
        generalize upd G2 d (.frz od (.dK kvs)) = GL at lockd keep keptL back ⊢
        refine ⟨_, rfl, d, od, rfl, .inl ⟨kvs, lockd, fun D5 nD5 => ?_⟩⟩
        refine lc_it walk_keys (fun i G' => Same GL G' ∧ G' D5 = some (.lst (((wordsD.take i).filter fun w => decide (lotOf w = lotOf (prodW x y))).map V.str))) ⟨same_new nD5, upd_same⟩ (fun i G' _ h => h.1 _ _ lockd) ?_ ?_
        · rintro i z G5 G6 hi ⟨s5, e5⟩ ⟨rfl, k, v, hkv, rfl⟩
          obtain ⟨wd, rfl, hwd⟩ := lots_key L hkv
          have mw2 := List.mem_of_getElem? hwd
          obtain ⟨l3, t3, v3, e3, p3⟩ := lots_get (List.contains_iff_mem.mpr mw2) L
          refine ⟨rfl, ?_⟩
          refine ⟨_, rfl, _, rfl, d, .ref l3, rfl, .inl ⟨kvs, .inr wd, .inr ⟨od, s5 _ _ lockd⟩, rfl, v3.symm⟩, _, rfl, .list ((lotOf wd).map turnD), .list ((lotOf (prodW x y)).map turnD), .lst (SqL.of (s5 _ _ (keep (keepH _ _ e3) (nd (.inr (keepH _ _ e3)))))) (dp_turns (paired_imp (fun _ _ e => SqT.of (s5 _ _ (keep (keepH _ _ e) (nd (.inl (keepH _ _ e)))))) p3)), .lst (SqL.of (by rw [s5 _ _ keptL, List.map_map]; rfl)) (dp_turns (paired_imp (fun _ _ e => SqT.of (s5 _ _ (keep e (nd (.inl e))))) pM2)), turnsL_shaped _, turnsL_shaped _, ?_⟩
          rw [turnsL_eqv]
          refine ⟨_, rfl, ?_⟩
          dsimp only
          have la : (List.map V.str ((wordsD.take i).filter fun w => decide (lotOf w = lotOf (prodW x y)))).length ≤ 6 := by
            rw [List.length_map]
            exact Nat.le_trans (List.length_filter_le ..) (Nat.le_trans (List.length_take_le' ..) (by decide))
          cases c : decide (lotOf wd = lotOf (prodW x y)) with
          | true => exact iteT ⟨_, rfl, _, e5, by rw [sizeLine_eq]; omega, same_put nD5 s5, by rw [upd_same, filter_take hwd, c, if_pos rfl, List.map_append]; rfl⟩
          | false => exact iteF ⟨s5, by rw [e5, filter_take hwd, c, if_neg (by decide), List.append_nil]⟩
        · rintro G5 ⟨s5, e5⟩
          rw [lots_size L, List.take_length] at e5
          refine ⟨s5 _ _ lockd, ?_⟩
          have n5 : D5 ≠ d := fun z => by
            rw [z, lockd] at nD5
            cases nD5
          refine ⟨D5, _, 0, .str _, rfl, rfl, SqL.of (by rw [upd_ne n5]; exact e5), atI_nat (j := 0) (by rw [List.getElem?_map, word_at _ mw]; rfl), q _ (back s5)⟩
end
end L2.K4
set_option Elab.async false
set_option linter.all false
set_option maxRecDepth 100000
set_option maxHeartbeats 8000000
namespace L2.K4
open PySem PySem.Spec PyProof.Rows L2.Tb
abbrev s_pair_right : Stmt := top 27
abbrev N_pair_right : List Str := ["_law_lots_here", "_law_one", "_law_two", "_law_mine", "_law_mate", "_law_turn", "_law_inside", "_law_both", "_law_either", "_law_due", "_law_pair"]
theorem sc_pair_right : FnScope N_pair_right ["_law_lots_here", "_law_one", "_law_two"] (defScope s_pair_right) := ⟨rfl, rfl, rfl, by decide +kernel, rfl, by decide +kernel, by decide +kernel⟩
abbrev kps : List Str := ["self", "turns", "calm"]
/-- all that the head says of Kind, as it is called -/
structure KiP (P : Program) (w : World) (K : PySem.W.Frag) (mg : Str → Option Value) (base : Heap) (C dL CT CF CX CN : Addr) (es : Array DictEntry) (n : Nat) : Prop where
  mstr : mg "str" = none
  kf : KiF P w K mg base C dL CT CF es n
  kg : KiG K w mg C dL
  mkr : ∃ fi fdi, Mk K C fi ∧ FnOk P w K mg base (L2.CX P w) 3 fi fdi kps (spKinit K C CT CF) ∧ KBn K fdi kps 2 ["calm"] (fun us ws => us ++ ws) (fun us ws => us ++ ws)
  str : ∃ f fd, PySem.W.findIn K (.ref C) "__str__" = some (some (.ref f)) ∧ PySem.W.isFn K (.ref f) = true ∧ FnOk P w K mg base L2.CX0 1 f fd ["self"] (spKstr C) ∧ Binds K fd ["self"] []
  wi : ∃ g fd, Meth K C "within" g ∧ FnOk P w K mg base (L2.CX P w) 5 g fd ["self", "other"] (spK2 K C CN gWithin) ∧ Binds K fd ["self", "other"] [] ∧
    ∀ (sh : Shared) (a : Addr) (zs : List Value), zs.length = (["other"] : List Str).length → BindsTo sh fd ⟨[.ref a], (["other"] : List Str).zip zs⟩ ((["self", "other"] : List Str).zip (Value.ref a :: zs))
  sf : PySem.W.selfFirst K C = true
  an : ∃ f fd, PySem.W.findIn K (.ref C) "__and__" = some (some (.ref f)) ∧ PySem.W.isFn K (.ref f) = true ∧ FnOk P w K mg base (L2.CX P w) 5 f fd ["self", "other"] (spK2 K C CN (gNew C andD)) ∧ Binds K fd ["self", "other"] []
  or_ : ∃ f fd, PySem.W.findIn K (.ref C) "__or__" = some (some (.ref f)) ∧ PySem.W.isFn K (.ref f) = true ∧ FnOk P w K mg base (L2.CX P w) 5 f fd ["self", "other"] (spK2 K C CN (gNew C orD)) ∧ Binds K fd ["self", "other"] []
  rand : PySem.W.findIn K (.ref C) "__rand__" = some none
  ror : PySem.W.findIn K (.ref C) "__ror__" = some none
  rd : ∃ mc p g fd, ClX.CRead K C mc ∧ ClX.CMet K C mc "read" p g ∧ FnOk P w K mg base (L2.CX P w) 5 g fd ["cls", "text"] (spKread K C CX) ∧ FnR P w K mg base (L2.CX P w) 5 g (spKread K C CX)
def spPairRight : Sp := fun vs H Q _ => ∃ (d : Addr) (kvs : List (Key × V)) (t1 t2 : Addr) (x y : Str × Bool), vs = [.ref d, .ref t1, .ref t2] ∧ H d = some (.dK kvs) ∧ LotsAt H kvs ∧ PairAt H t1 x ∧ PairAt H t2 y ∧ x ∈ pairD ∧ y ∈ pairD ∧ ∀ H', Same H H' → Q (.bl true) H'
theorem share_or : ∀ z ∈ wordsD, ∀ y ∈ wordsD, (wordsD.filter fun w => decide (lotOf w = shareD z y)).headD "" = (orD (z, false) (y, false)).1 := by decide +kernel
theorem or_in_words : ∀ z ∈ wordsD, ∀ y ∈ wordsD, (orD (z, false) (y, false)).1 ∈ wordsD := by decide +kernel
theorem in_pair : ∀ z ∈ wordsD, (z, true) ∈ pairD ∧ (z, false) ∈ pairD := by decide +kernel
theorem in_pair2 {z : Str} (h : z ∈ wordsD) (b : Bool) : (z, b) ∈ pairD := by
  cases b with
  | true => exact (in_pair z h).1
  | false => exact (in_pair z h).2
theorem dget_at {H : Hp} {d : Addr} {kvs : List (Key × V)} {z : Str} (ed : H d = some (.dK kvs)) {v : V} (hv : valV kvs (.inr z) = some v) : DGet H d (.str z) (some v) := by
  have x := DGet.k (k := .inr z) ed
  rw [hv] at x
  exact x
def strsL (a b : Str) : PyData := .list [.str a, .str b]
theorem dp_strs {K : PySem.W.Frag} {H : Hp} {l : Addr} {a b : Str} (h : H l = some (.lst [.str a, .str b])) : Dp K H (.ref l) (strsL a b) := .lst (SqL.of h) (.cons (.str _) (.cons (.str _) .nil))
theorem strsL_shaped : ∀ d ∈ pairD, ∀ e ∈ pairD, SeqAt.shaped (strsL (kindS d.1 d.2) (kindS e.1 e.2)) = true := by decide +kernel
theorem kind_len : ∀ d ∈ pairD, d.1.length ≤ 1000 := by decide +kernel
theorem strsL_eqv (a b : Str) : PyData.eqv (strsL a b) (strsL a b) = true := by
  simp [strsL, PyData.eqv, PyData.eqvAll]
theorem seqx {a b : TS} {D : Ends} {σ : St} {H : Hp} (Pv : St → Hp → Prop) (hb : ∀ σ' H', Pv σ' H' → b D σ' H') (h : (∀ σ' H', Pv σ' H' → ({ D with nx := b D } : Ends).nx σ' H') → a { D with nx := b D } σ H) : tSeq a b D σ H := h hb
section
variable {K : PySem.W.Frag} {t1 t2 : Addr} {x y : Str × Bool} {σ : St} {H : Hp} {Q : VK}
theorem ix_p1 {i : Nat} {t : Addr} {x : Str × Bool} (g : σ[i]? = some (some (.ref t))) (h : PairAt H t x) (q : Q (.bl x.2) H) : tOp (rIxT K) (tVar i) (tC (.int 1)) σ H Q := ⟨_, g, t, _, 1, .bl x.2, rfl, rfl, SqT.of h, rfl, q⟩
theorem or2 (g1 : σ[1]? = some (some (.ref t1))) (g2 : σ[2]? = some (some (.ref t2))) (h1 : PairAt H t1 x) (h2 : PairAt H t2 y) (q : Q (.bl (x.2 || y.2)) H) : tOrV (tOp (rIxT K) (tVar 1) (tC (.int 1))) (tOp (rIxT K) (tVar 2) (tC (.int 1))) σ H Q := by
  refine ix_p1 g1 h1 ⟨_, rfl, ?_⟩
  cases hb : x.2 with
  | true =>
    rw [hb] at q
    exact iteT q
  | false =>
    rw [hb, Bool.false_or] at q
    exact iteF (ix_p1 g2 h2 q)
theorem and2 (g1 : σ[1]? = some (some (.ref t1))) (g2 : σ[2]? = some (some (.ref t2))) (h1 : PairAt H t1 x) (h2 : PairAt H t2 y) (q : Q (.bl (x.2 && y.2)) H) : tAndV (tOp (rIxT K) (tVar 1) (tC (.int 1))) (tOp (rIxT K) (tVar 2) (tC (.int 1))) σ H Q := by
  refine ix_p1 g1 h1 ⟨_, rfl, ?_⟩
  cases hb : x.2 with
  | true =>
    rw [hb, Bool.true_and] at q
    exact iteT (ix_p1 g2 h2 q)
  | false =>
    rw [hb] at q
    exact iteF q
theorem ornot (g1 : σ[1]? = some (some (.ref t1))) (g2 : σ[2]? = some (some (.ref t2))) (h1 : PairAt H t1 x) (h2 : PairAt H t2 y) (q : Q (.bl (x.2 || !y.2)) H) : tOrV (tOp (rIxT K) (tVar 1) (tC (.int 1))) (tNotV (tOp (rIxT K) (tVar 2) (tC (.int 1)))) σ H Q := by
  refine ix_p1 g1 h1 ⟨_, rfl, ?_⟩
  cases hb : x.2 with
  | true =>
    rw [hb] at q
    exact iteT q
  | false =>
    rw [hb, Bool.false_or] at q
    exact iteF (ix_p1 g2 h2 ⟨_, rfl, q⟩)
end
section
variable {P : Program} {w : World} {K : PySem.W.Frag} {mg : Str → Option Value} {base : Heap} {f : Addr} {fd : FuncData} {C dL CT CF CX CN : Addr} {es : Array DictEntry} {n : Nat}
theorem c_pair_right (T : Bt mg) (KP : KiP P w K mg base C dL CT CF CX CN es n) (F : FnP K "_law_pair_right" s_pair_right f fd) (hm : mg "_law_pair_right" = some (.ref f)) (k_product : Cal P w K mg base 1 "_law_product" spProduct) (k_share : Cal P w K mg base 1 "_law_share" spShare)
    (k_line : Cal P w K mg base 1 "_law_line" (spLine K)) : Cal P w K mg base 6 "_law_pair_right" spPairRight := by
  have hnd := sc_pair_right.nd
  obtain ⟨mstr, KF, KG, ⟨fi, fdi, KM, Fi, B1⟩, ⟨fs, fds, hs, hsf, Fs, Bs⟩, ⟨gw, fdw, WM, Fw, Bw, BK⟩, sf, ⟨fa, fda, ha, haf, Fa, Ba⟩, ⟨fo, fdo, ho, hof, Fo, Bo⟩, _, _, _⟩ := KP
  refine cal_mk F hm sc_pair_right (fun _ _ _ _ _ _ us hl => match us, hl with | [_, _, _], _ => rfl) (fun vs H Q E h => ?_) (fun cdv A outer s H vs Q E hr h => ?_)
  · obtain ⟨d, kvs, t1, t2, x, y, rfl, _⟩ := h
    rfl
  · obtain ⟨d, kvs, t1, t2, x, y, rfl, ed, L, h1, h2, hx, hy, q⟩ := h
    have hu65 : (A.deeper (envOfC "_law_pair_right" (defScope s_pair_right) s.heap.objs.size f cdv)).units + 65 < cLine := by
      have := hr.un
      omega
    refine ⟨_, (pss_cons (ps_par (i := 3) (j := 4) (by rfl) hnd rfl rfl (by decide) (by rfl) (by rfl) (pa_cons (pe_makeK KM Fi (hr.mono (by omega)) (by rfl) KF.mgC B1 pass_none (pa_cons (pe_ix (show IxR _ (rIxT K) from ix_tup) (pv 1) pe_int (fun _ _ => rfl)) pa_nil) (pk_cons (pe_ix (show IxR _ (rIxT K) from ix_tup) (pv 1) pe_int (fun _ _ => rfl)) pk_nil)) (pa_cons (pe_makeK KM Fi (hr.mono (by omega)) (by rfl) KF.mgC B1 pass_none (pa_cons (pe_ix (show IxR _ (rIxT K) from ix_tup) (pv 2) pe_int (fun _ _ => rfl)) pa_nil) (pk_cons (pe_ix (show IxR _ (rIxT K) from ix_tup) (pv 2) pe_int (fun _ _ => rfl)) pk_nil)) pa_nil)) (by rfl))
      (pss_cons (ps_set (i := 6) hnd rfl (by first | exact Or.inl rfl | exact Or.inr rfl) (pe_and (pe_callB (cr_all (by rfl)) (by rfl) T.m_all (by decide +kernel) (pa_cons (pe_lc (own := [("_law_turn", 5)]) (tt := tYes) (by rfl) hnd (pi_list (pe_dget (Nat.lt_of_le_of_lt (Nat.add_le_add_left (by decide) _) hr.units) (pv 0) (pe_ix (show IxR _ (rIxT K) from ix_tup) (pv 2) pe_int (fun _ _ => rfl)) (fun _ _ => rfl))) (blkOk_by (own := [("_law_turn", 5)]) (N := N_pair_right) (sc := defScope s_pair_right) (by decide +kernel)) (fun _ _ _ _ _ => (pg_name (i := 5) hnd rfl (by first | exact Or.inl rfl | exact Or.inr rfl))) (fun _ _ _ _ _ => pts_nil) (fun _ _ _ _ _ => (pe_cmpR (show OpR _ (compareOp .In) (rInD K) from op_inD hu65) (pv 5) (pe_dget (Nat.lt_of_le_of_lt (Nat.add_le_add_left (by decide) _) hr.units) (pv 0) (pe_ix (show IxR _ (rIxT K) from ix_tup) (pv 1) pe_int (fun _ _ => rfl)) (fun _ _ => rfl)) (by rfl)))) pa_nil)) (pe_one (pe_or (pe_ix ix_tup (pv 1) pe_int (fun _ _ => rfl)) (pe_one (pe_not (pe_ix ix_tup (pv 2) pe_int (fun _ _ => rfl))))))))
      (pss_cons (ps_if (PW.pt (pw_or (pt_cmpR op_ne (pe_callB call_repr_bl (by rfl) T.m_repr (by decide +kernel) (pa_cons (pe_meth (pv 3) KF.cls WM Fw (hr.mono (by omega)) Bw .nil pass_none (pa_cons (pv 4) pa_nil)) pa_nil)) (pe_callB call_repr_bl (by rfl) T.m_repr (by decide +kernel) (pa_cons (pv 6) pa_nil)) (nomark _)) (pw_or1 (pt_cmpR op_ne (pe_callB call_repr_bl (by rfl) T.m_repr (by decide +kernel) (pa_cons (pe_methK (pv 3) KF.cls WM Fw (hr.mono (by omega)) pass_none (pk_cons (pv 4) pk_nil) rfl BK) pa_nil)) (pe_callB call_repr_bl (by rfl) T.m_repr (by decide +kernel) (pa_cons (pv 6) pa_nil)) (nomark _)))))
      (pss_one (ps_ret pe_bl))
      pss_nil)
      (pss_cons (ps_par (i := 7) (j := 8) (by rfl) hnd rfl rfl (by decide) (by rfl) (by rfl) (pa_cons (pe_op (show OpR _ (binaryOp .BitAnd) (rOwnBin C (spK2 K C CN (gNew C andD))) from op_ownBin Fa (hr.mono (by omega)) sf ha haf Ba pass_none) (pv 3) (pv 4)) (pa_cons (pe_op (show OpR _ (binaryOp .BitOr) (rOwnBin C (spK2 K C CN (gNew C orD))) from op_ownBin Fo (hr.mono (by omega)) sf ho hof Bo pass_none) (pv 3) (pv 4)) pa_nil)) (by rfl))
      (pss_cons (ps_if (PW.pt (pw_or (pt_not (pt_val (pe_callB call_isi (by rfl) T.m_isinstance (by decide +kernel) (pa_cons (pv 7) (pa_cons (pe_glob (v := .ref C) (by rfl) KF.mgC rfl) pa_nil))))) (pw_or1 (pt_not (pt_val (pe_callB call_isi (by rfl) T.m_isinstance (by decide +kernel) (pa_cons (pv 8) (pa_cons (pe_glob (v := .ref C) (by rfl) KF.mgC rfl) pa_nil))))))))
      (pss_one (ps_ret pe_bl))
      pss_nil)
      (pss_cons (ps_set (i := 9) hnd rfl (by first | exact Or.inl rfl | exact Or.inr rfl) (pe_lst (pa_cons (pe_tup (pa_cons (pe_cal k_product hr (by omega) (by rfl) (pa_cons (pv 0) (pa_cons (pe_ix ix_tup (pv 1) pe_int (fun _ _ => rfl)) (pa_cons (pe_ix ix_tup (pv 2) pe_int (fun _ _ => rfl)) pa_nil)))) (pa_cons (pe_or (pe_ix ix_tup (pv 1) pe_int (fun _ _ => rfl)) (pe_one (pe_ix ix_tup (pv 2) pe_int (fun _ _ => rfl)))) pa_nil))) pa_nil)))
      (pss_cons (ps_expr (pe_bm PySem.F.plainAttrs_list PySem.F.slot_list_append PySem.F.type_list_append mt_append (pv 9) (pa_cons (pe_tup (pa_cons (pe_cal k_share hr (by omega) (by rfl) (pa_cons (pv 0) (pa_cons (pe_ix ix_tup (pv 1) pe_int (fun _ _ => rfl)) (pa_cons (pe_ix ix_tup (pv 2) pe_int (fun _ _ => rfl)) pa_nil)))) (pa_cons (pe_and (pe_ix ix_tup (pv 1) pe_int (fun _ _ => rfl)) (pe_one (pe_ix ix_tup (pv 2) pe_int (fun _ _ => rfl)))) pa_nil))) pa_nil)))
      (pss_cons (ps_if (pt_cmpR (show OpR _ (compareOp .NotEq) (rNeD K) from op_neD hr.units) (pe_lst (pa_cons (pe_callTy (call_strOwn Fs (hr.mono (by omega)) hs hsf Bs) (by rfl) mstr (by decide +kernel) (pa_cons (pv 7) pa_nil)) (pa_cons (pe_callTy (call_strOwn Fs (hr.mono (by omega)) hs hsf Bs) (by rfl) mstr (by decide +kernel) (pa_cons (pv 8) pa_nil)) pa_nil))) (pe_lc (own := [("_law_pair", 10)]) (tt := tYes) (by rfl) hnd (pi_list (pv 9)) (blkOk_by (own := [("_law_pair", 10)]) (N := N_pair_right) (sc := defScope s_pair_right) (by decide +kernel)) (fun _ _ _ _ _ => (pg_name (i := 10) hnd rfl (by first | exact Or.inl rfl | exact Or.inr rfl))) (fun _ _ _ _ _ => pts_nil) (fun _ _ _ _ _ => (pe_cal k_line hr (by omega) (by rfl) (pa_cons (pv 10) pa_nil)))) (nomark _))
      (pss_one (ps_ret pe_bl))
      pss_nil)
      (pss_one (ps_ret (pe_cmpR (show OpR _ (compareOp .Eq) (rEqD K) from op_eqD hr.units) (pe_lst (pa_cons (pe_callTy (call_strOwn Fs (hr.mono (by omega)) hs hsf Bs) (by rfl) mstr (by decide +kernel) (pa_cons (pv 3) pa_nil)) (pa_cons (pe_callTy (call_strOwn Fs (hr.mono (by omega)) hs hsf Bs) (by rfl) mstr (by decide +kernel) (pa_cons (pv 4) pa_nil)) pa_nil))) (pe_lst (pa_cons (pe_cal k_line hr (by omega) (by rfl) (pa_cons (pv 1) pa_nil)) (pa_cons (pe_cal k_line hr (by omega) (by rfl) (pa_cons (pv 2) pa_nil)) pa_nil))) (nomark _)))))))))))), ?_⟩
    have wx := pair_word x hx
    have wy := pair_word y hy
    have mx := List.contains_iff_mem.mp wx
    have my := List.contains_iff_mem.mp wy
    have p1 : ∀ {G : Hp}, Same H G → PairAt G t1 x := fun s => s _ _ h1
    have p2 : ∀ {G : Hp}, Same H G → PairAt G t2 y := fun s => s _ _ h2
    obtain ⟨lx, tx, vx, ex, px⟩ := lots_get wx L
    obtain ⟨ly, ty, vy, ey, py⟩ := lots_get wy L
    refine ⟨_, rfl, t1, _, 0, .str x.1, rfl, rfl, SqT.of h1, rfl, _, rfl, t1, _, 1, .bl x.2, rfl, rfl, SqT.of h1, rfl, rfl, rfl, fun a da na nda _ => made_ok (b := x.2) wx na nda fun H1 s1 k1 => ⟨rfl, ?_⟩⟩
    refine ⟨_, rfl, t2, _, 0, .str y.1, rfl, rfl, SqT.of (p2 s1), rfl, _, rfl, t2, _, 1, .bl y.2, rfl, rfl, SqT.of (p2 s1), rfl, rfl, rfl, fun c dc nc ndc _ => made_ok (b := y.2) wy nc ndc fun H2 s2 k2 => ⟨rfl, ?_⟩⟩
    have k1' := k1.same s2
    have s12 := s1.trans s2
    refine ⟨_, _, rfl, ?_⟩
    dsimp only
    obtain ⟨dx, ea2⟩ := k1'
    obtain ⟨dy, ec2⟩ := k2
    have ed2 := s12 _ _ ed
    refine seqx (fun σ' G => Same H2 G ∧ σ' = [some (.ref d), some (.ref t1), some (.ref t2), some (.ref a), some (.ref c), none, some (.bl (withinD x y)), none, none, none, none]) ?_ fun key => ?_
    · rintro σ' G ⟨sG, rfl⟩
      have ea := sG _ _ ea2
      have ec := sG _ _ ec2
      have sHG := s12.trans sG
      refine ⟨_, rfl, a, dx, _, rfl, ea, rfl, _, rfl, a, x, .ref c, rfl, ⟨dx, ea⟩, wx, .inl ⟨c, y, rfl, ⟨dy, ec⟩, wy, fun G1 s1' => ⟨_, rfl, _, rfl, _, rfl, rfl, ?_⟩⟩⟩
      rw [decide_eq_true rfl]
      refine ⟨_, rfl, iteF ?_⟩
      have ea1 := s1' _ _ ea
      have ec1 := s1' _ _ ec
      refine ⟨_, rfl, a, dx, _, rfl, ea1, rfl, _, rfl, a, x, .ref c, rfl, ⟨dx, ea1⟩, wx, .inl ⟨c, y, rfl, ⟨dy, ec1⟩, wy, fun G2 s2' => ⟨_, rfl, _, rfl, _, rfl, rfl, ?_⟩⟩⟩
      rw [decide_eq_true rfl]
      refine ⟨_, rfl, iteF ?_⟩
      dsimp only [tNext]
      have sH2 := (sHG.trans s1').trans s2'
      have ea2 := s2' _ _ ea1
      have ec2 := s2' _ _ ec1
      refine ⟨_, rfl, _, rfl, a, dx, _, c, dy, _, rfl, rfl, ea2, ec2, a, x, .ref c, rfl, ⟨dx, ea2⟩, wx, .inl ⟨c, y, rfl, ⟨dy, ec2⟩, wy, fun r G3 s3' kr => ?_⟩⟩
      have ea3 := s3' _ _ ea2
      have ec3 := s3' _ _ ec2
      refine ⟨_, rfl, _, rfl, a, dx, _, c, dy, _, rfl, rfl, ea3, ec3, a, x, .ref c, rfl, ⟨dx, ea3⟩, wx, .inl ⟨c, y, rfl, ⟨dy, ec3⟩, wy, fun r2 G4 s4' kr2 => ⟨_, _, rfl, ?_⟩⟩⟩
      dsimp only
      have kr4 := kr.same s4'
      obtain ⟨dr, er⟩ := kr4
      obtain ⟨dr2, er2⟩ := kr2
      refine ⟨_, rfl, _, _, _, _, _, rfl, .own C, .base (.ins er KF.cls KG.ex.ha KG.ex.hn KG.ex.ht KG.ex.hm), KG.self, _, rfl, iteF ?_⟩
      refine ⟨_, rfl, _, _, _, _, _, rfl, .own C, .base (.ins er2 KF.cls KG.ex.ha KG.ex.hn KG.ex.ht KG.ex.hm), KG.self, _, rfl, iteF ?_⟩
      dsimp only [tNext]
      have sH4 := (sH2.trans s3').trans s4'
      have ed4 := sH4 _ _ ed
      refine ⟨_, rfl, _, rfl, t1, _, 0, .str x.1, rfl, rfl, SqT.of (p1 sH4), rfl, _, rfl, t2, _, 0, .str y.1, rfl, rfl, SqT.of (p2 sH4), rfl, d, kvs, x.1, y.1, rfl, ed4, L.same sH4, mx, my, fun G5 s5' => ?_⟩
      refine or2 rfl rfl (p1 (sH4.trans s5')) (p2 (sH4.trans s5')) ⟨Nat.le_of_ble_eq_true rfl, fun u1 nu1 => ?_⟩
      have s6' := same_new (o := .tup [.str (prodW x.1 y.1), .bl (x.2 || y.2)]) nu1
      have eu1 := upd_same (H := G5) (a := u1) (o := .tup [.str (prodW x.1 y.1), .bl (x.2 || y.2)])
      generalize upd G5 u1 (.tup [.str (prodW x.1 y.1), .bl (x.2 || y.2)]) = G6 at s6' eu1 ⊢
      refine ⟨Nat.le_of_ble_eq_true rfl, fun D nD => ?_⟩
      refine gname_go ?_
      dsimp only
      have s7' := same_new (o := .lst [.ref u1]) nD
      have eD := upd_same (H := G6) (a := D) (o := .lst [.ref u1])
      generalize upd G6 D (.lst [.ref u1]) = G7 at s7' eD ⊢
      have sH7 := ((sH4.trans s5').trans s6').trans s7'
      refine ⟨_, rfl, .inl ⟨rfl, _, SqL.of eD⟩, _, rfl, _, rfl, t1, _, 0, .str x.1, rfl, rfl, SqT.of (p1 sH7), rfl, _, rfl, t2, _, 0, .str y.1, rfl, rfl, SqT.of (p2 sH7), rfl, d, kvs, x.1, y.1, rfl, sH7 _ _ ed, L.same sH7, mx, my, fun G8 s8' => ?_⟩
      refine and2 rfl rfl (p1 (sH7.trans s8')) (p2 (sH7.trans s8')) ⟨Nat.le_of_ble_eq_true rfl, fun u2 nu2 => ?_⟩
      rw [share_or x.1 mx y.1 my]
      have s9' := same_new (o := .tup [.str (orD (x.1, false) (y.1, false)).1, .bl (x.2 && y.2)]) nu2
      have eu2 := upd_same (H := G8) (a := u2) (o := .tup [.str (orD (x.1, false) (y.1, false)).1, .bl (x.2 && y.2)])
      generalize upd G8 u2 (.tup [.str (orD (x.1, false) (y.1, false)).1, .bl (x.2 && y.2)]) = G9 at s9' eu2 ⊢
      have s79 := s8'.trans s9'
      have eD9 := s79 _ _ eD
      have eu19 : PairAt G9 u1 (andD x y) := s79 _ _ (s7' _ _ eu1)
      have eu29 : PairAt G9 u2 (orD x y) := eu2
      have nDH : H D = none := by
        cases e : H D with
        | none => rfl
        | some o =>
          have z := ((sH4.trans s5').trans s6') _ _ e
          rw [z] at nD
          cases nD
      refine ⟨D, [.ref u1], .ref u2, rfl, rfl, eD9, by rw [sizeLine_eq]; exact Nat.lt_of_lt_of_le (by decide : 1 < 2) (by decide), ?_⟩
      have out : ∀ {b : Addr} {o : HO}, G9 b = some o → (∀ xs, o ≠ .lst xs) → upd G9 D (.lst ([.ref u1] ++ [.ref u2])) b = some o := fun {b o} e n => by
        rw [upd_ne (fun z => by rw [z, eD9] at e; exact n _ (Option.some.inj e).symm)]
        exact e
      have e10 := upd_same (H := G9) (a := D) (o := .lst ([.ref u1] ++ [.ref u2]))
      have sH10 : Same H (upd G9 D (.lst ([.ref u1] ++ [.ref u2]))) := fun b o e => by
        rw [upd_ne (ne_of_none e nDH)]
        exact s79 _ _ (sH7 _ _ e)
      have s49 := ((s5'.trans s6').trans s7').trans s79
      have er10 := out (s49 _ _ er) (fun xs z => by cases z)
      have er210 := out (s49 _ _ er2) (fun xs z => by cases z)
      have ea10 := out (s49 _ _ (s4' _ _ ea3)) (fun xs z => by cases z)
      have ec10 := out (s49 _ _ (s4' _ _ ec3)) (fun xs z => by cases z)
      have pu1 : PairAt (upd G9 D (.lst ([.ref u1] ++ [.ref u2]))) u1 (andD x y) := out eu19 (fun xs z => by cases z)
      have pu2 : PairAt (upd G9 D (.lst ([.ref u1] ++ [.ref u2]))) u2 (orD x y) := out eu29 (fun xs z => by cases z)
      generalize upd G9 D (.lst ([.ref u1] ++ [.ref u2])) = G10 at e10 sH10 er10 er210 ea10 ec10 pu1 pu2 ⊢
      have ma : andD x y ∈ pairD := in_pair2 (prod_in x.1 mx y.1 my) _
      have mo : orD x y ∈ pairD := in_pair2 (or_in_words x.1 mx y.1 my) _
      refine ⟨_, rfl, r, dr, _, rfl, er10, r, _, _, rfl, ⟨dr, er10⟩, kind_len _ ma, _, rfl, _, rfl, r2, dr2, _, rfl, er210, r2, _, _, rfl, ⟨dr2, er210⟩, kind_len _ mo, _, rfl, Nat.le_of_ble_eq_true rfl, fun l1 nl1 => ?_⟩
      have s11 := same_new (o := .lst [.str (kindS (andD x y).1 (andD x y).2), .str (kindS (orD x y).1 (orD x y).2)]) nl1
      have e11 := upd_same (H := G10) (a := l1) (o := .lst [.str (kindS (andD x y).1 (andD x y).2), .str (kindS (orD x y).1 (orD x y).2)])
      generalize upd G10 l1 (.lst [.str (kindS (andD x y).1 (andD x y).2), .str (kindS (orD x y).1 (orD x y).2)]) = G11 at s11 e11 ⊢
      refine ⟨_, rfl, D, rfl, ⟨_, SqL.of (s11 _ _ e10)⟩, fun D2 nD2 => ?_⟩
      refine lc_list (xs := [.ref u1] ++ [.ref u2]) (fun i G' => Same G11 G' ∧ G' D2 = some (.lst (([andD x y, orD x y].take i).map fun d => .str (kindS d.1 d.2)))) ⟨same_new nD2, upd_same⟩ (fun i G' _ z => SqL.of (z.1 _ _ (s11 _ _ e10))) ?_ ?_
      · rintro i z G12 hz ⟨s12', e12⟩
        refine ⟨rfl, ?_⟩
        unfold tYes
        dsimp only
        rw [if_pos rfl]
        obtain ⟨t, v, rfl, hv, mv, hp⟩ : ∃ t v, z = .ref t ∧ [andD x y, orD x y][i]? = some v ∧ v ∈ pairD ∧ PairAt G10 t v := by
          match i, hz with
          | 0, hz => exact ⟨u1, _, (Option.some.inj hz).symm, rfl, ma, pu1⟩
          | 1, hz => exact ⟨u2, _, (Option.some.inj hz).symm, rfl, mo, pu2⟩
        have hp12 : PairAt G12 t v := s12' _ _ (s11 _ _ hp)
        refine ⟨_, rfl, t, v.1, v.2, rfl, hp12, kind_len v mv, ?_⟩
        rw [line_kind v mv]
        have li : i < 2 := (List.getElem?_eq_some_iff.mp hv).1
        refine ⟨_, e12, by rw [List.length_map, List.length_take, sizeLine_eq]; omega, same_put nD2 s12', by rw [upd_same, List.take_add_one, hv, List.map_append]; rfl⟩
      · rintro G12 ⟨s12', e12⟩
        refine ⟨strsL _ _, strsL (kindS (andD x y).1 (andD x y).2) (kindS (orD x y).1 (orD x y).2), dp_strs (s12' _ _ e11), dp_strs e12, strsL_shaped _ ma _ mo, strsL_shaped _ ma _ mo, ?_⟩
        rw [strsL_eqv]
        refine ⟨_, rfl, iteF ?_⟩
        dsimp only [tNext]
        have s1012 := s11.trans s12'
        have ea12 := s1012 _ _ ea10
        have ec12 := s1012 _ _ ec10
        have sH12 := sH10.trans s1012
        refine ⟨_, rfl, a, dx, _, rfl, ea12, a, x.1, x.2, rfl, ⟨dx, ea12⟩, kind_len x hx, _, rfl, _, rfl, c, dy, _, rfl, ec12, c, y.1, y.2, rfl, ⟨dy, ec12⟩, kind_len y hy, _, rfl, Nat.le_of_ble_eq_true rfl, fun l3 nl3 => ?_⟩
        have s13 := same_new (o := .lst [.str (kindS x.1 x.2), .str (kindS y.1 y.2)]) nl3
        have e13 := upd_same (H := G12) (a := l3) (o := .lst [.str (kindS x.1 x.2), .str (kindS y.1 y.2)])
        generalize upd G12 l3 (.lst [.str (kindS x.1 x.2), .str (kindS y.1 y.2)]) = G13 at s13 e13 ⊢
        refine ⟨_, rfl, t1, x.1, x.2, rfl, p1 (sH12.trans s13), kind_len x hx, _, rfl, t2, y.1, y.2, rfl, p2 (sH12.trans s13), kind_len y hy, Nat.le_of_ble_eq_true rfl, fun l4 nl4 => ?_⟩
        rw [line_kind x hx, line_kind y hy]
        have s14 := same_new (o := .lst [.str (kindS x.1 x.2), .str (kindS y.1 y.2)]) nl4
        have e14 := upd_same (H := G13) (a := l4) (o := .lst [.str (kindS x.1 x.2), .str (kindS y.1 y.2)])
        refine ⟨strsL _ _, strsL (kindS x.1 x.2) (kindS y.1 y.2), dp_strs (s14 _ _ e13), dp_strs e14, strsL_shaped _ hx _ hy, strsL_shaped _ hx _ hy, ?_⟩
        rw [strsL_eqv]
        exact q _ ((sH12.trans s13).trans s14)
    · refine cb_one ⟨_, rfl, _, rfl, t2, _, 0, .str y.1, rfl, rfl, SqT.of (p2 s12), rfl, d, .ref ly, rfl, dget_at ed2 vy, ly, rfl, ⟨_, SqL.of (s12 _ _ ey)⟩, fun D nD => ?_⟩
      refine lc_list (xs := ty.map V.ref) (fun j G' => Same H2 G' ∧ G' D = some (.lst (((lotOf y.1).take j).map fun u => .bl (decide (u ∈ lotOf x.1))))) ⟨same_new nD, upd_same⟩ (fun j G' _ z => SqL.of (z.1 _ _ (s12 _ _ ey))) ?_ ?_
      · rintro j z G5 hz ⟨s8, e8⟩
        refine ⟨rfl, ?_⟩
        unfold tYes
        dsimp only
        rw [if_pos rfl]
        obtain ⟨ti, et, rfl⟩ : ∃ t, ty[j]? = some t ∧ z = .ref t := by
          rw [List.getElem?_map] at hz
          obtain ⟨t, e1, e2⟩ := Option.map_eq_some_iff.mp hz
          exact ⟨t, e1, e2.symm⟩
        obtain ⟨u, eu, su⟩ := paired_nth py et
        have s128 := s12.trans s8
        refine ⟨_, rfl, _, rfl, _, rfl, t1, _, 0, .str x.1, rfl, rfl, SqT.of (p1 s128), rfl, d, .ref lx, rfl, dget_at (s128 _ _ ed) vx, turnD u, (lotOf x.1).map turnD, dp_turn (SqT.of (s128 _ _ su)), .lst (SqL.of (s128 _ _ ex)) (dp_turns (paired_imp (fun _ _ e => SqT.of (s128 _ _ e)) px)), turn_shaped u, turnsL_shaped _, ?_⟩
        rw [turns_any]
        have l6 := lots_len y.1 my
        exact ⟨_, e8, by rw [List.length_map, List.length_take, sizeLine_eq]; omega, same_put nD s8, by rw [upd_same, List.take_add_one, eu, List.map_append]; rfl⟩
      · rintro G5 ⟨s8, e8⟩
        rw [List.length_map, paired_len py, List.take_length] at e8
        refine ⟨D, (lotOf y.1).map fun u => decide (u ∈ lotOf x.1), rfl, SqL.of (by rw [e8, List.map_map]; rfl), ?_⟩
        have s128 := s12.trans s8
        refine ⟨_, rfl, ?_⟩
        rw [show ((lotOf y.1).map fun u => decide (u ∈ lotOf x.1)).all id = ((lotOf y.1).all fun t => decide (t ∈ lotOf x.1)) by rw [List.all_map]; rfl]
        have fin : ∀ b, b = withinD x y → gName 6 (.bl b) [some (.ref d), some (.ref t1), some (.ref t2), some (.ref a), some (.ref c), none, none, none, none, none, none] G5 _ := fun b e => gname_go (key _ _ ⟨s8, by rw [e]; rfl⟩)
        unfold withinD at fin
        cases hh : ((lotOf y.1).all fun t => decide (t ∈ lotOf x.1)) with
        | false => exact iteF (fin false (by rw [hh]; rfl))
        | true => exact iteT (ornot rfl rfl (p1 s128) (p2 s128) (fin (x.2 || !y.2) (by rw [hh, Bool.true_and])))
end
end L2.K4
set_option Elab.async false
set_option linter.all false
set_option maxRecDepth 100000
set_option maxHeartbeats 8000000
namespace L2.K4
open PySem PySem.Spec PyProof.Rows L2.Tb
abbrev s_rule : Stmt := top 28
abbrev N_rule : List Str := ["_law_purse_here", "_law_way", "_law_found", "_law_a", "_law_b", "_law_trio", "_law_m", "_law_u", "_law_v", "_law_units", "_law_p", "_law_q", "_law_halves", "_law_r"]
theorem sc_rule : FnScope N_rule ["_law_purse_here"] (defScope s_rule) := ⟨rfl, rfl, rfl, by decide +kernel, rfl, by decide +kernel, by decide +kernel⟩
def spRule : Sp := fun vs H Q _ => ∃ p : Addr, vs = [.ref p] ∧ Purse H p ∧ ∀ (d : Addr) (R : List (List Int)) (H' : Hp), SameB p H H' → Purse H' p → RuleAt H' d R → Q (.ref d) H'
/-! ### the found triples -/
structure TrsAt (G : Hp) (D : Addr) (R : List (List Int)) : Prop where
  ex : ∃ ks : List Addr, G D = some (.lst (ks.map V.ref)) ∧ Paired (fun k t => G k = some (.tup (t.map V.int)) ∧ t.length = 3) ks R
theorem TrsAt.same {G G' : Hp} {D : Addr} {R : List (List Int)} (h : TrsAt G D R) (s : Same G G') : TrsAt G' D R := by
  obtain ⟨ks, a, b⟩ := h.ex
  exact ⟨ks, s _ _ a, paired_imp (fun _ _ e => ⟨s _ _ e.1, e.2⟩) b⟩
theorem TrsAt.add {G : Hp} {D t : Addr} {R : List (List Int)} {xs : List V} {r : List Int} (h : TrsAt G D R) (a : G D = some (.lst xs)) (ht : G t = some (.tup (r.map V.int))) (hr : r.length = 3) :
    TrsAt (upd G D (.lst (xs ++ [.ref t]))) D (R ++ [r]) := by
  obtain ⟨ks, a', b⟩ := h.ex
  rw [a] at a'
  cases a'
  have up : ∀ {b : Addr} {ys : List V}, G b = some (.tup ys) → upd G D (.lst (ks.map V.ref ++ [.ref t])) b = some (.tup ys) := fun {b ys} e => by
    rw [upd_ne (fun z => by rw [z, a] at e; cases e)]
    exact e
  exact ⟨ks ++ [t], by rw [upd_same, List.map_append]; rfl, paired_app (paired_imp (fun _ _ e => ⟨up e.1, e.2⟩) b) (.cons ⟨up ht, hr⟩ .nil)⟩
theorem TrsAt.cat {G : Hp} {D L c : Addr} {R R' : List (List Int)} {xs zs : List V} (h : TrsAt G D R) (h' : TrsAt G L R') (a : G D = some (.lst xs)) (b : G L = some (.lst zs)) (nc : G c = none) : TrsAt (upd G c (.lst (xs ++ zs))) c (R ++ R') := by
  obtain ⟨ks, a', p⟩ := h.ex
  obtain ⟨ls, b', p'⟩ := h'.ex
  rw [a] at a'
  rw [b] at b'
  cases a'
  cases b'
  have s := same_new (o := .lst (ks.map V.ref ++ ls.map V.ref)) nc
  exact ⟨ks ++ ls, by rw [upd_same, List.map_append], paired_app (paired_imp (fun _ _ e => ⟨s _ _ e.1, e.2⟩) p) (paired_imp (fun _ _ e => ⟨s _ _ e.1, e.2⟩) p')⟩
theorem TrsAt.size {G : Hp} {D : Addr} {R : List (List Int)} {xs : List V} (h : TrsAt G D R) (a : G D = some (.lst xs)) : xs.length = R.length := by
  obtain ⟨ks, a', p⟩ := h.ex
  rw [a] at a'
  cases a'
  rw [List.length_map, paired_len p]
def ktOf (z : Addr × List Int) : List Key × Addr × V := (kOf z.2, z.1, .bl true)
theorem kts_pair {K : PySem.W.Frag} {H : Hp} {ks : List Addr} {R : List (List Int)} (a : Paired (fun k t => H k = some (.tup (t.map V.int)) ∧ t.length = 3) ks R) : ∀ {ps : List Addr}, Paired (fun p k => H p = some (.tup [.ref k, .bl true])) ps ks →
    Paired (fun p k => SqT K H p [.ref k.2.1, k.2.2] ∧ H k.2.1 = some (.tup (k.1.map kV))) ps ((ks.zip R).map ktOf) := by
  induction a with
  | nil => exact fun b => by cases b; exact .nil
  | @cons k t ks R h _ ih =>
    intro ps b
    cases b with
    | cons h2 t2 =>
      refine .cons ⟨SqT.of h2, ?_⟩ (ih t2)
      show H k = some (.tup ((kOf t).map kV))
      rw [kOf_V]
      exact h.1
theorem put_keys {acc : List (List Key × V)} {k : List Key} {v : V} : (putK acc k v).map (·.1) = acc.map (·.1) ∨ (putK acc k v).map (·.1) = acc.map (·.1) ++ [k] := by
  unfold putK
  by_cases c : (acc.any fun kv => decide (kv.1 = k)) = true
  · rw [if_pos c]
    refine .inl ?_
    rw [List.map_map]
    refine List.map_congr_left fun kv _ => ?_
    show (if kv.1 = k then (kv.1, v) else kv).1 = kv.1
    by_cases e : kv.1 = k
    · rw [if_pos e]
    · rw [if_neg e]
  · rw [if_neg c]
    exact .inr (by rw [List.map_append]; rfl)
theorem merge_keys : ∀ (zs : List (Addr × List Int)) (acc : List (List Key × V)) (R0 : List (List Int)), acc.map (·.1) = R0.map kOf → (∀ z ∈ zs, z.2.length = 3) → (∀ t ∈ R0, t.length = 3) →
    ∃ R' : List (List Int), (mergeT acc (zs.map ktOf)).map (·.1) = R'.map kOf ∧ R'.length ≤ R0.length + zs.length ∧ ∀ t ∈ R', t.length = 3
  | [], acc, R0, e, _, h => ⟨R0, e, Nat.le_refl _, h⟩
  | z :: zs, acc, R0, e, hz, h => by
    have h3 := hz z (List.mem_cons_self ..)
    have hz' := fun y hy => hz y (List.mem_cons_of_mem _ hy)
    rcases put_keys (acc := acc) (k := kOf z.2) (v := .bl true) with c | c
    · obtain ⟨R', a, b, d⟩ := merge_keys zs (putK acc (kOf z.2) (.bl true)) R0 (c.trans e) hz' h
      exact ⟨R', a, by rw [List.length_cons]; omega, d⟩
    · obtain ⟨R', a, b, d⟩ := merge_keys zs (putK acc (kOf z.2) (.bl true)) (R0 ++ [z.2]) (by rw [c, e, List.map_append]; rfl) hz' fun t ht => by
        rcases List.mem_append.mp ht with ht | ht
        · exact h t ht
        · rw [List.mem_singleton.mp ht]
          exact h3
      refine ⟨R', a, ?_, d⟩
      rw [List.length_append, List.length_singleton] at b
      rw [List.length_cons]
      omega
theorem seq_go {a b : TS} {D : Ends} {σ : St} {H : Hp} (h : a { D with nx := b D } σ H) : tSeq a b D σ H := h
section
variable {K : PySem.W.Frag} {p : Addr} {x1 x2 x3 x4 x5 x6 x7 x8 x9 x10 x11 x12 x13 : Option V} {G : Hp} {En : Ends}
theorem fin_rule {D : Addr} {R : List (List Int)} (hD : TrsAt G D R) (hl : R.length ≤ 64) (q : ∀ d R' H', Same G H' → RuleAt H' d R' → En.rt (.ref d) H') :
    tRet (tCB (rDictPT K) (tCons (tLc (iList K (tVar 2)) (gName 5) tYes (tTup (tCons (tVar 5) (tCons (tC (.bl true)) tNil))) [5]) tNil)) En [some (.ref p), x1, some (.ref D), x3, x4, x5, x6, x7, x8, x9, x10, x11, x12, x13] G := by
  obtain ⟨ks, ek, pk⟩ := hD.ex
  have lk := paired_len pk
  show tCB (rDictPT K) (tCons (tLc (iList K (tVar 2)) (gName 5) tYes (tTup (tCons (tVar 5) (tCons (tC (.bl true)) tNil))) [5]) tNil) [some (.ref p), x1, some (.ref D), x3, x4, x5, x6, x7, x8, x9, x10, x11, x12, x13] G En.rt
  refine cb_one ⟨_, rfl, D, rfl, ⟨_, SqL.of ek⟩, fun L nL => ?_⟩
  refine lc_list (xs := ks.map V.ref) (fun i G' => Same G G' ∧ ∃ ps : List Addr, G' L = some (.lst (ps.map V.ref)) ∧ Paired (fun p k => G' p = some (.tup [.ref k, .bl true])) ps (ks.take i)) ⟨same_new nL, [], upd_same, .nil⟩ (fun i G' _ z => SqL.of (z.1 _ _ ek)) ?_ ?_
  · rintro i z G' hz ⟨s1, ps, e1, p1⟩
    refine ⟨rfl, ?_⟩
    unfold tYes
    dsimp only
    rw [if_pos rfl]
    obtain ⟨k, ekk, rfl⟩ : ∃ t, ks[i]? = some t ∧ z = .ref t := by
      rw [List.getElem?_map] at hz
      obtain ⟨t, e1, e2⟩ := Option.map_eq_some_iff.mp hz
      exact ⟨t, e1, e2.symm⟩
    refine ⟨_, rfl, Nat.le_of_ble_eq_true rfl, fun t nt => ?_⟩
    have st := same_new (o := .tup [.ref k, .bl true]) nt
    have et := upd_same (H := G') (a := t) (o := .tup [.ref k, .bl true])
    generalize upd G' t (.tup [.ref k, .bl true]) = G2 at st et ⊢
    have e2 := st _ _ e1
    have l2 := paired_len p1
    rw [List.length_take] at l2
    have up : ∀ {b : Addr} {ys : List V}, G2 b = some (.tup ys) → upd G2 L (.lst (ps.map V.ref ++ [.ref t])) b = some (.tup ys) := fun {b ys} e => by
      rw [upd_ne (fun z => by rw [z, e2] at e; cases e)]
      exact e
    refine ⟨_, e2, by rw [List.length_map, l2, sizeLine_eq]; omega, same_put nL (s1.trans st), ps ++ [t], by rw [upd_same, List.map_append]; rfl, ?_⟩
    rw [List.take_add_one, ekk]
    exact paired_app (paired_imp (fun _ _ e => up (st _ _ e)) p1) (.cons (up et) .nil)
  · rintro G' ⟨s1, ps, e1, p1⟩
    rw [List.length_map, List.take_length] at p1
    have pk' : Paired (fun k t => G' k = some (.tup (t.map V.int)) ∧ t.length = 3) ks R := paired_imp (fun _ _ e => ⟨s1 _ _ e.1, e.2⟩) pk
    obtain ⟨R', a, b, c⟩ := merge_keys (ks.zip R) [] [] rfl (fun z hz => by
      have : ∀ {ks : List Addr} {R : List (List Int)}, Paired (fun k t => G' k = some (.tup (t.map V.int)) ∧ t.length = 3) ks R → ∀ z ∈ ks.zip R, z.2.length = 3 := by
        intro ks R h
        induction h with
        | nil => intro z hz; cases hz
        | cons h _ ih =>
          intro z hz
          rcases List.mem_cons.mp hz with rfl | hz
          · exact h.2
          · exact ih z hz
      exact this pk' z hz) (fun t ht => by cases ht)
    refine ⟨L, ps, _, rfl, SqL.of e1, kts_pair pk' p1, fun d nd => ?_⟩
    refine q d R' _ (s1.trans (same_new nd)) ⟨⟨_, upd_same, a⟩, ?_, c⟩
    rw [List.length_zip] at b
    simp at b
    omega
theorem rows_for {te tn : TE} {N : Nat} {D : Addr} (hN : N ≤ 8) (htn : ∀ x2 x3 x4 H' (Q' : VK), Q' (.int N) H' → tn [some (.ref p), x1, x2, x3, x4, x5, x6, x7, x8, x9, x10, x11, x12, x13] H' Q')
    (hte : ∀ x2 (a b : Nat) H' (Q' : VK), a < N → b < N → (∀ z, Q' (.int z) H') → te [some (.ref p), x1, x2, some (.int (0 + (a : Int))), some (.int (0 + (b : Int))), x5, x6, x7, x8, x9, x10, x11, x12, x13] H' Q')
    (hD : TrsAt G D []) (q : ∀ D' R' G' x3 x4, Same G G' → TrsAt G' D' R' → R'.length ≤ 64 → En.nx [some (.ref p), x1, some (.ref D'), x3, x4, x5, x6, x7, x8, x9, x10, x11, x12, x13] G') :
    tFor (iRng1 (tCons tn tNil)) (gName 3) (tAsg (tOp rCat (tVar 2) (tLc (iRng1 (tCons tn tNil)) (gName 4) tYes (tTup (tCons (tVar 3) (tCons (tVar 4) (tCons te tNil)))) [4])) (gName 2)) En [some (.ref p), x1, some (.ref D), x3, x4, x5, x6, x7, x8, x9, x10, x11, x12, x13] G := by
  refine htn _ _ _ _ _ ⟨(N : Int), rfl, by omega, by omega, ?_⟩
  refine for_range (n := (N : Int).toNat) (fun i σ' G' => Same G G' ∧ ∃ D' R' x3 x4, σ' = [some (.ref p), x1, some (.ref D'), x3, x4, x5, x6, x7, x8, x9, x10, x11, x12, x13] ∧ TrsAt G' D' R' ∧ R'.length = i * N) ⟨Same.refl _, D, [], x3, x4, rfl, hD, (Nat.zero_mul N).symm⟩ ?_ ?_
  · rintro i σ' G1 hi ⟨s1, D1, R1, y3, y4, rfl, h1, l1⟩
    refine gname_go ?_
    obtain ⟨ks, ek, _⟩ := id h1.ex
    have lk := h1.size ek
    refine ⟨_, rfl, htn _ _ _ _ _ ⟨(N : Int), rfl, by omega, by omega, fun L nL => ?_⟩⟩
    refine lc_range (fun j G' => Same G1 G' ∧ ∃ R' xs, G' L = some (.lst xs) ∧ TrsAt G' L R' ∧ R'.length = j) ⟨same_new nL, [], [], upd_same, ⟨[], upd_same, .nil⟩, rfl⟩ ?_ ?_
    · rintro j G2 hj ⟨s2, R2, xs, e2, h2, l2⟩
      refine ⟨rfl, ?_⟩
      unfold tYes
      dsimp only
      rw [if_pos rfl]
      refine ⟨_, rfl, _, rfl, hte _ i j _ _ (by simpa using hi) (by simpa using hj) fun z => ⟨Nat.le_of_ble_eq_true rfl, fun t nt => ?_⟩⟩
      have st : Same G2 (upd G2 t (.tup (([0 + (i : Int), 0 + (j : Int), z] : List Int).map V.int))) := same_new nt
      have et := upd_same (H := G2) (a := t) (o := .tup (([0 + (i : Int), 0 + (j : Int), z] : List Int).map V.int))
      have e3 := st _ _ e2
      have lx := h2.size e2
      refine ⟨xs, e3, by rw [lx, l2, sizeLine_eq]; have : j < N := by simpa using hj
                         omega, same_put nL (s2.trans st), _, _, upd_same, TrsAt.add (h2.same st) e3 et rfl, by rw [List.length_append, l2]; rfl⟩
    · rintro G2 ⟨s2, R2, xs, e2, h2, l2⟩
      have l2 : R2.length = N := by simpa using l2
      have iN : i < N := by simpa using hi
      have b1 : i * N ≤ 7 * 8 := Nat.mul_le_mul (by omega) hN
      refine ⟨D1, L, _, _, rfl, rfl, s2 _ _ ek, e2, by rw [lk, h2.size e2, sizeLine_eq]; omega, fun c nc => ?_⟩
      refine gname_go ?_
      dsimp only
      refine ⟨(s1.trans s2).trans (same_new nc), c, R1 ++ R2, _, _, rfl, TrsAt.cat (h1.same s2) h2 (s2 _ _ ek) e2 nc, ?_⟩
      rw [List.length_append, l1, l2, Nat.succ_mul]
  · rintro σ' G1 ⟨s1, D1, R1, y3, y4, rfl, h1, l1⟩
    refine q D1 R1 G1 _ _ s1 h1 ?_
    have l1 : R1.length = N * N := by simpa using l1
    have b1 : N * N ≤ 8 * 8 := Nat.mul_le_mul hN hN
    omega
end
/-! ### the units -/
def innerD (m : Nat) (u : Int) : Nat → List Int
  | 0 => []
  | k + 1 => if (u * (0 + (k : Int)) - 1) % (m : Int) = 0 then innerD m u k ++ [0 + (k : Int)] else innerD m u k
def unitsD (m : Nat) : Nat → List Int
  | 0 => []
  | j + 1 => if innerD m (0 + (j : Int)) m = [] then unitsD m j else unitsD m j ++ [0 + (j : Int)]
theorem innerD_pos {m k : Nat} {u : Int} (c : (u * (0 + (k : Int)) - 1) % (m : Int) = 0) : innerD m u (k + 1) = innerD m u k ++ [0 + (k : Int)] := by
  show (if (u * (0 + (k : Int)) - 1) % (m : Int) = 0 then innerD m u k ++ [0 + (k : Int)] else innerD m u k) = _
  rw [if_pos c]
theorem innerD_neg {m k : Nat} {u : Int} (c : ¬ (u * (0 + (k : Int)) - 1) % (m : Int) = 0) : innerD m u (k + 1) = innerD m u k := by
  show (if (u * (0 + (k : Int)) - 1) % (m : Int) = 0 then innerD m u k ++ [0 + (k : Int)] else innerD m u k) = _
  rw [if_neg c]
theorem unitsD_pos {m j : Nat} (c : innerD m (0 + (j : Int)) m = []) : unitsD m (j + 1) = unitsD m j := by
  show (if innerD m (0 + (j : Int)) m = [] then unitsD m j else unitsD m j ++ [0 + (j : Int)]) = _
  rw [if_pos c]
theorem unitsD_neg {m j : Nat} (c : ¬ innerD m (0 + (j : Int)) m = []) : unitsD m (j + 1) = unitsD m j ++ [0 + (j : Int)] := by
  show (if innerD m (0 + (j : Int)) m = [] then unitsD m j else unitsD m j ++ [0 + (j : Int)]) = _
  rw [if_neg c]
theorem inner_len (m : Nat) (u : Int) : ∀ k, (innerD m u k).length ≤ k
  | 0 => Nat.le_refl _
  | k + 1 => by
    have := inner_len m u k
    unfold innerD
    split
    · rw [List.length_append, List.length_singleton]
      omega
    · omega
theorem units_len (m : Nat) : ∀ k, (unitsD m k).length ≤ k
  | 0 => Nat.le_refl _
  | k + 1 => by
    have := units_len m k
    unfold unitsD
    split
    · omega
    · rw [List.length_append, List.length_singleton]
      omega
theorem units_ok : ∀ m ∈ ([1, 2, 3, 4, 5, 7, 8] : List Nat), unitsD m m ≠ [] ∧ ∀ u ∈ unitsD m m, 0 ≤ u ∧ u < 8 := by decide +kernel
theorem m_at (d : Int) (d0 : 0 ≤ d) (d1 : d < 8) : ∃ m : Nat, atI [V.int 1, .int 2, .int 3, .int 4, .int 5, .int 7, .int 7, .int 8] d = some (.int (m : Int)) ∧ m ∈ ([1, 2, 3, 4, 5, 7, 8] : List Nat) := by
  rcases (show d = 0 ∨ d = 1 ∨ d = 2 ∨ d = 3 ∨ d = 4 ∨ d = 5 ∨ d = 6 ∨ d = 7 by omega) with rfl | rfl | rfl | rfl | rfl | rfl | rfl | rfl
  · exact ⟨1, rfl, by decide⟩
  · exact ⟨2, rfl, by decide⟩
  · exact ⟨3, rfl, by decide⟩
  · exact ⟨4, rfl, by decide⟩
  · exact ⟨5, rfl, by decide⟩
  · exact ⟨7, rfl, by decide⟩
  · exact ⟨7, rfl, by decide⟩
  · exact ⟨8, rfl, by decide⟩
theorem m_le : ∀ m ∈ ([1, 2, 3, 4, 5, 7, 8] : List Nat), 1 ≤ m ∧ m ≤ 8 := by decide
theorem ints_at {us : List Int} {d : Int} (d0 : 0 ≤ d) (d1 : d < (us.length : Nat)) : ∃ x, atI (us.map V.int) d = some (.int x) ∧ x ∈ us := by
  obtain ⟨n, rfl⟩ := Int.eq_ofNat_of_zero_le d0
  have hn : n < us.length := by omega
  exact ⟨us[n], atI_nat (by rw [List.getElem?_map, List.getElem?_eq_getElem hn]; rfl), List.getElem_mem ..⟩
theorem dp_ints {K : PySem.W.Frag} {H : Hp} : ∀ ns : List Int, DpAll K H (ns.map V.int) (ns.map PyData.int)
  | [] => .nil
  | n :: ns => .cons (.int n) (dp_ints ns)
theorem ints_lay : ∀ us : List Int, PyData.canLayAll0 (us.map PyData.int) = true
  | [] => by simp [PyData.canLayAll0]
  | u :: us => by
    have h := ints_lay us
    simp [PyData.canLayAll0, PyData.canLay0, h]
theorem ints_depth : ∀ us : List Int, PyData.depthAll (us.map PyData.int) ≤ 1
  | [] => by simp [PyData.depthAll]
  | u :: us => by
    have h := ints_depth us
    have h2 : (PyData.int u).depth = 0 := by simp [PyData.depth]
    simp only [List.map_cons, PyData.depthAll]
    omega
theorem ints_shaped (us : List Int) : SeqAt.shaped (.list (us.map PyData.int)) = true := by
  show (PyData.canLay0 (.list (us.map PyData.int)) && decide (PyData.depth (.list (us.map PyData.int)) ≤ 64)) = true
  rw [Bool.and_eq_true]
  exact ⟨by simp only [PyData.canLay0]; exact ints_lay us, decide_eq_true (by have := ints_depth us; simp only [PyData.depth]; omega)⟩
theorem nil_shaped : SeqAt.shaped (.list []) = true := ints_shaped []
theorem int_shaped (i : Int) : SeqAt.shaped (.int i) = true := by
  show (PyData.canLay0 (.int i) && decide (PyData.depth (.int i) ≤ 64)) = true
  simp [PyData.canLay0, PyData.depth]
theorem ints_nil (xs : List Int) : PyData.eqv (.list (xs.map PyData.int)) (.list []) = decide (xs = []) := by
  cases xs with
  | nil => simp [PyData.eqv, PyData.eqvAll]
  | cons x xs => simp [PyData.eqv, PyData.eqvAll]
theorem any_ints (xs : List Int) (i : Int) : ((xs.map PyData.int).any fun z => PyData.eqv z (.int i)) = decide (i ∈ xs) := by
  induction xs with
  | nil => simp
  | cons x xs ih =>
    rw [List.map_cons, List.any_cons, ih]
    have e : PyData.eqv (.int x) (.int i) = decide (x = i) := by
      simp only [PyData.eqv]
      rfl
    rw [e]
    by_cases h : x = i
    · subst h
      simp
    · have h2 : ¬ i = x := fun e => h e.symm
      by_cases h3 : i ∈ xs <;> simp [h, h2, h3]
theorem memo_keep {p b : Addr} {H H' : Hp} {xs : List V} (hp : Purse H p) (n : b ≠ p) (s : SameB p H H') (e : H b = some (.lst xs)) : H' b = some (.lst xs) := s _ _ n e
section
variable {P : Program} {w : World} {K : PySem.W.Frag} {mg : Str → Option Value} {base : Heap} {f : Addr} {fd : FuncData}
set_option pp.maxSteps 100000 in
theorem c_rule (T : Bt mg) (mdict : mg "dict" = none) (F : FnP K "_law_rule" s_rule f fd) (hm : mg "_law_rule" = some (.ref f)) (k_draw : Cal P w K mg base 1 "_law_draw" spDraw) : Cal P w K mg base 2 "_law_rule" spRule := by
  have hnd := sc_rule.nd
  refine cal_mk F hm sc_rule (fun _ _ _ _ _ _ us hl => match us, hl with | [_], _ => rfl) (fun vs H Q E h => ?_) (fun cdv A outer s H vs Q E hr h => ?_)
  · obtain ⟨p, rfl, _⟩ := h
    rfl
  · obtain ⟨p, rfl, hp, q⟩ := h
    have hu65 : (A.deeper (envOfC "_law_rule" (defScope s_rule) s.heap.objs.size f cdv)).units + 65 < cLine := by
      have := hr.un
      omega
    have hu2 : (A.deeper (envOfC "_law_rule" (defScope s_rule) s.heap.objs.size f cdv)).units + 2 < cLine := by
      have := hr.un
      omega
    refine ⟨_, (pss_cons (ps_set (i := 1) hnd rfl (by first | exact Or.inl rfl | exact Or.inr rfl) (pe_cal k_draw hr (by omega) (by rfl) (pa_cons (pv 0) (pa_cons pe_int pa_nil))))
      (pss_cons (ps_if (pt_cmpR op_eq (pv 1) pe_int (nomark _))
      (pss_cons (ps_set (i := 2) hnd rfl (by first | exact Or.inl rfl | exact Or.inr rfl) (pe_lst pa_nil))
      (pss_cons (ps_for PassesOwn.never (by rfl) (pi_range1 (by rfl) T.m_range (pa_cons pe_int pa_nil)) (pg_name (i := 3) hnd rfl (by first | exact Or.inl rfl | exact Or.inr rfl))
      (pss_one (ps_set (i := 2) hnd rfl (by first | exact Or.inl rfl | exact Or.inr rfl) (pe_op op_cat (pv 2) (pe_lc (own := [("_law_b", 4)]) (tt := tYes) (by rfl) hnd (pi_range1 (by rfl) T.m_range (pa_cons pe_int pa_nil)) (blkOk_by (own := [("_law_b", 4)]) (N := N_rule) (sc := defScope s_rule) (by decide +kernel)) (fun _ _ _ _ _ => (pg_name (i := 4) hnd rfl (by first | exact Or.inl rfl | exact Or.inr rfl))) (fun _ _ _ _ _ => pts_nil) (fun _ _ _ _ _ => (pe_tup (pa_cons (pv 3) (pa_cons (pv 4) (pa_cons (pe_op op_xor (pv 3) (pv 4)) pa_nil))))))))))
      (pss_one (ps_ret (pe_callTy (show CallR _ (.type "dict") (rDictPT K) from call_dictPT (by rfl) hu2) (by rfl) mdict (by decide +kernel) (pa_cons (pe_lc (own := [("_law_trio", 5)]) (tt := tYes) (by rfl) hnd (pi_list (pv 2)) (blkOk_by (own := [("_law_trio", 5)]) (N := N_rule) (sc := defScope s_rule) (by decide +kernel)) (fun _ _ _ _ _ => (pg_name (i := 5) hnd rfl (by first | exact Or.inl rfl | exact Or.inr rfl))) (fun _ _ _ _ _ => pts_nil) (fun _ _ _ _ _ => (pe_tup (pa_cons (pv 5) (pa_cons pe_bl pa_nil))))) pa_nil))))))
      pss_nil)
      (pss_cons (ps_set (i := 6) hnd rfl (by first | exact Or.inl rfl | exact Or.inr rfl) (pe_ix ix_list (pe_lst (pa_cons pe_int (pa_cons pe_int (pa_cons pe_int (pa_cons pe_int (pa_cons pe_int (pa_cons pe_int (pa_cons pe_int (pa_cons pe_int pa_nil))))))))) (pe_cal k_draw hr (by omega) (by rfl) (pa_cons (pv 0) (pa_cons pe_int pa_nil))) (fun _ _ => rfl)))
      (pss_cons (ps_set (i := 9) hnd rfl (by first | exact Or.inl rfl | exact Or.inr rfl) (pe_lc (own := [("_law_u", 7)]) (by rfl) hnd (pi_range1 (by rfl) T.m_range (pa_cons (pv 6) pa_nil)) (blkOk_by (own := [("_law_u", 7)]) (N := N_rule) (sc := defScope s_rule) (by decide +kernel)) (fun _ _ _ _ _ => (pg_name (i := 7) hnd rfl (by first | exact Or.inl rfl | exact Or.inr rfl))) (fun _ _ _ _ _ => (pts_one (pt_cmpR (show OpR _ (compareOp .NotEq) (rNeD K) from op_neD hr.units) (pe_lc (own := [("_law_v", 8)]) (by rfl) hnd (pi_range1 (by rfl) T.m_range (pa_cons (pv 6) pa_nil)) (blkOk_by (own := [("_law_v", 8)]) (N := N_rule) (sc := { kind := .function, names := [(".0", .local), ("_law_u", .cell), ("range", .globalImplicit), ("_law_m", .cell)], isGenerator := false, isCoroutine := false }) (by decide +kernel)) (fun _ _ _ _ _ => (pg_name (i := 8) hnd rfl (by first | exact Or.inl rfl | exact Or.inr rfl))) (fun _ _ _ _ _ => (pts_one (pt_cmpR op_eq (pe_op op_mod (pe_callTy call_int1 (by rfl) T.m_int (by decide +kernel) (pa_cons (pe_op op_sub (pe_op op_mul (pv 7) (pv 8)) pe_int) pa_nil)) (pv 6)) pe_int (nomark _)))) (fun _ _ _ _ _ => (pv 8))) (pe_lst pa_nil) (nomark _)))) (fun _ _ _ _ _ => (pv 7))))
      (pss_cons (ps_pairL rfl (pa_cons (pe_ix ix_list (pv 9) (pe_cal k_draw hr (by omega) (by rfl) (pa_cons (pv 0) (pa_cons (pe_callB call_len_seq (by rfl) T.m_len (by decide +kernel) (pa_cons (pv 9) pa_nil)) pa_nil))) (fun _ _ => rfl)) (pa_cons (pe_ix ix_list (pv 9) (pe_cal k_draw hr (by omega) (by rfl) (pa_cons (pv 0) (pa_cons (pe_callB call_len_seq (by rfl) T.m_len (by decide +kernel) (pa_cons (pv 9) pa_nil)) pa_nil))) (fun _ _ => rfl)) pa_nil)) (pgs_cons (pg_name (i := 10) hnd rfl (by first | exact Or.inl rfl | exact Or.inr rfl)) (pgs_cons (pg_name (i := 11) hnd rfl (by first | exact Or.inl rfl | exact Or.inr rfl)) pgs_nil)) (by rfl) (by rfl) (by rfl))
      (pss_cons (ps_if (pt_cmpR (show OpR _ (compareOp .In) (rInD K) from op_inD hu65) (pv 1) (pe_lst (pa_cons pe_int (pa_cons pe_int (pa_cons pe_int (pa_cons pe_int pa_nil))))) (by rfl))
      (pss_one (ps_asg (pe_ix ix_list (pe_lst (pa_cons (pe_tup (pa_cons (pv 10) (pa_cons (pv 10) pa_nil))) (pa_cons (pe_tup (pa_cons (pe_op op_sub (pv 6) pe_int) (pa_cons (pv 11) pa_nil))) (pa_cons (pe_tup (pa_cons (pv 10) (pa_cons (pe_op op_sub (pv 6) pe_int) pa_nil))) (pa_cons (pe_tup (pa_cons (pe_op op_sub (pv 6) pe_int) (pa_cons (pe_op op_sub (pv 6) pe_int) pa_nil))) pa_nil))))) (pe_op op_sub (pv 1) pe_int) (fun _ _ => rfl)) (pg_tup (by rfl) (pgs_cons (pg_name (i := 10) hnd rfl (by first | exact Or.inl rfl | exact Or.inr rfl)) (pgs_cons (pg_name (i := 11) hnd rfl (by first | exact Or.inl rfl | exact Or.inr rfl)) pgs_nil)))))
      pss_nil)
      (pss_cons (ps_if (pt_cmpR op_eq (pv 1) pe_int (nomark _))
      (pss_one (ps_tripL rfl (pa_cons pe_int (pa_cons pe_int (pa_cons pe_int pa_nil))) (pgs_cons (pg_name (i := 6) hnd rfl (by first | exact Or.inl rfl | exact Or.inr rfl)) (pgs_cons (pg_name (i := 10) hnd rfl (by first | exact Or.inl rfl | exact Or.inr rfl)) (pgs_cons (pg_name (i := 11) hnd rfl (by first | exact Or.inl rfl | exact Or.inr rfl)) pgs_nil))) (by rfl) (by rfl) (by rfl)))
      pss_nil)
      (pss_cons (ps_setLc (i := 12) (own := [("_law_u", 7)]) (by rfl) hnd rfl (by rfl) (sw_true rfl rfl rfl (by decide +kernel)) (pi_list (pv 9)) (blkOk_by (own := [("_law_u", 7)]) (N := N_rule) (sc := defScope s_rule) (by decide +kernel)) (fun _ _ _ _ _ => (pg_name (i := 7) hnd rfl (by first | exact Or.inl rfl | exact Or.inr rfl))) (fun _ _ _ _ _ => (pts_one (pt_cmpR (show OpR _ (compareOp .In) (rInD K) from op_inD hu65) (pe_op op_mod (pe_callTy call_int1 (by rfl) T.m_int (by decide +kernel) (pa_cons (pe_op op_sub pe_int (pv 7)) pa_nil)) (pv 6)) (pv 9) (by rfl)))) (fun _ _ _ _ _ => (pv 7)))
      (pss_cons (ps_if (PW.pt (pw_and (pt_cmpR op_eq (pv 1) pe_int (nomark _)) (pw_and1 (pt_cmpR (op_neD hr.units) (pv 12) (pe_lst pa_nil) (nomark _)))))
      (pss_cons (ps_set (i := 10) hnd rfl (by first | exact Or.inl rfl | exact Or.inr rfl) (pe_ix ix_list (pv 12) (pe_cal k_draw hr (by omega) (by rfl) (pa_cons (pv 0) (pa_cons (pe_callB call_len_seq (by rfl) T.m_len (by decide +kernel) (pa_cons (pv 12) pa_nil)) pa_nil))) (fun _ _ => rfl)))
      (pss_one (ps_set (i := 11) hnd rfl (by first | exact Or.inl rfl | exact Or.inr rfl) (pe_op op_mod (pe_callTy call_int1 (by rfl) T.m_int (by decide +kernel) (pa_cons (pe_op op_sub pe_int (pv 10)) pa_nil)) (pv 6)))))
      pss_nil)
      (pss_cons (ps_set (i := 13) hnd rfl (by first | exact Or.inl rfl | exact Or.inr rfl) (pe_ifExp (pt_cmpR op_eq (pe_cal k_draw hr (by omega) (by rfl) (pa_cons (pv 0) (pa_cons pe_int pa_nil))) pe_int (nomark _)) (pe_cal k_draw hr (by omega) (by rfl) (pa_cons (pv 0) (pa_cons (pv 6) pa_nil))) pe_int))
      (pss_cons (ps_set (i := 2) hnd rfl (by first | exact Or.inl rfl | exact Or.inr rfl) (pe_lst pa_nil))
      (pss_cons (ps_for PassesOwn.never (by rfl) (pi_range1 (by rfl) T.m_range (pa_cons (pv 6) pa_nil)) (pg_name (i := 3) hnd rfl (by first | exact Or.inl rfl | exact Or.inr rfl))
      (pss_one (ps_set (i := 2) hnd rfl (by first | exact Or.inl rfl | exact Or.inr rfl) (pe_op op_cat (pv 2) (pe_lc (own := [("_law_b", 4)]) (tt := tYes) (by rfl) hnd (pi_range1 (by rfl) T.m_range (pa_cons (pv 6) pa_nil)) (blkOk_by (own := [("_law_b", 4)]) (N := N_rule) (sc := defScope s_rule) (by decide +kernel)) (fun _ _ _ _ _ => (pg_name (i := 4) hnd rfl (by first | exact Or.inl rfl | exact Or.inr rfl))) (fun _ _ _ _ _ => pts_nil) (fun _ _ _ _ _ => (pe_tup (pa_cons (pv 3) (pa_cons (pv 4) (pa_cons (pe_op op_mod (pe_callTy call_int1 (by rfl) T.m_int (by decide +kernel) (pa_cons (pe_op op_add (pe_op op_add (pe_op op_mul (pv 10) (pv 3)) (pe_op op_mul (pv 11) (pv 4))) (pv 13)) pa_nil)) (pv 6)) pa_nil))))))))))
      (pss_one (ps_ret (pe_callTy (show CallR _ (.type "dict") (rDictPT K) from call_dictPT (by rfl) hu2) (by rfl) mdict (by decide +kernel) (pa_cons (pe_lc (own := [("_law_trio", 5)]) (tt := tYes) (by rfl) hnd (pi_list (pv 2)) (blkOk_by (own := [("_law_trio", 5)]) (N := N_rule) (sc := defScope s_rule) (by decide +kernel)) (fun _ _ _ _ _ => (pg_name (i := 5) hnd rfl (by first | exact Or.inl rfl | exact Or.inr rfl))) (fun _ _ _ _ _ => pts_nil) (fun _ _ _ _ _ => (pe_tup (pa_cons (pv 5) (pa_cons pe_bl pa_nil))))) pa_nil)))))))))))))))), ?_⟩
    refine ⟨_, rfl, p, 9, rfl, hp, by decide, by decide, fun way H1 w0 w1 s1 u1 => ?_⟩
    refine gname_go ?_
    dsimp only
    refine ⟨_, rfl, rfl, _, rfl, ite2 (fun h8 => ?_) (fun _ => ?_)⟩
    · refine ⟨Nat.zero_le _, fun D nD => ?_⟩
      refine gname_go ?_
      dsimp only
      have s2 := same_new (o := .lst []) nD
      refine seq_go ?_
      refine rows_for (N := 8) (by decide) ?_ ?_ ⟨[], upd_same, .nil⟩ fun D' R' G' x3 x4 sG hD' hl => ?_
      · exact fun _ _ _ _ _ h => h
      · exact fun x2 a b H' Q' _ _ h => ⟨_, rfl, _, rfl, _, _, rfl, rfl, h _⟩
      exact fin_rule hD' hl fun d R'' H' sH hR => q d R'' H' (s1.trans (SameB.of ((s2.trans sG).trans sH))) (u1.same ((s2.trans sG).trans sH)) hR
    · dsimp only [tNext]
      obtain ⟨st, dg, c, ep, _⟩ := id u1.ex
      refine ⟨Nat.le_of_ble_eq_true rfl, fun l nl => ⟨_, rfl, p, 8, rfl, u1.same (same_new nl), by decide, by decide, fun d H2 d0 d1 s2 u2 => ?_⟩⟩
      have el := s2 _ _ (ne_of_none ep nl).symm (upd_same (H := H1) (a := l))
      obtain ⟨m, em, hm⟩ := m_at d d0 d1
      obtain ⟨m1, m8⟩ := m_le m hm
      obtain ⟨un, ub⟩ := units_ok m hm
      have ul := units_len m m
      have sB2 : SameB p H H2 := s1.trans ((SameB.of (same_new nl)).trans s2)
      refine ⟨l, _, d, .int m, rfl, rfl, SqL.of el, em, gname_go ?_⟩
      dsimp only
      refine ⟨_, rfl, (m : Int), rfl, by omega, by omega, fun U nU => ?_⟩
      obtain ⟨st2, dg2, c2, ep2, _⟩ := id u2.ex
      have nUp : U ≠ p := (ne_of_none ep2 nU).symm
      refine lc_range (fun j G => Same H2 G ∧ G U = some (.lst ((unitsD m j).map V.int))) ⟨same_new nU, upd_same⟩ ?_ ?_
      · rintro j G hj ⟨sg, eg⟩
        have hj : j < m := by simpa using hj
        refine ⟨rfl, ?_⟩
        refine ⟨_, rfl, (m : Int), rfl, by omega, by omega, fun L nL => ?_⟩
        refine lc_range (fun k G' => Same G G' ∧ G' L = some (.lst ((innerD m (0 + (j : Int)) k).map V.int))) ⟨same_new nL, upd_same⟩ ?_ ?_
        · rintro k G2 hk ⟨s3, e3⟩
          have hk : k < m := by simpa using hk
          refine ⟨rfl, ?_⟩
          refine ⟨_, rfl, _, rfl, _, _, rfl, rfl, .inl ⟨by omega, by omega⟩, _, _, rfl, rfl, .inl ⟨_, rfl, _, rfl, _, _, rfl, rfl, by show (0 : Int) < m; omega, rfl, _, rfl, ?_⟩⟩
          have il := inner_len m (0 + (j : Int)) k
          by_cases c : ((0 + (j : Int)) * (0 + (k : Int)) - 1) % (m : Int) = 0
          · rw [show decide (V.int (((0 + (j : Int)) * (0 + (k : Int)) - 1) % (m : Int)) = V.int 0) = true from decide_eq_true (by rw [c])]
            refine iteT ⟨_, rfl, _, e3, by rw [List.length_map, sizeLine_eq]; omega, same_put nL s3, ?_⟩
            rw [upd_same, innerD_pos c, List.map_append]
            rfl
          · rw [show decide (V.int (((0 + (j : Int)) * (0 + (k : Int)) - 1) % (m : Int)) = V.int 0) = false from decide_eq_false (fun z => c (by injection z))]
            refine iteF ⟨s3, ?_⟩
            rw [e3, innerD_neg c]
        · rintro G2 ⟨s3, e3⟩
          rw [Int.toNat_natCast] at e3
          refine ⟨Nat.zero_le _, fun L2 nL2 => ?_⟩
          have s4 := same_new (o := .lst []) nL2
          have e4 := upd_same (H := G2) (a := L2) (o := .lst [])
          generalize upd G2 L2 (.lst []) = G3 at s4 e4 ⊢
          refine ⟨.list ((innerD m (0 + (j : Int)) m).map PyData.int), .list [], .lst (SqL.of (s4 _ _ e3)) (dp_ints _), .lst (SqL.of e4) .nil, ints_shaped _, nil_shaped, _, rfl, ?_⟩
          rw [ints_nil]
          have ul2 := units_len m j
          by_cases c : innerD m (0 + (j : Int)) m = []
          · rw [decide_eq_true c]
            refine iteF ⟨(sg.trans s3).trans s4, ?_⟩
            rw [s4 _ _ (s3 _ _ eg), unitsD_pos c]
          · rw [decide_eq_false c]
            refine iteT ⟨_, rfl, _, s4 _ _ (s3 _ _ eg), by rw [List.length_map, sizeLine_eq]; omega, same_put nU ((sg.trans s3).trans s4), ?_⟩
            rw [upd_same, unitsD_neg c, List.map_append]
            rfl
      · rintro G ⟨sg, eU⟩
        rw [Int.toNat_natCast] at eU
        generalize unitsD m m = us at eU un ub ul
        have usp : 0 < us.length := List.length_pos_iff.mpr un
        refine gname_go ?_
        dsimp only
        have uG := u2.same sg
        refine ⟨_, rfl, _, rfl, _, rfl, U, _, rfl, .inl (SqL.of eU), p, _, rfl, uG, by rw [List.length_map]; omega, by rw [List.length_map]; omega, fun d3 H3 d30 d31 s3 u3 => ?_⟩
        rw [List.length_map] at d31
        have eU3 := s3 _ _ nUp eU
        obtain ⟨p0, ap, hp0⟩ := ints_at d30 d31
        refine ⟨U, _, d3, .int p0, rfl, rfl, SqL.of eU3, ap, ?_⟩
        refine ⟨_, rfl, _, rfl, _, rfl, U, _, rfl, .inl (SqL.of eU3), p, _, rfl, u3, by rw [List.length_map]; omega, by rw [List.length_map]; omega, fun d4 H4 d40 d41 s4 u4 => ?_⟩
        rw [List.length_map] at d41
        have eU4 := s4 _ _ nUp eU3
        obtain ⟨q0, aq, hq0⟩ := ints_at d40 d41
        refine ⟨U, _, d4, .int q0, rfl, rfl, SqL.of eU4, aq, ?_⟩
        refine ⟨rfl, _, _, rfl, _, _, rfl, rfl, ?_⟩
        have sB4 : SameB p H H4 := ((sB2.trans (SameB.of sg)).trans s3).trans s4
        have bp := ub p0 hp0
        have bq := ub q0 hq0
        try dsimp only
        refine seqx (fun σ' G' => ∃ pp qq : Int, σ' = [some (.ref p), some (.int way), none, none, none, none, some (.int (m : Int)), none, none, some (.ref U), some (.int pp), some (.int qq), none, none] ∧ 0 ≤ pp ∧ pp < 8 ∧ 0 ≤ qq ∧ qq < 8 ∧ Same H4 G') ?_ fun key => ?_
        · rintro σ' G5 ⟨pp, qq, rfl, bp0, bp1, bq0, bq1, s5⟩
          try dsimp only
          refine seqx (fun σ' G' => ∃ (m : Nat) (pp qq : Int), σ' = [some (.ref p), some (.int way), none, none, none, none, some (.int (m : Int)), none, none, some (.ref U), some (.int pp), some (.int qq), none, none] ∧ 1 ≤ m ∧ m ≤ 8 ∧ 0 ≤ pp ∧ pp < 8 ∧ 0 ≤ qq ∧ qq < 8 ∧ G' = G5) ?_ fun key => ?_
          · rintro σ' G' ⟨m, pp, qq, rfl, m1, m8, bp0, bp1, bq0, bq1, rfl⟩
            have eU5 := s5 _ _ eU4
            have u5 := u4.same s5
            have sB5 := sB4.trans (SameB.of s5)
            refine ⟨_, rfl, U, rfl, ⟨_, SqL.of eU5⟩, fun Vh nV => ?_⟩
            obtain ⟨st5, dg5, c5, ep5, _⟩ := id u5.ex
            have nVp : Vh ≠ p := (ne_of_none ep5 nV).symm
            refine lc_list (xs := us.map V.int) (fun i G => Same G' G ∧ ∃ hs : List Int, G Vh = some (.lst (hs.map V.int)) ∧ hs.length ≤ i ∧ ∀ h ∈ hs, 0 ≤ h ∧ h < 8) ⟨same_new nV, [], upd_same, Nat.le_refl _, fun h hh => by cases hh⟩ (fun i G _ z => SqL.of (z.1 _ _ eU5)) ?_ ?_
            · rintro i z G6 hz ⟨s6, hs, e6, l6, b6⟩
              obtain ⟨u, rfl, hu⟩ := mem_map_int hz
              have li : i < us.length := by
                have := (List.getElem?_eq_some_iff.mp hz).1
                rwa [List.length_map] at this
              refine ⟨rfl, ?_⟩
              refine ⟨_, rfl, _, _, rfl, rfl, .inl ⟨_, rfl, _, rfl, _, _, rfl, rfl, by show (0 : Int) < m; omega, _, rfl, .int _, us.map PyData.int, .int _, .lst (SqL.of (s6 _ _ eU5)) (dp_ints _), int_shaped _, ints_shaped _, _, rfl, ?_⟩⟩
              generalize ((us.map PyData.int).any fun z => PyData.eqv z _) = b
              cases b with
              | false => exact iteF ⟨s6, hs, e6, by omega, b6⟩
              | true =>
                refine iteT ⟨_, rfl, _, e6, by rw [List.length_map, sizeLine_eq]; omega, same_put nV s6, hs ++ [u], by rw [upd_same, List.map_append]; rfl, by rw [List.length_append, List.length_singleton]; omega, fun h hh => ?_⟩
                rcases List.mem_append.mp hh with hh | hh
                · exact b6 h hh
                · rw [List.mem_singleton.mp hh]
                  exact ub u hu
            · rintro G6 ⟨s6, hs, e6, l6, b6⟩
              rw [List.length_map] at l6
              refine gname_go ?_
              dsimp only
              have u6 := u5.same s6
              have sB6 := sB5.trans (SameB.of s6)
              try dsimp only
              refine seqx (fun σ' G => ∃ pp qq : Int, σ' = [some (.ref p), some (.int way), none, none, none, none, some (.int (m : Int)), none, none, some (.ref U), some (.int pp), some (.int qq), some (.ref Vh), none] ∧ 0 ≤ pp ∧ pp < 8 ∧ 0 ≤ qq ∧ qq < 8 ∧ SameB p G6 G ∧ Purse G p) ?_ fun key => ?_
              · rintro σ' G7 ⟨pp, qq, rfl, bp0, bp1, bq0, bq1, s7, u7⟩
                try dsimp only
                refine seqx (fun σ' G => ∃ r : Int, σ' = [some (.ref p), some (.int way), none, none, none, none, some (.int (m : Int)), none, none, some (.ref U), some (.int pp), some (.int qq), some (.ref Vh), some (.int r)] ∧ 0 ≤ r ∧ r < 8 ∧ SameB p G7 G ∧ Purse G p) ?_ fun key => ?_
                · rintro σ' G8 ⟨r, rfl, br0, br1, s8, u8⟩
                  refine ⟨Nat.zero_le _, fun D nD => ?_⟩
                  refine gname_go ?_
                  dsimp only
                  have s9 := same_new (o := .lst []) nD
                  refine seq_go ?_
                  refine rows_for (N := m) m8 ?_ ?_ ⟨[], upd_same, .nil⟩ fun D' R' G' x3 x4 sG hD' hl => ?_
                  · exact fun _ _ _ _ _ h => ⟨_, rfl, h⟩
                  · exact fun x2 a b H' Q' ha hb h => ⟨_, rfl, _, rfl, _, _, rfl, rfl, .inl ⟨by omega, by omega⟩, _, rfl, _, rfl, _, _, rfl, rfl, .inl ⟨by omega, by omega⟩, _, _, rfl, rfl, _, rfl, _, _, rfl, rfl, .inl ⟨_, rfl, _, rfl, _, _, rfl, rfl, by show (0 : Int) < m; omega, h _⟩⟩
                  exact fin_rule hD' hl fun d R'' H' sH hR => q d R'' H' (((sB6.trans s7).trans s8).trans (SameB.of ((s9.trans sG).trans sH))) (u8.same ((s9.trans sG).trans sH)) hR
                · refine ⟨_, rfl, p, 2, rfl, u7, by decide, by decide, fun d8 G8 _ _ s8 u8 => ⟨rfl, _, rfl, ite2 (fun _ => ?_) (fun _ => ?_)⟩⟩
                  · refine ⟨_, rfl, _, rfl, p, (m : Int), rfl, u8, by omega, by omega, fun r G9 r0 r1 s9 u9 => ?_⟩
                    exact gname_go (key _ _ ⟨r, rfl, r0, by omega, s8.trans s9, u9⟩)
                  · exact gname_go (key _ _ ⟨0, rfl, by decide, by decide, s8, u8⟩)
              · refine ⟨_, rfl, rfl, _, rfl, ite2 (fun _ => ?_) (fun _ => ?_)⟩
                · refine ⟨_, rfl, Nat.zero_le _, fun L2 nL2 => ?_⟩
                  have s7 := same_new (o := .lst []) nL2
                  have e7 := upd_same (H := G6) (a := L2) (o := .lst [])
                  generalize upd G6 L2 (.lst []) = G7 at s7 e7 ⊢
                  refine ⟨.list (hs.map PyData.int), .list [], .lst (SqL.of (s7 _ _ e6)) (dp_ints _), .lst (SqL.of e7) .nil, ints_shaped _, nil_shaped, _, rfl, ?_⟩
                  rw [ints_nil]
                  by_cases c : hs = []
                  · rw [decide_eq_true c]
                    exact iteF (key _ _ ⟨pp, qq, rfl, bp0, bp1, bq0, bq1, SameB.of s7, u6.same s7⟩)
                  · rw [decide_eq_false c]
                    have hpos : 0 < hs.length := List.length_pos_iff.mpr c
                    refine iteT ⟨_, rfl, _, rfl, _, rfl, Vh, _, rfl, .inl (SqL.of (s7 _ _ e6)), p, _, rfl, u6.same s7, by rw [List.length_map]; omega, by rw [List.length_map]; omega, fun d8 G8 d80 d81 s8 u8 => ?_⟩
                    rw [List.length_map] at d81
                    obtain ⟨h0, ah, hh0⟩ := ints_at d80 d81
                    have bh := b6 h0 hh0
                    refine ⟨Vh, _, d8, .int h0, rfl, rfl, SqL.of (s8 _ _ nVp (s7 _ _ e6)), ah, gname_go ?_⟩
                    dsimp only
                    refine ⟨_, rfl, _, _, rfl, rfl, .inl ⟨_, rfl, _, rfl, _, _, rfl, rfl, by show (0 : Int) < m; omega, gname_go ?_⟩⟩
                    have e1 := Int.emod_nonneg (1 - h0) (show (m : Int) ≠ 0 by omega)
                    have e2 := Int.emod_lt_of_pos (1 - h0) (show (0 : Int) < m by omega)
                    exact key _ _ ⟨h0, _, rfl, bh.1, bh.2, e1, by omega, (SameB.of s7).trans s8, u8⟩
                · exact iteF (key _ _ ⟨pp, qq, rfl, bp0, bp1, bq0, bq1, SameB.refl _ _, u6⟩)
          · refine ⟨_, rfl, rfl, _, rfl, ite2 (fun _ => ?_) (fun _ => ?_)⟩
            · exact ⟨rfl, _, _, rfl, _, _, rfl, _, _, rfl, rfl, key _ _ ⟨7, 3, 5, rfl, by decide, by decide, by decide, by decide, by decide, by decide, rfl⟩⟩
            · exact key _ _ ⟨m, pp, qq, rfl, m1, m8, bp0, bp1, bq0, bq1, rfl⟩
        · refine ⟨_, rfl, Nat.le_of_ble_eq_true rfl, fun l5 nl5 => ?_⟩
          have s5 := same_new (o := .lst (([1, 2, 3, 4] : List Int).map V.int)) nl5
          have e5 := upd_same (H := H4) (a := l5) (o := .lst (([1, 2, 3, 4] : List Int).map V.int))
          refine ⟨.int way, ([1, 2, 3, 4] : List Int).map PyData.int, .int _, .lst (SqL.of e5) (dp_ints _), int_shaped _, ints_shaped _, _, rfl, ?_⟩
          rw [any_ints]
          by_cases c : way ∈ ([1, 2, 3, 4] : List Int)
          · rw [decide_eq_true c]
            refine iteT ?_
            refine ⟨_, rfl, _, rfl, Nat.le_of_ble_eq_true rfl, fun t1 n1 => ⟨_, rfl, _, _, rfl, rfl, _, rfl, Nat.le_of_ble_eq_true rfl, fun t2 n2 => ⟨_, rfl, _, rfl, _, _, rfl, rfl, Nat.le_of_ble_eq_true rfl, fun t3 n3 => ⟨_, rfl, _, _, rfl, rfl, _, rfl, _, _, rfl, rfl, Nat.le_of_ble_eq_true rfl, fun t4 n4 => ⟨Nat.le_of_ble_eq_true rfl, fun l6 n6 => ⟨_, rfl, _, _, rfl, rfl, ?_⟩⟩⟩⟩⟩⟩
            have a1 := same_new (o := .tup [V.int p0, .int p0]) n1
            have a2 := same_new (o := .tup [V.int ((m : Int) - 1), .int q0]) n2
            have a3 := same_new (o := .tup [V.int p0, .int ((m : Int) - 1)]) n3
            have a4 := same_new (o := .tup [V.int ((m : Int) - 1), .int ((m : Int) - 1)]) n4
            have a6 := same_new (o := .lst [V.ref t1, .ref t2, .ref t3, .ref t4]) n6
            have sAll := ((((s5.trans a1).trans a2).trans a3).trans a4).trans a6
            rcases (show way = 1 ∨ way = 2 ∨ way = 3 ∨ way = 4 by simpa using c) with rfl | rfl | rfl | rfl
            · exact ⟨l6, _, _, .ref t1, rfl, rfl, SqL.of upd_same, rfl, t1, _, rfl, SqT.of (a6 _ _ (a4 _ _ (a3 _ _ (a2 _ _ upd_same)))), rfl, _, _, rfl, _, _, rfl, rfl, key _ _ ⟨p0, p0, rfl, bp.1, bp.2, bp.1, bp.2, sAll⟩⟩
            · exact ⟨l6, _, _, .ref t2, rfl, rfl, SqL.of upd_same, rfl, t2, _, rfl, SqT.of (a6 _ _ (a4 _ _ (a3 _ _ upd_same))), rfl, _, _, rfl, _, _, rfl, rfl, key _ _ ⟨(m : Int) - 1, q0, rfl, by omega, by omega, bq.1, bq.2, sAll⟩⟩
            · exact ⟨l6, _, _, .ref t3, rfl, rfl, SqL.of upd_same, rfl, t3, _, rfl, SqT.of (a6 _ _ (a4 _ _ upd_same)), rfl, _, _, rfl, _, _, rfl, rfl, key _ _ ⟨p0, (m : Int) - 1, rfl, bp.1, bp.2, by omega, by omega, sAll⟩⟩
            · exact ⟨l6, _, _, .ref t4, rfl, rfl, SqL.of upd_same, rfl, t4, _, rfl, SqT.of (a6 _ _ upd_same), rfl, _, _, rfl, _, _, rfl, rfl, key _ _ ⟨(m : Int) - 1, (m : Int) - 1, rfl, by omega, by omega, by omega, by omega, sAll⟩⟩
          · rw [decide_eq_false c]
            exact iteF (key _ _ ⟨p0, q0, rfl, bp.1, bp.2, bq.1, bq.2, s5⟩)
end
end L2.K4
set_option Elab.async false
set_option linter.all false
set_option maxRecDepth 100000
set_option maxHeartbeats 8000000
namespace L2.K4
open PySem PySem.Spec PyProof.Rows L2.Tb
abbrev s_rule_right : Stmt := top 31
abbrev N_rule_right : List Str := ["_law_rule_here", "_law_of", "_law_one", "_law_mine", "_law_two", "_law_mate"]
theorem sc_rule_right : FnScope N_rule_right ["_law_rule_here"] (defScope s_rule_right) := ⟨rfl, rfl, rfl, by decide +kernel, rfl, by decide +kernel, by decide +kernel⟩
def spRuleRight : Sp := fun vs H Q _ => ∃ (d : Addr) (R : List (List Int)), vs = [.ref d] ∧ RuleAt H d R ∧ ∀ H', Same H H' → Q (.bl true) H'
theorem read_ok : ∀ d ∈ pairD, offCalm (lineS d.1 d.2) = d.1 ∧ (lineS d.1 d.2).length ≤ 10000 ∧ (!decide (V.str (offCalm (lineS d.1 d.2)) = V.str (lineS d.1 d.2))) = d.2 := by decide +kernel
theorem line_inj : ∀ d ∈ pairD, ∀ e ∈ pairD, lineS d.1 d.2 = lineS e.1 e.2 → d = e := by decide +kernel
theorem of_at {R : List (List Int)} {d : Str × Bool} (hd : d ∈ pairD) : ∀ L : List (Str × Bool), (∀ e ∈ L, e ∈ pairD) → d ∈ L → valV (L.map (ofKv R)) (.inr (lineS d.1 d.2)) = some (.bl (ofD R d))
  | [], _, h => by cases h
  | e :: L, hL, h => by
    rw [List.map_cons]
    by_cases c : lineS e.1 e.2 = lineS d.1 d.2
    · have := line_inj e (hL e (List.mem_cons_self ..)) d hd c
      subst this
      exact valV_pos rfl
    · rw [valV_neg (fun z => c (by injection z))]
      rcases List.mem_cons.mp h with rfl | h
      · exact absurd rfl c
      · exact of_at hd L (fun e he => hL e (List.mem_cons_of_mem _ he)) h
theorem dgl {R : List (List Int)} {H : Hp} {o : Addr} {od : Obj} (e : H o = some (.frz od (.dK (pairD.map (ofKv R))))) {d : Str × Bool} (hd : d ∈ pairD) : DGet H o (.str (lineS d.1 d.2)) (some (.bl (ofD R d))) :=
  .inl ⟨_, .inr (lineS d.1 d.2), .inr ⟨od, e⟩, rfl, (of_at hd pairD (fun _ h => h) hd).symm⟩
theorem dgk {R : List (List Int)} {H : Hp} {o : Addr} {od : Obj} (e : H o = some (.frz od (.dK (pairD.map (ofKv R))))) {d : Str × Bool} (hd : d ∈ pairD) : DGet H o (.str (kindS d.1 d.2)) (some (.bl (ofD R d))) := by
  rw [← line_kind d hd]
  exact dgl e hd
theorem key_item {R : List (List Int)} {i : Nat} {k : Key} {v : V} (h : (pairD.map (ofKv R))[i]? = some (k, v)) : ∃ d, d ∈ pairD ∧ k = .inr (lineS d.1 d.2) := by
  rw [List.getElem?_map] at h
  obtain ⟨d, e1, e2⟩ := Option.map_eq_some_iff.mp h
  exact ⟨d, List.mem_of_getElem? e1, (congrArg Prod.fst e2).symm⟩
section
variable {P : Program} {w : World} {K : PySem.W.Frag} {mg : Str → Option Value} {base : Heap} {f : Addr} {fd : FuncData} {C dL CT CF CX CN : Addr} {es : Array DictEntry} {n : Nat}
theorem c_rule_right (T : Bt mg) (KP : KiP P w K mg base C dL CT CF CX CN es n) (F : FnP K "_law_rule_right" s_rule_right f fd) (hm : mg "_law_rule_right" = some (.ref f)) (k_kinds_of : Cal P w K mg base 3 "_law_kinds_of" spKindsOf) : Cal P w K mg base 6 "_law_rule_right" spRuleRight := by
  have hnd := sc_rule_right.nd
  obtain ⟨mstr, KF, KG, _, ⟨fs, fds, hs, hsf, Fs, Bs⟩, ⟨gw, fdw, WM, Fw, Bw, BK⟩, sf, ⟨fa, fda, ha, haf, Fa, Ba⟩, ⟨fo, fdo, ho, hof, Fo, Bo⟩, _, _, ⟨mc, pr, gr, fdr, RC, RM, FRk, FR⟩⟩ := KP
  refine cal_mk F hm sc_rule_right (fun _ _ _ _ _ _ us hl => match us, hl with | [_], _ => rfl) (fun vs H Q E h => ?_) (fun cdv A outer s H vs Q E hr h => ?_)
  · obtain ⟨d, R, rfl, _⟩ := h
    rfl
  · obtain ⟨d, R, rfl, hR, q⟩ := h
    refine ⟨_, (pss_cons (ps_set (i := 1) hnd rfl (by first | exact Or.inl rfl | exact Or.inr rfl) (pe_cal k_kinds_of hr (by omega) (by rfl) (pa_cons (pv 0) pa_nil)))
      (pss_cons (ps_lock (ps_for PassesOwn.never (by rfl) (pi_keys (pv 1)) (pg_name (i := 2) hnd rfl (by first | exact Or.inl rfl | exact Or.inr rfl))
      (pss_cons (ps_set (i := 3) hnd rfl (by first | exact Or.inl rfl | exact Or.inr rfl) (ClX.pe_cmeth (pe_glob (v := .ref C) (by rfl) KF.mgC rfl) RC RM FR (hr.mono (by omega)) pass_none (pa_cons (pv 2) pa_nil)))
      (pss_one (ps_for PassesOwn.never (by rfl) (pi_keys (pv 1)) (pg_name (i := 4) hnd rfl (by first | exact Or.inl rfl | exact Or.inr rfl))
      (pss_cons (ps_set (i := 5) hnd rfl (by first | exact Or.inl rfl | exact Or.inr rfl) (ClX.pe_cmeth (pe_glob (v := .ref C) (by rfl) KF.mgC rfl) RC RM FR (hr.mono (by omega)) pass_none (pa_cons (pv 4) pa_nil)))
      (pss_cons (ps_if (pt_cmpR op_ne (pe_dget (Nat.lt_of_le_of_lt (Nat.add_le_add_left (by decide) _) hr.units) (pv 1) (pe_callTy (call_strOwn Fs (hr.mono (by omega)) hs hsf Bs) (by rfl) mstr (by decide +kernel) (pa_cons (pe_op (show OpR _ (binaryOp .BitAnd) (rOwnBin C (spK2 K C CN (gNew C andD))) from op_ownBin Fa (hr.mono (by omega)) sf ha haf Ba pass_none) (pv 3) (pv 5)) pa_nil)) (fun _ _ => rfl)) (pe_and (pe_dget (Nat.lt_of_le_of_lt (Nat.add_le_add_left (by decide) _) hr.units) (pv 1) (pv 2) (fun _ _ => rfl)) (pe_one (pe_dget (Nat.lt_of_le_of_lt (Nat.add_le_add_left (by decide) _) hr.units) (pv 1) (pv 4) (fun _ _ => rfl)))) (nomark _))
      (pss_one (ps_ret pe_bl))
      pss_nil)
      (pss_cons (ps_if (PW.pt (pw_and (PW.pt (pw_or (pt_val (pe_dget (Nat.lt_of_le_of_lt (Nat.add_le_add_left (by decide) _) hr.units) (pv 1) (pv 2) (fun _ _ => rfl))) (pw_or1 (pt_val (pe_dget (Nat.lt_of_le_of_lt (Nat.add_le_add_left (by decide) _) hr.units) (pv 1) (pv 4) (fun _ _ => rfl)))))) (pw_and1 (pt_not (pt_val (pe_dget (Nat.lt_of_le_of_lt (Nat.add_le_add_left (by decide) _) hr.units) (pv 1) (pe_callTy (call_strOwn Fs (hr.mono (by omega)) hs hsf Bs) (by rfl) mstr (by decide +kernel) (pa_cons (pe_op (show OpR _ (binaryOp .BitOr) (rOwnBin C (spK2 K C CN (gNew C orD))) from op_ownBin Fo (hr.mono (by omega)) sf ho hof Bo pass_none) (pv 3) (pv 5)) pa_nil)) (fun _ _ => rfl)))))))
      (pss_one (ps_ret pe_bl))
      pss_nil)
      (pss_one (ps_if (PW.pt (pw_and (pt_val (pe_dget (Nat.lt_of_le_of_lt (Nat.add_le_add_left (by decide) _) hr.units) (pv 1) (pv 2) (fun _ _ => rfl))) (pw_and (pt_not (pt_val (pe_dget (Nat.lt_of_le_of_lt (Nat.add_le_add_left (by decide) _) hr.units) (pv 1) (pv 4) (fun _ _ => rfl)))) (pw_and1 (pt_val (pe_meth (pv 3) KF.cls WM Fw (hr.mono (by omega)) Bw .nil pass_none (pa_cons (pv 5) pa_nil)))))))
      (pss_one (ps_ret pe_bl))
      pss_nil))))))))))
      (pss_one (ps_ret pe_bl)))), ?_⟩
    refine ⟨_, rfl, d, R, rfl, hR, fun o H1 s1 nHo eo => ?_⟩
    refine gname_go ?_
    dsimp only
    refine ⟨o, _, eo, trivial, fun od => ?_⟩
    have lock0 := upd_same (H := H1) (a := o) (o := .frz od (.dK (pairD.map (ofKv R))))
    have back : ∀ {G : Hp}, Same (upd H1 o (.frz od (.dK (pairD.map (ofKv R))))) G → Same H (upd G o (.dK (pairD.map (ofKv R)))) := fun {G} s b v e => by
      have n := ne_of_none e nHo
      rw [upd_ne n]
      refine s _ _ ?_
      rw [upd_ne n]
      exact s1 _ _ e
    generalize upd H1 o (.frz od (.dK (pairD.map (ofKv R)))) = G0 at lock0 back ⊢
    refine ⟨_, rfl, o, od, rfl, .inl ⟨_, lock0, ?_⟩⟩
    refine for_it walk_keys (fun i σ' G => Same G0 G ∧ ∃ x2 x3 x4 x5, σ' = [some (.ref d), some (.ref o), x2, x3, x4, x5]) ⟨Same.refl _, _, _, _, _, rfl⟩ (fun i σ' G _ h => h.1 _ _ lock0) ?_ ?_
    · rintro i z σ' G G' hi ⟨sg, x2, x3, x4, x5, rfl⟩ ⟨rfl, k, v, hkv, rfl⟩
      obtain ⟨x, mx, rfl⟩ := key_item hkv
      have wx := pair_word x mx
      obtain ⟨r1, r2, r3⟩ := read_ok x mx
      refine gname_go ?_
      dsimp only
      refine ⟨rfl, _, rfl, _, rfl, .inl ⟨_, rfl, r2, by rw [r1]; exact wx, fun a G1 sg1 _ ka => ?_⟩⟩
      rw [r3, r1] at ka
      refine gname_go ?_
      dsimp only
      have lock1 := sg1 _ _ (sg _ _ lock0)
      refine ⟨_, rfl, o, od, rfl, .inl ⟨_, lock1, ?_⟩⟩
      refine for_it walk_keys (fun i σ' G => Same G1 G ∧ ∃ x4 x5, σ' = [some (.ref d), some (.ref o), some (.str (lineS x.1 x.2)), some (.ref a), x4, x5]) ⟨Same.refl _, _, _, rfl⟩ (fun i σ' G _ h => h.1 _ _ lock1) ?_ ?_
      · rintro j z σ' G2 G2' hj ⟨sg2, x4, x5, rfl⟩ ⟨rfl, k, v, hkv, rfl⟩
        obtain ⟨y, my, rfl⟩ := key_item hkv
        have wy := pair_word y my
        obtain ⟨t1, t2, t3⟩ := read_ok y my
        refine gname_go ?_
        dsimp only
        refine ⟨rfl, _, rfl, _, rfl, .inl ⟨_, rfl, t2, by rw [t1]; exact wy, fun c G3 sg3 _ kc => ?_⟩⟩
        rw [t3, t1] at kc
        refine gname_go ?_
        dsimp only
        obtain ⟨dx, ea⟩ := (ka.same sg2).same sg3
        obtain ⟨dy, ec⟩ := kc
        have lock3 := sg3 _ _ (sg2 _ _ lock1)
        have ma : andD x y ∈ pairD := in_pair2 (prod_in x.1 (List.contains_iff_mem.mp wx) y.1 (List.contains_iff_mem.mp wy)) _
        have mo : orD x y ∈ pairD := in_pair2 (or_in_words x.1 (List.contains_iff_mem.mp wx) y.1 (List.contains_iff_mem.mp wy)) _
        refine seqx (fun σ' G => Same G3 G ∧ σ' = [some (.ref d), some (.ref o), some (.str (lineS x.1 x.2)), some (.ref a), some (.str (lineS y.1 y.2)), some (.ref c)]) ?_ fun key => ?_
        · rintro σ' G4 ⟨sg4, rfl⟩
          try dsimp only
          refine seqx (fun σ' G => Same G3 G ∧ σ' = [some (.ref d), some (.ref o), some (.str (lineS x.1 x.2)), some (.ref a), some (.str (lineS y.1 y.2)), some (.ref c)]) ?_ fun key => ?_
          · rintro σ' G5 ⟨sg5, rfl⟩
            have fin : Same G1 G5 := (sg2.trans sg3).trans sg5
            refine ⟨_, rfl, _, rfl, o, .bl _, rfl, dgl (sg5 _ _ lock3) mx, _, rfl, ?_⟩
            cases hA : ofD R x with
            | false => exact iteF (iteF ⟨fin, _, _, rfl⟩)
            | true =>
              refine iteT ⟨_, rfl, _, rfl, o, .bl _, rfl, dgl (sg5 _ _ lock3) my, _, rfl, ?_⟩
              cases hB : ofD R y with
              | true => exact iteF (iteF ⟨fin, _, _, rfl⟩)
              | false =>
                refine iteT ⟨_, rfl, a, dx, _, rfl, sg5 _ _ ea, rfl, _, rfl, a, x, .ref c, rfl, ⟨dx, sg5 _ _ ea⟩, wx, .inl ⟨c, y, rfl, ⟨dy, sg5 _ _ ec⟩, wy, fun G6 sg6 => ⟨_, rfl, ?_⟩⟩⟩
                have nw : withinD x y = false := by
                  cases h : withinD x y with
                  | false => rfl
                  | true =>
                    have := of_within hA h
                    rw [hB] at this
                    cases this
                rw [nw]
                exact iteF ⟨fin.trans sg6, _, _, rfl⟩
          · have orp : ∀ {Q' : Bool → Hp → Prop}, (∀ G6, Same G4 G6 → Q' false G6) → (ofD R x || ofD R y) = true → (tNot (tB (tDGet (tVar 1) (tCB (rStrOwn C (spKstr C)) (tCons (tOp (rOwnBin C (spK2 K C CN (gNew C orD))) (tVar 3) (tVar 5)) tNil))))) [some (.ref d), some (.ref o), some (.str (lineS x.1 x.2)), some (.ref a), some (.str (lineS y.1 y.2)), some (.ref c)] G4 Q' := fun {Q'} g hAB => by
              refine ⟨_, rfl, _, rfl, _, rfl, a, dx, _, c, dy, _, rfl, rfl, sg4 _ _ ea, sg4 _ _ ec, a, x, .ref c, rfl, ⟨dx, sg4 _ _ ea⟩, wx, .inl ⟨c, y, rfl, ⟨dy, sg4 _ _ ec⟩, wy, fun r G6 sg6 kr => ?_⟩⟩
              obtain ⟨dr, er⟩ := kr
              refine ⟨r, dr, _, rfl, er, r, _, _, rfl, ⟨dr, er⟩, kind_len _ mo, _, rfl, o, .bl _, rfl, dgk (sg6 _ _ (sg4 _ _ lock3)) mo, _, rfl, ?_⟩
              rw [of_or (List.contains_iff_mem.mp wx) (List.contains_iff_mem.mp wy) hAB]
              exact g _ sg6
            refine ⟨_, rfl, _, rfl, o, .bl _, rfl, dgl (sg4 _ _ lock3) mx, _, rfl, ?_⟩
            cases hA : ofD R x with
            | true => exact iteT (iteT (orp (fun G6 s => iteF (key _ _ ⟨sg4.trans s, rfl⟩)) (by rw [hA]; rfl)))
            | false =>
              refine iteF ⟨_, rfl, _, rfl, o, .bl _, rfl, dgl (sg4 _ _ lock3) my, _, rfl, ?_⟩
              cases hB : ofD R y with
              | true => exact iteT (orp (fun G6 s => iteF (key _ _ ⟨sg4.trans s, rfl⟩)) (by rw [hA, hB]; rfl))
              | false => exact iteF (iteF (key _ _ ⟨sg4, rfl⟩))
        · refine ⟨_, rfl, _, rfl, _, rfl, a, dx, _, c, dy, _, rfl, rfl, ea, ec, a, x, .ref c, rfl, ⟨dx, ea⟩, wx, .inl ⟨c, y, rfl, ⟨dy, ec⟩, wy, fun r G4 sg4 kr => ?_⟩⟩
          obtain ⟨dr, er⟩ := kr
          refine ⟨r, dr, _, rfl, er, r, _, _, rfl, ⟨dr, er⟩, kind_len _ ma, _, rfl, o, .bl _, rfl, dgk (sg4 _ _ lock3) ma, _, rfl, _, rfl, o, .bl _, rfl, dgl (sg4 _ _ lock3) mx, _, rfl, ?_⟩
          have e := of_and (R := R) (List.contains_iff_mem.mp wx) (List.contains_iff_mem.mp wy)
          cases hA : ofD R x with
          | false =>
            rw [hA, Bool.false_and] at e
            refine iteF ⟨rfl, _, rfl, ?_⟩
            rw [e]
            exact iteF (key _ _ ⟨sg4, rfl⟩)
          | true =>
            rw [hA, Bool.true_and] at e
            refine iteT ⟨_, rfl, _, rfl, o, .bl _, rfl, dgl (sg4 _ _ lock3) my, rfl, _, rfl, ?_⟩
            rw [e, show (!decide (V.bl (ofD R y) = V.bl (ofD R y))) = false by rw [decide_eq_true rfl]; rfl]
            exact iteF (key _ _ ⟨sg4, rfl⟩)
      · rintro σ' G2 ⟨sg2, x4, x5, rfl⟩
        exact ⟨(sg.trans sg1).trans sg2, _, _, _, _, rfl⟩
    · rintro σ' G ⟨sg, x2, x3, x4, x5, rfl⟩
      exact ⟨sg _ _ lock0, q _ (back sg)⟩
end
end L2.K4
set_option Elab.async false
set_option linter.all false
set_option maxRecDepth 100000
set_option maxHeartbeats 8000000
namespace L2.K4
open PySem PySem.Spec PyProof.Rows L2.Tb
def ExtB (p : Addr) (H H' : Hp) : Prop := ∀ b o, b ≠ p → H b = some o → (∀ ps, o ≠ .tbl ps) → H' b = some o
theorem ExtB.refl (p : Addr) (H : Hp) : ExtB p H H := fun _ _ _ e _ => e
theorem ExtB.ofB {p : Addr} {H H' : Hp} (s : SameB p H H') : ExtB p H H' := fun b o n e _ => s b o n e
theorem ExtB.ofS {p : Addr} {H H' : Hp} (s : Same H H') : ExtB p H H' := fun b o _ e _ => s b o e
theorem ExtB.ofN {p : Addr} {H H' : Hp} (s : LamX.ExtN H H') : ExtB p H H' := fun b o _ e t => s b o e t
theorem ExtB.trans {p : Addr} {H H1 H2 : Hp} (a : ExtB p H H1) (b : ExtB p H1 H2) : ExtB p H H2 := fun c o n e t => b c o n (a c o n e t) t
theorem tabs_B {T : List (Addr × Str)} {H H' : Hp} {p : Addr} (t : LamX.Tabs T H) (hp : Purse H p) (s : SameB p H H') : LamX.Tabs T H' := by
  obtain ⟨st, dg, c, e, _⟩ := hp.ex
  have out : ∀ {b o}, H b = some o → (∀ xs, o ≠ .lst xs) → H' b = some o := fun {b o} eb no => s b o (fun z => by
    rw [z, e] at eb
    exact no _ (Option.some.inj eb).symm) eb
  intro q hq
  obtain ⟨ps, h1, h2, h3⟩ := t q hq
  refine ⟨ps, out h1 (fun xs z => by cases z), h2, fun pos cv hc => ?_⟩
  obtain ⟨c', e1, e2⟩ := h3 pos cv hc
  refine ⟨c', e1, out e2 fun xs z => ?_⟩
  unfold LamX.CodeO at z
  cases z
theorem purse_N {H H' : Hp} {p : Addr} (h : Purse H p) (s : LamX.ExtN H H') : Purse H' p := by
  obtain ⟨st, dg, c, e, r⟩ := h.ex
  exact ⟨st, dg, c, s _ _ e (fun ps z => by cases z), r⟩

abbrev s_right : Stmt := top 33
abbrev N_right : List Str := ["_law_purse_here", "_law_odd_here", "_law_pair", "_law_mine", "_law_heard", "_law_each"]
theorem sc_right : FnScope N_right ["_law_purse_here"] (defScope s_right) := ⟨rfl, rfl, rfl, by decide +kernel, rfl, by decide +kernel, by decide +kernel⟩
abbrev q_right : Str := (envOfC "_law_right" (defScope s_right) 0 0 .none).qual ++ "<lambda>"
def tabsT (P1 : Addr) : List (Addr × Str) := [(P1, q_right)]
theorem tabs_u1 {P1 : Addr} : ∀ p ∈ tabsT P1, p.1 = P1 → p.2 = q_right := by
  intro p hp e
  rw [List.mem_singleton.mp hp]
def spTR (T : List (Addr × Str)) : Sp := fun vs H Q _ => ∃ p : Addr, vs = [.ref p] ∧ Purse H p ∧ LamX.Tabs T H ∧ ∀ H' : Hp, ExtB p H H' → Purse H' p → LamX.Tabs T H' → Q (.bl true) H'
theorem al_extN {H H' : Hp} (s : LamX.ExtN H H') : ∀ {n : Nat} {x y : V}, Al H n x y → Al H' n x y
  | 0, _, _, h => h
  | n + 1, x, y, h => by
    have go : ∀ {xs ys : List V}, Paired (Al H n) xs ys → Paired (Al H' n) xs ys := fun {xs ys} p => by
      induction p with
      | nil => exact .nil
      | cons r _ ih => exact .cons (al_extN s r) ih
    rcases h with h | ⟨a, b, xs, ys, h1, h2, h3, h4, h5, h6⟩ | ⟨a, b, xs, ys, h1, h2, h3, h4, h5, h6⟩ | ⟨a, kvs, h1, h2, h3, h4⟩
    · exact .inl h
    · exact .inr (.inl ⟨a, b, xs, ys, h1, h2, s _ _ h3 (fun ps z => by cases z), s _ _ h4 (fun ps z => by cases z), h5, go h6⟩)
    · exact .inr (.inr (.inl ⟨a, b, xs, ys, h1, h2, s _ _ h3 (fun ps z => by cases z), s _ _ h4 (fun ps z => by cases z), h5, go h6⟩))
    · exact .inr (.inr (.inr ⟨a, kvs, h1, h2, s _ _ h3 (fun ps z => by cases z), h4⟩))
theorem od_extN {H H' : Hp} (s : LamX.ExtN H H') : ∀ {n : Nat} {v : V}, Od H n v → Od H' n v
  | 0, _, h => h
  | n + 1, v, h => by
    rcases h with h | ⟨a, xs, h1, h2, h3, h4⟩ | ⟨a, xs, h1, h2, h3, h4⟩ | ⟨a, kvs, h1, h2, h3, h4⟩
    · exact .inl h
    · exact .inr (.inl ⟨a, xs, h1, s _ _ h2 (fun ps z => by cases z), h3, fun x hx => od_extN s (h4 x hx)⟩)
    · exact .inr (.inr (.inl ⟨a, xs, h1, s _ _ h2 (fun ps z => by cases z), h3, fun x hx => od_extN s (h4 x hx)⟩))
    · exact .inr (.inr (.inr ⟨a, kvs, h1, s _ _ h2 (fun ps z => by cases z), h3, h4⟩))
theorem od_B {H H' : Hp} {p : Addr} {n : Nat} {v : V} (o : Od H n v) (hp : Purse H p) (s : SameB p H H') : Od H' n v := by
  obtain ⟨st, dg, c, e, _⟩ := hp.ex
  exact o.keep e s
theorem od_up {H : Hp} : ∀ {n : Nat} {v : V}, Od H n v → Od H (n + 1) v
  | 0, v, h => .inl h
  | n + 1, v, h => by
    rcases h with h | ⟨a, xs, h1, h2, h3, h4⟩ | ⟨a, xs, h1, h2, h3, h4⟩ | ⟨a, kvs, h1, h2, h3, h4⟩
    · exact .inl h
    · exact .inr (.inl ⟨a, xs, h1, h2, h3, fun x hx => od_up (h4 x hx)⟩)
    · exact .inr (.inr (.inl ⟨a, xs, h1, h2, h3, fun x hx => od_up (h4 x hx)⟩))
    · exact .inr (.inr (.inr ⟨a, kvs, h1, h2, h3, h4⟩))
theorem keepT {G G' : Hp} {p r : Addr} {ys : List V} (u : Purse G p) (e : G r = some (.tup ys)) (s : SameB p G G') : G' r = some (.tup ys) := s _ _ (fun z => by
  obtain ⟨st, dg, c, e2, _⟩ := u.ex
  rw [← z, e] at e2
  cases e2) e
/-! ### odd values are no kinds -/
def oddT : List String := ["NoneType", "bool", "int", "str", "list", "tuple", "dict"]
structure OddG (K : PySem.W.Frag) (C : Addr) : Prop where
  kit : ∀ T ∈ oddT, PySem.W.kitOne K (.type T) (.ref C) = some false
  an : ∀ T ∈ oddT, Rgt K C .BitAnd T
  or_ : ∀ T ∈ oddT, Rgt K C .BitOr T
theorem od_ty2 {K : PySem.W.Frag} {H : Hp} {n : Nat} {v : V} (h : Od H (n + 1) v) : ∃ T ∈ oddT, TyX K H v (.type T) := by
  rcases h with h | ⟨a, xs, rfl, h2, _⟩ | ⟨a, xs, rfl, h2, _⟩ | ⟨a, kvs, rfl, h2, _⟩
  · cases v with
    | non => exact ⟨"NoneType", by decide, .base .non⟩
    | bl b => exact ⟨"bool", by decide, .base (.bl b)⟩
    | int i => exact ⟨"int", by decide, .base (.int i)⟩
    | str z => exact ⟨"str", by decide, .base (.str z)⟩
    | _ => cases h
  · exact ⟨"list", by decide, .base (.lst h2)⟩
  · exact ⟨"tuple", by decide, .base (.tup h2)⟩
  · exact ⟨"dict", by decide, .base (.dK h2)⟩
theorem tabs_put {T : List (Addr × Str)} {H : Hp} {D : Addr} {xs ys : List V} (t : LamX.Tabs T H) (e : H D = some (.lst xs)) : LamX.Tabs T (upd H D (.lst ys)) := by
  have out : ∀ {b o}, H b = some o → (∀ xs, o ≠ .lst xs) → (upd H D (.lst ys)) b = some o := fun {b o} eb no => by
    rw [upd_ne fun z => ?_]
    · exact eb
    · rw [z, e] at eb
      exact no _ (Option.some.inj eb).symm
  intro q hq
  obtain ⟨ps, h1, h2, h3⟩ := t q hq
  refine ⟨ps, out h1 (fun xs z => by cases z), h2, fun pos cv hc => ?_⟩
  obtain ⟨c', e1, e2⟩ := h3 pos cv hc
  refine ⟨c', e1, out e2 fun xs z => ?_⟩
  unfold LamX.CodeO at z
  cases z
theorem ext_put {B G : Hp} {D : Addr} {o : HO} (x : LamX.ExtN B G) (n : B D = none) : LamX.ExtN B (upd G D o) := fun b u e t => by
  rw [upd_ne (ne_of_none e n)]
  exact x b u e t
theorem extb_put {p D : Addr} {H G : Hp} {o : HO} (x : ExtB p H G) (n : H D = none) : ExtB p H (upd G D o) := fun b u np e t => by
  rw [upd_ne (ne_of_none e n)]
  exact x b u np e t
theorem ret_go {te : TE} {D : Ends} {σ : St} {H : Hp} (h : te σ H D.rt) : tRet te D σ H := h
theorem and_go {ta tb : TE} {σ : St} {H : Hp} {Q : VK} (h : ta σ H fun x H1 => ∃ c, x = .bl c ∧ if c = true then tb σ H1 Q else Q (.bl false) H1) : tAndV ta tb σ H Q := h
theorem al_one {H : Hp} {a b : Addr} {v : V} (ha : H a = some (.tup [v])) (hb : H b = some (.tup [v])) (hv : Al H 4 v v) : Al H 5 (.ref a) (.ref b) :=
  .inr (.inr (.inl ⟨a, b, _, _, rfl, rfl, ha, hb, Nat.le_of_ble_eq_true rfl, .cons hv .nil⟩))
section
variable {P : Program} {w : World} {K : PySem.W.Frag} {mg : Str → Option Value} {base : Heap} {at_ : Str × Option Str} {fd fdt : FuncData} {ft C dL CT CF CX CN P1 : Addr} {es : Array DictEntry} {n : Nat}
theorem c_right (T : Bt mg) (KP : KiP P w K mg base C dL CT CF CX CN es n) (OG : OddG K C) (TF : ToldN K mg CN) (Ft : FnP K "_law_told" s_told ft fdt) (mt : mg "_law_told" = some (.ref ft)) (TB : LamX.TabB base mg (He.codeOf K at_) P1)
    (F : FnP K "_law_right" s_right (He.fAd K at_) fd) (hm : mg "_law_right" = some (.ref (He.fAd K at_))) (k_draw : Cal P w K mg base 1 "_law_draw" spDraw) (k_pairs : Cal P w K mg base 2 "_law_pairs" spPairs) (k_odd : Cal P w K mg base 2 "_law_odd" spOdd3)
    (k_alike : Cal P w K mg base 6 "_law_alike" (spAlike 5)) (k_rule : Cal P w K mg base 2 "_law_rule" spRule) (k_rule_right : Cal P w K mg base 6 "_law_rule_right" spRuleRight) (k_line : Cal P w K mg base 1 "_law_line" (spLine K)) : CalG P w K mg base 9 "_law_right" (spTR (tabsT P1)) := by
  have hnd := sc_right.nd
  have b_told : Binds K fdt ["_law_act"] [] := Ft.bindsN fun _ _ _ _ _ _ us hl => match us, hl with | [_], _ => rfl
  obtain ⟨mstr, KF, KG, ⟨fi, fdi, KM, Fi, B1⟩, ⟨fs, fds, hs, hsf, Fs, Bs⟩, ⟨gw, fdw, WM, Fw, Bw, BK⟩, sf, ⟨fa, fda, ha, haf, Fa, Ba⟩, ⟨fo, fdo, ho, hof, Fo, Bo⟩, hra, hro, _⟩ := KP
  refine calG_mkC F hm sc_right (fun _ _ _ _ _ _ us hl => match us, hl with | [_], _ => rfl) (fun vs H Q E h => ?_) (fun cdv A outer s H vs Q E hcd hg2 hr h => ?_)
  · obtain ⟨p, rfl, _⟩ := h
    rfl
  · subst hcd
    obtain ⟨p, rfl, hp, hT, q⟩ := h
    have ktold := Ft.kp
    obtain ⟨oc, od, dV, kV, doc, pm, an, cdt, ct, osl, rfl, lk, hct, _, _⟩ := id Ft.ex
    refine ⟨_, PSs.nox (pss_cons (ps_if (pt_not (pt_val (pe_cal k_rule_right hr (by omega) (by rfl) (pa_cons (pe_cal k_rule hr (by omega) (by rfl) (pa_cons (pv 0) pa_nil)) pa_nil))))
      (pss_one (ps_ret pe_bl))
      pss_nil)
      (pss_cons (ps_pairL rfl (pa_cons (pe_cal k_odd hr (by omega) (by rfl) (pa_cons (pv 0) pa_nil)) (pa_cons (pe_ix ix_list (pe_cal0 k_pairs hr (by omega) (by rfl)) (pe_cal k_draw hr (by omega) (by rfl) (pa_cons (pv 0) (pa_cons pe_int pa_nil))) (fun _ _ => rfl)) pa_nil)) (pgs_cons (pg_name (i := 1) hnd rfl (by first | exact Or.inl rfl | exact Or.inr rfl)) (pgs_cons (pg_name (i := 2) hnd rfl (by first | exact Or.inl rfl | exact Or.inr rfl)) pgs_nil)) (by rfl) (by rfl) (by rfl))
      (pss_cons (ps_set (i := 3) hnd rfl (by first | exact Or.inl rfl | exact Or.inr rfl) (pe_makeK KM Fi (hr.mono (by omega)) (by rfl) KF.mgC B1 pass_none (pa_cons (pe_ix (show IxR _ (rIxT K) from ix_tup) (pv 2) pe_int (fun _ _ => rfl)) pa_nil) (pk_cons (pe_ix (show IxR _ (rIxT K) from ix_tup) (pv 2) pe_int (fun _ _ => rfl)) pk_nil)))
      (pss_cons (ps_set (i := 4) hnd rfl (by first | exact Or.inl rfl | exact Or.inr rfl) (pe_lst (pa_cons (LamX.pe_lamcall (T := tabsT P1) (k := 5) (P := P1) (by rfl) mt ktold lk hct b_told sc_told rfl (by first | exact .inl rfl | exact .inr (.inl rfl)) (told_gives TF) TB rfl List.mem_cons_self tabs_u1 (hr.mono (by decide)) (LamX.lamS_by (sc := defScope s_right) (by decide +kernel)) rfl (fun _ _ _ _ _ => rfl) (fun A outer s H E f c' hr5 => (pe_op (show OpR _ (binaryOp .BitAnd) (rOwnBinX K C .BitAnd (spK2 K C CN (gNew C andD)) E) from op_ownBinX (op := .BitAnd) Fa hr5 sf ha haf hra Ba (passes_call (takes_of rfl rfl rfl rfl) (fun _ _ _ _ h => h))) (pv 3) (pv 1)))) pa_nil)))
      (pss_cons (ps_expr (pe_bm PySem.F.plainAttrs_list PySem.F.slot_list_append PySem.F.type_list_append mt_append (pv 4) (pa_cons (LamX.pe_lamcall (T := tabsT P1) (k := 5) (P := P1) (by rfl) mt ktold lk hct b_told sc_told rfl (by first | exact .inl rfl | exact .inr (.inl rfl)) (told_gives TF) TB rfl List.mem_cons_self tabs_u1 (hr.mono (by decide)) (LamX.lamS_by (sc := defScope s_right) (by decide +kernel)) rfl (fun _ _ _ _ _ => rfl) (fun A outer s H E f c' hr5 => (pe_op (show OpR _ (binaryOp .BitOr) (rOwnBinX K C .BitOr (spK2 K C CN (gNew C orD)) E) from op_ownBinX (op := .BitOr) Fo hr5 sf ho hof hro Bo (passes_call (takes_of rfl rfl rfl rfl) (fun _ _ _ _ h => h))) (pv 3) (pv 1)))) pa_nil)))
      (pss_cons (ps_expr (pe_bm PySem.F.plainAttrs_list PySem.F.slot_list_append PySem.F.type_list_append mt_append (pv 4) (pa_cons (LamX.pe_lamcall (T := tabsT P1) (k := 5) (P := P1) (by rfl) mt ktold lk hct b_told sc_told rfl (by first | exact .inl rfl | exact .inr (.inl rfl)) (told_gives TF) TB rfl List.mem_cons_self tabs_u1 (hr.mono (by decide)) (LamX.lamS_by (sc := defScope s_right) (by decide +kernel)) rfl (fun _ _ _ _ _ => rfl) (fun A outer s H E f c' hr5 => (pe_meth (pv 3) KF.cls WM Fw hr5 Bw .nil (passes_call (takes_of rfl rfl rfl rfl) (fun _ _ _ _ h => h)) (pa_cons (pv 1) pa_nil)))) pa_nil)))
      (pss_one (ps_ret (pe_and (pe_callB (cr_all (by rfl)) (by rfl) T.m_all (by decide +kernel) (pa_cons (pe_lc (own := [("_law_each", 5)]) (tt := tYes) (by rfl) hnd (pi_list (pv 4)) (blkOk_by (own := [("_law_each", 5)]) (N := N_right) (sc := defScope s_right) (by decide +kernel)) (fun _ _ _ _ _ => (pg_name (i := 5) hnd rfl (by first | exact Or.inl rfl | exact Or.inr rfl))) (fun _ _ _ _ _ => pts_nil) (fun _ _ _ _ _ => (pe_cal k_alike hr (by omega) (by rfl) (pa_cons (pv 5) (pa_cons (pe_tup (pa_cons (pv 1) pa_nil)) pa_nil))))) pa_nil)) (pe_one (pe_cmpR op_eq (pe_callTy (call_strOwn Fs (hr.mono (by omega)) hs hsf Bs) (by rfl) mstr (by decide +kernel) (pa_cons (pv 3) pa_nil)) (pe_cal k_line hr (by omega) (by rfl) (pa_cons (pv 2) pa_nil)) (nomark _)))))))))))), ?_⟩
    refine ⟨_, rfl, p, rfl, hp, fun d0 R H1 s1 u1 hR => ⟨d0, R, rfl, hR, fun H2 s2 => ⟨_, rfl, iteF ?_⟩⟩⟩
    dsimp only [tNext]
    refine ⟨_, rfl, p, rfl, u1.same s2, fun v H3 s3 u3 ov _ _ => ⟨rfl, fun lp H4 ts s4 e4 pr => ⟨_, rfl, p, 12, rfl, u3.same s4, by decide, by decide, fun k H5 k0 k1 s5 u5 => ?_⟩⟩⟩
    have u4 := u3.same s4
    have l12 : ts.length = 12 := paired_len pr
    obtain ⟨kn, rfl⟩ := Int.eq_ofNat_of_zero_le k0
    have kl : kn < ts.length := by omega
    have hk : (ts.map V.ref)[kn]? = some (.ref ts[kn]) := by rw [List.getElem?_map, List.getElem?_eq_getElem kl]; rfl
    obtain ⟨tp, d, ep, hd, hta⟩ := pair_at pr hk
    have hmem : d ∈ pairD := List.mem_of_getElem? hd
    have hz := pair_word d hmem
    have nlp : lp ≠ p := fun z => by
      obtain ⟨st, dg, c, e, _⟩ := u4.ex
      rw [← z, e4] at e
      have := congrArg (fun o : Option HO => match o with | some (.lst xs) => xs.length | _ => 0) e
      simp [l12] at this
    have e5 := s5 _ _ nlp e4
    have hta5 : PairAt H5 tp d := keepT u4 hta s5
    have ov5 : Od H5 3 v := od_B (od_extN (LamX.ExtN.of s4) ov) u4 s5
    have sB5 : SameB p H H5 := (((s1.trans (SameB.of s2)).trans s3).trans (SameB.of s4)).trans s5
    rw [ep] at hk
    refine ⟨lp, _, (kn : Int), .ref tp, rfl, rfl, SqL.of e5, atI_nat hk, ?_⟩
    refine ⟨rfl, _, _, rfl, _, _, rfl, rfl, ?_⟩
    try dsimp only
    refine ⟨_, rfl, tp, _, 0, .str d.1, rfl, rfl, SqT.of hta5, rfl, _, rfl, tp, _, 1, .bl d.2, rfl, rfl, SqT.of hta5, rfl, rfl, rfl, fun a da na nda _ => made_ok (b := d.2) hz na nda fun H6 s6 k6 => ⟨rfl, gname_go ?_⟩⟩
    try dsimp only
    obtain ⟨dx, ea⟩ := k6
    have ov6 : Od H6 3 v := od_extN (LamX.ExtN.of s6) ov5
    have hta6 : PairAt H6 tp d := s6 _ _ hta5
    have u6 := u5.same s6
    have t6 : LamX.Tabs (tabsT P1) H6 := (tabs_B hT hp sB5).ext s6
    have x6 : ExtB p H H6 := (ExtB.ofB sB5).trans (ExtB.ofS s6)
    refine ⟨t6, fun G1 y1 w1 => ?_⟩
    obtain ⟨T1, m1, ty1⟩ := od_ty2 (K := K) (od_extN y1 ov6)
    refine ⟨_, rfl, _, rfl, a, dx, _, T1, rfl, y1 _ _ ea (fun ps z => by cases z), ty1, OG.an _ m1, a, d, v, rfl, ⟨dx, y1 _ _ ea (fun ps z => by cases z)⟩, hz, .inr ⟨.type T1, ty1, OG.kit _ m1, fun dd G2 s8 n8 e8 => ⟨rfl, dd, v, rfl, e8, fun A1 nA1 => ⟨Nat.le_of_ble_eq_true rfl, fun hl nhl => gname_go ?_⟩⟩⟩⟩
    try dsimp only
    have sA1 := same_new (o := .tup [v]) nA1
    have eA1 := upd_same (H := G2) (a := A1) (o := .tup [v])
    have yB : LamX.ExtN H6 (upd G2 A1 (.tup [v])) := y1.trans (LamX.ExtN.of (s8.trans sA1))
    have tB := ((w1.ext s8).ext sA1)
    generalize upd G2 A1 (.tup [v]) = B at sA1 eA1 yB tB nhl ⊢
    have eaB := yB _ _ ea (fun ps z => by cases z)
    have ovB : Od B 3 v := od_extN yB ov6
    have htaB : PairAt B tp d := yB _ _ hta6 (fun ps z => by cases z)
    have uB : Purse B p := purse_N u6 yB
    have xB : ExtB p H B := x6.trans (ExtB.ofN yB)
    have s1h := same_new (o := .lst [V.ref A1]) nhl
    have ehl := upd_same (H := B) (a := hl) (o := .lst [V.ref A1])
    generalize upd B hl (.lst [V.ref A1]) = C0 at s1h ehl ⊢
    have z0 : LamX.ExtN B C0 := LamX.ExtN.of s1h
    refine ⟨_, rfl, .inl ⟨rfl, _, SqL.of ehl⟩, tB.ext s1h, fun G3 y3 w3 => ?_⟩
    have z3 := z0.trans y3
    obtain ⟨T2, m2, ty2⟩ := od_ty2 (K := K) (od_extN z3 ovB)
    have ea3 := z3 _ _ eaB (fun ps z => by cases z)
    refine ⟨_, rfl, _, rfl, a, dx, _, T2, rfl, ea3, ty2, OG.or_ _ m2, a, d, v, rfl, ⟨dx, ea3⟩, hz, .inr ⟨.type T2, ty2, OG.kit _ m2, fun dd2 G4 s84 n84 e84 => ⟨rfl, dd2, v, rfl, e84, fun A2 nA2 => ?_⟩⟩⟩
    have sA2 := same_new (o := .tup [v]) nA2
    have eA2 := upd_same (H := G4) (a := A2) (o := .tup [v])
    have yC : LamX.ExtN C0 (upd G4 A2 (.tup [v])) := y3.trans (LamX.ExtN.of (s84.trans sA2))
    have tC := ((w3.ext s84).ext sA2)
    generalize upd G4 A2 (.tup [v]) = G5 at sA2 eA2 yC tC ⊢
    have ehl5 := yC _ _ ehl (fun ps z => by cases z)
    refine ⟨hl, [.ref A1], .ref A2, rfl, rfl, ehl5, by rw [sizeLine_eq]; exact Nat.lt_of_lt_of_le (by decide : 1 < 2) (by decide), ?_⟩
    have zC : LamX.ExtN B (upd G5 hl (.lst ([.ref A1] ++ [.ref A2]))) := ext_put (z0.trans yC) nhl
    have tC1 : LamX.Tabs (tabsT P1) (upd G5 hl (.lst ([.ref A1] ++ [.ref A2]))) := tabs_put tC ehl5
    have eA2' : upd G5 hl (.lst ([.ref A1] ++ [.ref A2])) A2 = some (.tup [v]) := by
      rw [upd_ne (fun z => by rw [z, ehl5] at eA2; cases eA2)]
      exact eA2
    have ehl6 := upd_same (H := G5) (a := hl) (o := .lst ([.ref A1] ++ [.ref A2]))
    generalize upd G5 hl (.lst ([.ref A1] ++ [.ref A2])) = C1 at zC tC1 eA2' ehl6 ⊢
    refine ⟨_, rfl, .inl ⟨rfl, _, SqL.of ehl6⟩, tC1, fun G6 y6 w6 => ?_⟩
    have z6 := zC.trans y6
    obtain ⟨T3, m3, ty3⟩ := od_ty2 (K := K) (od_extN z6 ovB)
    have ea6 := z6 _ _ eaB (fun ps z => by cases z)
    refine ⟨_, rfl, a, dx, _, rfl, ea6, rfl, _, rfl, a, d, v, rfl, ⟨dx, ea6⟩, hz, .inr ⟨.type T3, ty3, OG.kit _ m3, fun dd3 G7 s87 n87 e87 => ⟨rfl, dd3, v, rfl, e87, fun A3 nA3 => ?_⟩⟩⟩
    have sA3 := same_new (o := .tup [v]) nA3
    have eA3 := upd_same (H := G7) (a := A3) (o := .tup [v])
    have yD : LamX.ExtN C1 (upd G7 A3 (.tup [v])) := y6.trans (LamX.ExtN.of (s87.trans sA3))
    have tD := ((w6.ext s87).ext sA3)
    generalize upd G7 A3 (.tup [v]) = G8 at sA3 eA3 yD tD ⊢
    have ehl8 := yD _ _ ehl6 (fun ps z => by cases z)
    refine ⟨hl, _, .ref A3, rfl, rfl, ehl8, by rw [sizeLine_eq]; exact Nat.lt_of_lt_of_le (by decide : 2 < 3) (by decide), ?_⟩
    have zD : LamX.ExtN B (upd G8 hl (.lst ([.ref A1] ++ [.ref A2] ++ [.ref A3]))) := ext_put (zC.trans yD) nhl
    have tD1 : LamX.Tabs (tabsT P1) (upd G8 hl (.lst ([.ref A1] ++ [.ref A2] ++ [.ref A3]))) := tabs_put tD ehl8
    have nhA : ∀ {b : Addr} {xs : List V}, G8 b = some (.tup xs) → upd G8 hl (.lst ([.ref A1] ++ [.ref A2] ++ [.ref A3])) b = some (.tup xs) := fun {b xs} e => by
      rw [upd_ne (fun z => by rw [z, ehl8] at e; cases e)]
      exact e
    have fA1 := zD _ _ eA1 (fun ps z => by cases z)
    have fA2 := nhA (yD _ _ eA2' (fun ps z => by cases z))
    have fA3 := nhA eA3
    have ehl9 := upd_same (H := G8) (a := hl) (o := .lst ([.ref A1] ++ [.ref A2] ++ [.ref A3]))
    generalize upd G8 hl (.lst ([.ref A1] ++ [.ref A2] ++ [.ref A3])) = C2 at zD tD1 fA1 fA2 fA3 ehl9 ⊢
    have al : Al C2 4 v v := (od_up (od_extN zD ovB)).al
    try dsimp only
    refine ret_go (and_go ?_)
    refine cb_one ⟨_, rfl, hl, rfl, ⟨_, SqL.of ehl9⟩, fun D nD => ?_⟩
    refine lc_list (xs := [.ref A1] ++ [.ref A2] ++ [.ref A3]) (fun i G => Same C2 G ∧ G D = some (.lst (List.replicate i (.bl true)))) ⟨same_new nD, upd_same⟩ (fun i G _ z => SqL.of (z.1 _ _ ehl9)) ?_ ?_
    · rintro i z G hz2 ⟨sg, eg⟩
      refine ⟨rfl, ?_⟩
      unfold tYes
      dsimp only
      rw [if_pos rfl]
      obtain ⟨A0, rfl, hA0⟩ : ∃ A0, z = .ref A0 ∧ C2 A0 = some (.tup [v]) := by
        match i, hz2 with
        | 0, h => exact ⟨A1, (Option.some.inj h).symm, fA1⟩
        | 1, h => exact ⟨A2, (Option.some.inj h).symm, fA2⟩
        | 2, h => exact ⟨A3, (Option.some.inj h).symm, fA3⟩
      have li : i < 3 := (List.getElem?_eq_some_iff.mp hz2).1
      refine ⟨_, rfl, _, rfl, Nat.le_of_ble_eq_true rfl, fun t nt => ?_⟩
      have st := same_new (o := .tup [v]) nt
      refine ⟨_, _, rfl, al_one (st _ _ (sg _ _ hA0)) upd_same (al_extN (LamX.ExtN.of (sg.trans st)) al), fun G2 sg2 => ?_⟩
      exact ⟨_, sg2 _ _ (st _ _ eg), by rw [List.length_replicate, sizeLine_eq]; omega, same_put nD ((sg.trans st).trans sg2), by rw [upd_same, rep_succ]⟩
    · rintro G ⟨sg, eg⟩
      refine ⟨D, List.replicate _ true, rfl, SqL.of (by rw [eg, List.map_replicate]), ?_⟩
      rw [show (List.replicate (([.ref A1] ++ [.ref A2] ++ [.ref A3] : List V)).length true).all id = true from List.all_eq_true.mpr fun b' hb' => by rw [List.eq_of_mem_replicate hb']; rfl]
      have zG := zD.trans (LamX.ExtN.of sg)
      have eaG := zG _ _ eaB (fun ps z => by cases z)
      refine ⟨_, rfl, iteT ⟨_, rfl, a, dx, _, rfl, eaG, a, d.1, d.2, rfl, ⟨dx, eaG⟩, kind_len d hmem, _, rfl, _, rfl, tp, d.1, d.2, rfl, zG _ _ htaB (fun ps z => by cases z), kind_len d hmem, rfl, ?_⟩⟩
      rw [line_kind d hmem, decide_eq_true rfl]
      exact q G (xB.trans (ExtB.ofN zG)) (purse_N uB zG) (tD1.ext sg)
end
end L2.K4
set_option Elab.async false
set_option linter.all false
set_option maxRecDepth 100000
set_option maxHeartbeats 8000000
namespace L2.K4
open PySem PySem.Spec PyProof.Rows L2.Tb
abbrev s_law : Stmt := top 34
abbrev N_law : List Str := ["_law_cells", "_law_one", "_law_two", "_law_k"]
theorem sc_law : FnScope N_law ["_law_cells"] (defScope s_law) := ⟨rfl, rfl, rfl, by decide +kernel, rfl, by decide +kernel, by decide +kernel⟩
theorem sq_same {K : PySem.W.Frag} {H H' : Hp} {a : Addr} {xs : List V} (h : SqL K H a xs) (s : LamX.ExtN H H') : SqL K H' a xs := by
  rcases h with (h | ⟨o, h⟩) | h
  · exact .inl (.inl (s _ _ h (fun ps z => by cases z)))
  · exact .inl (.inr ⟨o, s _ _ h (fun ps z => by cases z)⟩)
  · exact .inr h
def spLaw (K : PySem.W.Frag) (T : List (Addr × Str)) : Sp := fun vs H Q _ => ∃ (a : Addr) (ns : List Int), vs = [.ref a] ∧ SqL K H a (ns.map V.int) ∧ (∀ z ∈ ns, iBits z ≤ 1048576) ∧ ns.length ≤ 63 ∧ LamX.Tabs T H ∧ ∀ H' : Hp, Q (.bl true) H'
section
variable {P : Program} {w : World} {K : PySem.W.Frag} {mg : Str → Option Value} {base : Heap} {f : Addr} {fd : FuncData} {T : List (Addr × Str)} {A : Around}
theorem r_law (T0 : Bt mg) (F : FnP K "law" s_law f fd) (hroom : Room 11 A) (hg : A.guards = some []) (k_cell : Cal P w K mg base 1 "_law_cell" (spCell K)) (k_purse : Cal P w K mg base 1 "_law_purse" spPurse) (k_right : CalG P w K mg base 9 "_law_right" (spTR T))
    (k_lots : Cal P w K mg base 1 "_law_lots" spLots) (k_pairs : Cal P w K mg base 2 "_law_pairs" spPairs) (k_pair_right : Cal P w K mg base 6 "_law_pair_right" spPairRight) : RunsAt P w K mg base f fd ["_law_cells"] (spLaw K T) A := by
  have T := T0
  have hnd := sc_law.nd
  refine runs_body F sc_law hroom fun cdv outer s H vs Q E hr h => ?_
  have hg2 : (A.deeper (envOfC "law" (defScope s_law) s.heap.objs.size f cdv)).guards = some [] := hg
  obtain ⟨a, ns, rfl, hs0, hb, hl, hT0, q⟩ := h
  refine ⟨_, PSs.nox (pss_cons (ps_for PassesOwn.never (by rfl) (pi_list (pe_cal0 k_pairs hr (by omega) (by rfl))) (pg_name (i := 1) hnd rfl (by first | exact Or.inl rfl | exact Or.inr rfl))
      (pss_one (ps_if (pt_not (pt_val (pe_callB (cr_all (by rfl)) (by rfl) T.m_all (by decide +kernel) (pa_cons (pe_lc (own := [("_law_two", 2)]) (tt := tYes) (by rfl) hnd (pi_list (pe_cal0 k_pairs hr (by omega) (by rfl))) (blkOk_by (own := [("_law_two", 2)]) (N := N_law) (sc := defScope s_law) (by decide +kernel)) (fun _ _ _ _ _ => (pg_name (i := 2) hnd rfl (by first | exact Or.inl rfl | exact Or.inr rfl))) (fun _ _ _ _ _ => pts_nil) (fun _ _ _ _ _ => (pe_cal k_pair_right hr (by omega) (by rfl) (pa_cons (pe_cal0 k_lots hr (by omega) (by rfl)) (pa_cons (pv 1) (pa_cons (pv 2) pa_nil)))))) pa_nil))))
      (pss_one (ps_ret pe_bl))
      pss_nil)))
      (pss_one (ps_ret (pe_callB (cr_all (by rfl)) (by rfl) T.m_all (by decide +kernel) (pa_cons (pe_lc (own := [("_law_k", 3)]) (tt := tYes) (by rfl) hnd (pi_range1 (by rfl) T.m_range (pa_cons (pe_callB (call_max2 (by rfl)) (by rfl) T.m_max (by decide +kernel) (pa_cons pe_int (pa_cons (pe_callB (call_min2 (by rfl)) (by rfl) T.m_min (by decide +kernel) (pa_cons (pe_callB call_len_seq (by rfl) T.m_len (by decide +kernel) (pa_cons (pv 0) pa_nil)) (pa_cons pe_int pa_nil))) pa_nil))) pa_nil)) (blkOk_by (own := [("_law_k", 3)]) (N := N_law) (sc := defScope s_law) (by decide +kernel)) (fun _ _ _ _ _ => (pg_name (i := 3) hnd rfl (by first | exact Or.inl rfl | exact Or.inr rfl))) (fun _ _ _ _ _ => pts_nil) (fun _ _ _ _ _ => (pe_calG k_right hr (by omega) hg2 (by rfl) (pa_cons (pe_cal k_purse hr (by omega) (by rfl) (pa_cons (pe_cal k_cell hr (by omega) (by rfl) (pa_cons (pv 0) (pa_cons (pv 3) pa_nil))) pa_nil)) pa_nil)))) pa_nil))))), ?_⟩
  refine ⟨rfl, fun lp H1 ts s1 e1 pr => ⟨lp, rfl, ⟨_, SqL.of e1⟩, ?_⟩⟩
  have l12 : ts.length = 12 := paired_len pr
  refine for_list (xs := ts.map V.ref) (fun i σ' G => Same H1 G ∧ ∃ x1 x2 x3, σ' = [some (.ref a), x1, x2, x3]) ⟨Same.refl _, _, _, _, rfl⟩ (fun i σ' G _ h => SqL.of (h.1 _ _ e1)) ?_ ?_
  · rintro i z σ' G hz ⟨sg, x1, x2, x3, rfl⟩
    obtain ⟨t, d, rfl, hd, hta⟩ := pair_at pr hz
    have hmem : d ∈ pairD := List.mem_of_getElem? hd
    refine gname_go ?_
    dsimp only
    refine cb_one ⟨rfl, fun lp2 H3 ts2 s3 e3 pr2 => ⟨lp2, rfl, ⟨_, SqL.of e3⟩, fun D nD => ?_⟩⟩
    have hta3 : PairAt H3 t d := s3 _ _ (sg _ _ hta)
    have m12 : ts2.length = 12 := paired_len pr2
    refine lc_list (xs := ts2.map V.ref) (fun j G' => Same H3 G' ∧ G' D = some (.lst (List.replicate j (.bl true)))) ⟨same_new nD, upd_same⟩ (fun j G' _ z => SqL.of (z.1 _ _ e3)) ?_ ?_
    · rintro j z G' hz2 ⟨s4, e4⟩
      obtain ⟨t2, d2, rfl, hd2, hta2⟩ := pair_at pr2 hz2
      have hmem2 : d2 ∈ pairD := List.mem_of_getElem? hd2
      have lj : j < 12 := by
        have := (List.getElem?_eq_some_iff.mp hz2).1
        rwa [List.length_map, m12] at this
      refine ⟨rfl, ?_⟩
      unfold tYes
      dsimp only
      rw [if_pos rfl]
      refine ⟨rfl, fun dl H4 kvs s5 e5 L5 => ⟨_, rfl, _, rfl, dl, kvs, t, t2, d, d2, rfl, e5, L5, s5 _ _ (s4 _ _ hta3), s5 _ _ (s4 _ _ hta2), hmem, hmem2, fun H5 s6 => ?_⟩⟩
      exact ⟨_, s6 _ _ (s5 _ _ e4), by rw [List.length_replicate, sizeLine_eq]; omega, same_put nD ((s4.trans s5).trans s6), by rw [upd_same, rep_succ]⟩
    · rintro G' ⟨s4, e4⟩
      refine ⟨D, List.replicate _ true, rfl, SqL.of (by rw [e4, List.map_replicate]), ?_⟩
      rw [show (List.replicate (ts2.map V.ref).length true).all id = true from List.all_eq_true.mpr fun b' hb' => by rw [List.eq_of_mem_replicate hb']; rfl]
      exact ⟨_, rfl, iteF ⟨(sg.trans s3).trans s4, _, _, _, rfl⟩⟩
  rintro σ' G ⟨sg, x1, x2, x3, rfl⟩
  have hs := sq_same hs0 (LamX.ExtN.of (s1.trans sg))
  have hT : LamX.Tabs _ G := (hT0.ext s1).ext sg
  clear hs0 hT0 sg s1 pr e1
  revert hs hT
  generalize G = H
  intro hs hT
  have x0 := LamX.ExtN.refl H
  refine ⟨_, rfl, a, _, rfl, .inl (sq_same hs x0), _, _, rfl, _, _, rfl, _, rfl, ?_⟩
  have hb0 : ∀ z : Int, 0 ≤ (if (if 4 < z then 4 else z) > 1 then if 4 < z then 4 else z else 1) ∧ (if (if 4 < z then 4 else z) > 1 then if 4 < z then 4 else z else 1) ≤ 4 := fun z => by
    by_cases h1 : 4 < z
    · rw [if_pos h1, if_pos (by decide)]
      decide
    · rw [if_neg h1]
      by_cases h2 : z > 1
      · rw [if_pos h2]
        omega
      · rw [if_neg h2]
        decide
  have hm := hb0 ((ns.map V.int).length : Nat)
  generalize (if (if 4 < (((ns.map V.int).length : Nat) : Int) then 4 else (((ns.map V.int).length : Nat) : Int)) > 1 then if 4 < (((ns.map V.int).length : Nat) : Int) then 4 else (((ns.map V.int).length : Nat) : Int) else 1) = m at hm ⊢
  refine ⟨by omega, by omega, fun D nD => ?_⟩
  refine lc_range (fun n H' => LamX.ExtN H H' ∧ LamX.Tabs _ H' ∧ H' D = some (.lst (List.replicate n (.bl true)))) ⟨LamX.ExtN.of (same_new nD), (hT.ext (Same.refl _)).ext (same_new nD), upd_same⟩ ?_ ?_
  · rintro j H1 hj ⟨x1, t1, e1⟩
    refine ⟨rfl, ?_⟩
    unfold tYes
    dsimp only
    rw [if_pos rfl]
    refine ⟨_, rfl, _, rfl, a, ns, j, by rw [Int.zero_add]; rfl, sq_same hs (x0.trans x1), hb, by omega, fun z H2 s2 hz => ⟨z, rfl, hz, fun p H3 s3 np hp => ⟨p, rfl, hp, (t1.ext s2).ext s3, fun H4 x4 u4 t4 => ?_⟩⟩⟩
    have x24 : LamX.ExtN H2 H4 := fun b o e n => x4 b o (ne_of_none e np) (s3 b o e) n
    have x14 := (LamX.ExtN.of s2).trans x24
    have e4 := x14 _ _ e1 (fun ps z => by cases z)
    have nDx : ∀ {H5 : Hp} {o : HO}, LamX.ExtN H H5 → LamX.ExtN H (upd H5 D o) := fun {H5 o} x b u e n => by
      rw [upd_ne (ne_of_none e nD)]
      exact x b u e n
    exact ⟨_, e4, by rw [List.length_replicate, sizeLine_eq]; omega, nDx (x1.trans x14), tabs_put t4 e4, by rw [upd_same, rep_succ]⟩
  · rintro H1 ⟨x1, t1, e1⟩
    refine ⟨D, List.replicate _ true, rfl, SqL.of (by rw [e1, List.map_replicate]), ?_⟩
    rw [show (List.replicate m.toNat true).all id = true from List.all_eq_true.mpr fun b' hb' => by rw [List.eq_of_mem_replicate hb']; rfl]
    exact q _
end
end L2.K4
set_option Elab.async false
set_option linter.all false
set_option maxRecDepth 100000
set_option maxHeartbeats 8000000
namespace L2.K4
open PySem PySem.Spec PyProof.Rows L2.Tb
/-! ### Kind at the head -/
def kindB (K : PySem.W.Frag) (C : Addr) : Bool := (He.Fa.cls "Kind").ok K && ((He.Fa.noat "Kind" "_turns").ok K && ((He.Fa.noat "Kind" "_calm").ok K && ((He.Fa.mkr "Kind").ok K && (insB K C && ((He.Fa.meth "Kind" "__str__").ok K && ((He.Fa.meth "Kind" "__eq__").ok K &&
  (He.eqO (PySem.W.findIn K (.ref C) "__ne__") (some (some (.builtin "object.__ne__"))) && (propB K C "turns" && (propB K C "calm" && (propB K C "lot" && (creadB K C && (cmetB K C "read" && (decide (PySem.W.kitOne K (.ref C) (.ref C) = some true) &&
  (decide (PySem.W.kitOne K (.type "str") (.ref C) = some false) && decide (PySem.W.kitOne K (.type "list") (.ref C) = some false)))))))))))))))
def turnsB (K : PySem.W.Frag) : List Addr → List Turn → Bool
  | [], [] => true
  | t :: ts, u :: us => tupB K t (turnV u) && turnsB K ts us
  | _, _ => false
def lotB (K : PySem.W.Frag) (l : Addr) (lot : List Turn) : Bool := tupB K l ((refsIn K l).map V.ref) && turnsB K (refsIn K l) lot
def lotsB (K : PySem.W.Frag) (d : Addr) : Bool := keysB K d wordsD && wordsD.all fun z => refB K d z && lotB K (refOf K d z) (lotOf z)
theorem turnsB_ok {K : PySem.W.Frag} : ∀ {ts : List Addr} {us : List Turn}, turnsB K ts us = true → Paired (fun t u => ∀ H, SqT K H t (turnV u)) ts us
  | [], [], _ => .nil
  | t :: ts, u :: us, h => .cons (tupB_ok (He.ba h).1) (turnsB_ok (He.ba h).2)
  | [], _ :: _, h => by cases h
  | _ :: _, [], h => by cases h
theorem lotB_ok {K : PySem.W.Frag} {l : Addr} {lot : List Turn} (h : lotB K l lot = true) : LotK K l lot := ⟨refsIn K l, tupB_ok (He.ba h).1, turnsB_ok (He.ba h).2⟩
theorem lotsB_ok {K : PySem.W.Frag} {w : World} {d : Addr} {es : Array DictEntry} {n : Nat} (h : lotsB K d = true) (D : KDict K w d es n) : (∀ z, ∃ r, PySem.W.nsIn K d z = some r ∧ r.isSome = wordsD.contains z) ∧ ∀ z, wordsD.contains z = true → ∃ l, KDct K w d z (.ref l) ∧ LotK K l (lotOf z) := by
  obtain ⟨h1, h2⟩ := He.ba h
  refine ⟨keysB_ok h1, fun z hz => ?_⟩
  obtain ⟨h3, h4⟩ := He.ba (List.all_eq_true.mp h2 z (List.contains_iff_mem.mp hz))
  exact ⟨_, ⟨es, n, _, D.at_, D.lit, He.eqO_ok h3, rfl⟩, lotB_ok h4⟩
def errsB (K : PySem.W.Frag) (xs : List Str) : Bool := xs.all (fun x => ercB K bVE x "given" && (decide (PySem.W.typeIn K (.ref (He.ga K x)) = some (.type "type")) && (xfB K (He.ga K x) && (He.Fa.noat x "given").ok K))) &&
  xs.all fun x => xs.all fun y => decide (PySem.W.exmOne K (.ref (He.ga K x)) (.ref (He.ga K y)) = some (x == y))
theorem errsB_ok {K : PySem.W.Frag} {xs : List Str} (h : errsB K xs = true) : (∀ x ∈ xs, ercB K bVE x "given" = true ∧ PySem.W.typeIn K (.ref (He.ga K x)) = some (.type "type") ∧ XfC K (He.ga K x) ∧ PySem.W.findIn K (.ref (He.ga K x)) "given" = some none) ∧
    ∀ x ∈ xs, ∀ y ∈ xs, PySem.W.exmOne K (.ref (He.ga K x)) (.ref (He.ga K y)) = some (x == y) := by
  obtain ⟨h1, h2⟩ := He.ba h
  refine ⟨fun x hx => ?_, fun x hx y hy => of_decide_eq_true (List.all_eq_true.mp (List.all_eq_true.mp h2 x hx) y hy)⟩
  obtain ⟨a, q⟩ := He.ba (List.all_eq_true.mp h1 x hx)
  obtain ⟨b, q⟩ := He.ba q
  obtain ⟨c, d⟩ := He.ba q
  exact ⟨a, of_decide_eq_true b, xfB_ok c, He.noat_ok d⟩
section
variable {P : Program} {w : World} {K : PySem.W.Frag} {mg : Str → Option Value} {base : Heap} {fi : Addr} {fdi : FuncData}
abbrev FunK (K : PySem.W.Frag) (x q : Str) (st : Stmt) (kws : List (Str × V)) (f : Addr) (fd : FuncData) : Prop := FunD K x q (defArgs st) (defBody st) (defScope st) [] kws f fd
theorem kinit_binds (F : FunK K "__init__" "Kind.__init__" s_kinit [("calm", .bl false)] fi fdi) : KBn K fdi kps 2 ["calm"] (fun us ws => us ++ ws) (fun us ws => us ++ ws) ∧ KBn K fdi kps 1 ["turns", "calm"] (fun us ws => us ++ ws) (fun us ws => us ++ ws) ∧
    KBn K fdi kps 1 ["calm", "turns"] (fun us ws => us ++ ws.reverse) (fun us ws => us ++ ws.reverse) ∧ (∃ ds, Vals [V.bl false] ds ∧ Binds K fdi kps ds) ∧ (∃ dv, KBn K fdi kps 1 ["turns"] (fun us ws => us ++ (ws ++ dv)) (fun us ws => us ++ (ws ++ [.bl false]))) := by
  refine ⟨?_, ?_, ?_, ?_, ?_⟩
  · obtain ⟨mv, h⟩ := FunD.kbinds0 (ps := kps) F 2 ["calm"] [] (fun us _ ws => us ++ ws) (by simp) (by simp) (fun r1 _ r3 => r1.append r3) fun D doc pm an cdv ct us mv ws l1 l2 l3 => match us, mv, ws, l1, l2, l3 with
      | [_, _], [], [_], _, _, _ => rfl
    exact h
  · obtain ⟨mv, h⟩ := FunD.kbinds0 (ps := kps) F 1 ["turns", "calm"] [] (fun us _ ws => us ++ ws) (by simp) (by simp) (fun r1 _ r3 => r1.append r3) fun D doc pm an cdv ct us mv ws l1 l2 l3 => match us, mv, ws, l1, l2, l3 with
      | [_], [], [_, _], _, _, _ => rfl
    exact h
  · have rev : ∀ {vs : List V} {us : List Value}, Vals vs us → Vals vs.reverse us.reverse := fun {vs us} r => by
      induction r with
      | nil => exact .nil
      | cons a _ ih =>
        rw [List.reverse_cons, List.reverse_cons]
        exact ih.append (.cons a .nil)
    obtain ⟨mv, h⟩ := FunD.kbinds0 (ps := kps) F 1 ["calm", "turns"] [] (fun us _ ws => us ++ ws.reverse) (by simp) (by simp) (fun r1 _ r3 => r1.append (rev r3)) fun D doc pm an cdv ct us mv ws l1 l2 l3 => match us, mv, ws, l1, l2, l3 with
      | [_], [], [_, _], _, _, _ => rfl
    exact h
  · exact FunD.binds0 (ps := kps) F 2 (by simp) rfl fun D doc pm an cdv ct us ks l1 l2 => match us, ks, l1, l2 with
      | [_, _], [_], _, _ => ⟨_, _, _, _, _, _, rfl, rfl, rfl⟩
  · exact FunD.kbinds0 (ps := kps) F 1 ["turns"] [("calm", .bl false)] (fun us mz ws => us ++ (ws ++ mz)) (by simp) (by simp) (fun r1 r2 r3 => r1.append (r3.append r2)) fun D doc pm an cdv ct us mv ws l1 l2 l3 => match us, mv, ws, l1, l2, l3 with
      | [_], [_], [_], _, _, _ => ⟨_, _, _, _, _, _, rfl, rfl, rfl⟩
end
end L2.K4
set_option Elab.async false
set_option linter.all false
set_option maxRecDepth 100000
set_option maxHeartbeats 0
namespace L2.K4
open PySem PySem.Spec PyProof.Rows L2.Tb
/-! ### the head -/
def frees : List Str := [("len" : Str), ("int" : Str), ("abs" : Str), ("divmod" : Str), ("isinstance" : Str), ("tuple" : Str), ("list" : Str), ("bool" : Str), ("all" : Str), ("zip" : Str), ("range" : Str), ("max" : Str), ("min" : Str), ("enumerate" : Str), ("repr" : Str), ("sorted" : Str), ("ValueError" : Str), ("LookupError" : Str), ("ArithmeticError" : Str), ("str" : Str), ("dict" : Str)]
def gloL : List Str := ["Kind", "LOTS", "InvalidTurns", "InvalidFlag", "InvalidText", "NotAKind", "check_kind", "_holds", "_least_lot", "_law_cell", "_law_purse", "_law_draw", "_law_alike", "_law_odd", "_law_lots", "_law_pairs", "_law_line", "_law_product", "_law_share", "_law_pair_right", "_law_rule", "_law_kinds_of", "_law_keeps", "_law_rule_right", "_law_told", "_law_right", "law"]
def errL : List Str := ["InvalidTurns", "InvalidFlag", "InvalidText", "NotAKind"]
def rgtB (K : PySem.W.Frag) (C : Addr) (T : String) (x y : Str) : Bool := (PySem.W.findIn K (.type T) x).isSome && ((PySem.W.findIn K (.type T) y).isSome && decide (PySem.W.subIn K (.type T) (.ref C) = some false))
def opsB (K : PySem.W.Frag) (C : Addr) : Bool := (He.Fa.meth "Kind" "within").ok K && ((He.Fa.meth "Kind" "__and__").ok K && ((He.Fa.meth "Kind" "__or__").ok K && (PySem.W.selfFirst K C && (He.eqO (PySem.W.findIn K (.ref C) "__rand__") (some none) && (He.eqO (PySem.W.findIn K (.ref C) "__ror__") (some none) &&
  oddT.all fun T => decide (PySem.W.kitOne K (.type T) (.ref C) = some false) && (rgtB K C T "__and__" "__rand__" && rgtB K C T "__or__" "__ror__"))))))
def factB (K : PySem.W.Frag) : Bool := gloL.all (fun x => (He.Fa.glo x).ok K) && (frees.all (fun x => (He.Fa.free x).ok K) && ((He.Fa.str "_CALM" "calm ").ok K && (kindB K (He.ga K "Kind") && (lotsB K (He.ga K "LOTS") && (errsB K errL && opsB K (He.ga K "Kind"))))))
def dIn (at_ : PySem.W.Frag → Addr) (x q : Str) (st : Stmt) (kw : List (Str × He.Dv)) : He5.DefA := ⟨at_, x, q, defArgs st, defBody st, defScope st, [], kw⟩
def dTop (x : Str) (i : Nat) : He5.DefA := dIn (fun K => He.fAd K (x, none)) x x (top i) []
def fnA1 : List He5.DefA := [dTop "check_kind" 13, dTop "_holds" 14, dTop "_least_lot" 15, dTop "_law_cell" 17, dTop "_law_purse" 18, dTop "_law_draw" 19, dTop "_law_alike" 20, dTop "_law_odd" 21, dTop "_law_lots" 22, dTop "_law_pairs" 23, dTop "_law_line" 24, dTop "_law_product" 25, dTop "_law_share" 26, dTop "_law_pair_right" 27, dTop "_law_rule" 28, dTop "_law_kinds_of" 29, dTop "_law_keeps" 30, dTop "_law_rule_right" 31, dTop "_law_told" 32, dTop "_law_right" 33, dTop "law" 34]
def fnA2 : List He5.DefA := [dIn (fun K => He.ma K (He.ga K "InvalidTurns") "__init__") "__init__" "InvalidTurns.__init__" (inClass (top 5) 0) [], dIn (fun K => He.ma K (He.ga K "InvalidFlag") "__init__") "__init__" "InvalidFlag.__init__" (inClass (top 4) 0) [], dIn (fun K => He.ma K (He.ga K "InvalidText") "__init__") "__init__" "InvalidText.__init__" (inClass (top 3) 0) [], dIn (fun K => He.ma K (He.ga K "NotAKind") "__init__") "__init__" "NotAKind.__init__" (inClass (top 6) 0) [], dIn (fun K => He.ma K (He.ga K "Kind") "__init__") "__init__" "Kind.__init__" (inClass (top 12) 0) [("calm", .bl false)], dIn (fun K => pAd K (He.ga K "Kind") "lot") "lot" "Kind.lot" (inClass (top 12) 4) [], dIn (fun K => pAd K (He.ga K "Kind") "calm") "calm" "Kind.calm" (inClass (top 12) 3) [], dIn (fun K => He.ma K (He.ga K "Kind") "__str__") "__str__" "Kind.__str__" (inClass (top 12) 10) [], dIn (fun K => cAd K (He.ga K "Kind") "read") "read" "Kind.read" (inClass (top 12) 1) [], dIn (fun K => He.ma K (He.ga K "Kind") "within") "within" "Kind.within" (inClass (top 12) 6) [], dIn (fun K => He.ma K (He.ga K "Kind") "__and__") "__and__" "Kind.__and__" (inClass (top 12) 7) [], dIn (fun K => He.ma K (He.ga K "Kind") "__or__") "__or__" "Kind.__or__" (inClass (top 12) 8) []]
def fnA : List He5.DefA := fnA1 ++ fnA2
def tabL : List He.Tab := [(fun K => He.ga K "LOTS", wordsD)]
def cdL : List He.Defn := [("_law_right", none)]
abbrev hookX : PySem.W.Hook := hookH 5 factB fnA tabL cdL
abbrev R : PySem.W.OpenRow := PySem.W.OpenLaw.row PySem.Challenge.rw_thirdback_k04_whole_kinds_and_their_rule
def ob (s : PySem.W.SharedT) : AlH := obsH 5 factB fnA tabL cdL (HandSHeadRun.getT s)
theorem ob_eq (s : PySem.W.SharedT) : ob s = hookX.obs s.abs := obH_eq s
def looseN : List Str := [("WrongValue" : Str), ("InvalidText" : Str), ("InvalidFlag" : Str), ("InvalidTurns" : Str), ("NotAKind" : Str), ("WrongName" : Str), ("NoAnswer" : Str), ("Kind" : Str), ("LOTS" : Str), ("_CALM" : Str), ("_wall" : Str), ("check_kind" : Str), ("_holds" : Str), ("_least_lot" : Str), ("_law_cell" : Str), ("_law_purse" : Str), ("_law_draw" : Str), ("_law_alike" : Str), ("_law_odd" : Str), ("_law_lots" : Str), ("_law_pairs" : Str), ("_law_line" : Str), ("_law_product" : Str), ("_law_share" : Str), ("_law_pair_right" : Str), ("_law_rule" : Str), ("_law_kinds_of" : Str), ("_law_keeps" : Str), ("_law_rule_right" : Str), ("_law_told" : Str), ("_law_right" : Str)]
theorem run (w : World) : HandSHeadRun.RunEq R (PySem.W.view R.prog [34]) hookX ob 20000 looseN w := by
  refine PySem.W.byRow2 "special-get-raises" (P := fun w => HandSHeadRun.RunEq R (PySem.W.view R.prog [34]) hookX ob 20000 looseN w) (fun w os => ?_) (fun w os => ?_) w
  · kernel_rfl
  · kernel_rfl
end L2.K4
set_option Elab.async false
set_option linter.all false
set_option maxRecDepth 100000
set_option maxHeartbeats 0
namespace L2.K4
open PySem PySem.Spec PyProof.Rows L2.Tb
theorem within_kw {K : PySem.W.Frag} {f : Addr} {fd : FuncData} (F : FunK K "within" "Kind.within" s_kwithin [] f fd) (sh : Shared) (a : Addr) (zs : List Value) (hl : zs.length = (["other"] : List Str).length) :
    BindsTo sh fd ⟨[.ref a], (["other"] : List Str).zip zs⟩ ((["self", "other"] : List Str).zip (Value.ref a :: zs)) := by
  match zs, hl with
  | [v], _ =>
    obtain ⟨oc, od, dV, kV, doc, pm, an, cdv, ct, osl, rfl, lk, hcd, hD, hK⟩ := F.ex
    rcases hD with ⟨_, rfl⟩ | ⟨e, _⟩
    · exact .of_eq rfl
    · exact absurd rfl e
theorem rgtB_ok {K : PySem.W.Frag} {C : Addr} {T : String} {x y : Str} (h : rgtB K C T x y = true) : (∃ o, PySem.W.findIn K (.type T) x = some o) ∧ (∃ o, PySem.W.findIn K (.type T) y = some o) ∧ PySem.W.subIn K (.type T) (.ref C) = some false := by
  obtain ⟨a, h⟩ := He.ba h
  obtain ⟨b, c⟩ := He.ba h
  exact ⟨Option.isSome_iff_exists.mp a, Option.isSome_iff_exists.mp b, of_decide_eq_true c⟩
section
variable {P : Program} {w : World} {K : PySem.W.Frag} {mg : Str → Option Value} {h : Heap}
theorem ends {f : Addr} (G : h.Ns mainGlobals mg) (hfa : mg ("law" : Str) = some (.ref f)) (c : SaysH factB fnA tabL cdL w h K) :
    ∃ (fd : FuncData) (T : List (Addr × Str)), (∀ (s : Shared) (v : Value), BindsTo s fd ⟨[v], []⟩ [("_law_cells", v)]) ∧ (∀ H : Hp, (∀ p ∈ cdL.map (He.cT K), H p.2 = some (.tbl #[])) → LamX.Tabs T H) ∧
      ∀ base : Heap, K.In base → base.Ns mainGlobals mg → (∀ p ∈ cdL.map (He.cT K), LamX.TabB base mg p.1 p.2) → RunsAt P w K mg base f fd ["_law_cells"] (spLaw K T) callerA := by
  have X := c.kin
  obtain ⟨f1, z⟩ := He.ba (show factB K = true from c.fb)
  obtain ⟨f2, z⟩ := He.ba z
  obtain ⟨f3, z⟩ := He.ba z
  obtain ⟨f4, z⟩ := He.ba z
  obtain ⟨f5, z⟩ := He.ba z
  obtain ⟨f6, f7⟩ := He.ba z
  obtain ⟨er1, er2⟩ := errsB_ok f6
  have T : Bt mg := ⟨He.free_ok X G (all_get f2 0), He.free_ok X G (all_get f2 1), He.free_ok X G (all_get f2 2), He.free_ok X G (all_get f2 3), He.free_ok X G (all_get f2 4), He.free_ok X G (all_get f2 5), He.free_ok X G (all_get f2 6), He.free_ok X G (all_get f2 7), He.free_ok X G (all_get f2 8), He.free_ok X G (all_get f2 9), He.free_ok X G (all_get f2 10), He.free_ok X G (all_get f2 11), He.free_ok X G (all_get f2 12), He.free_ok X G (all_get f2 13), He.free_ok X G (all_get f2 14), He.free_ok X G (all_get f2 15), He.free_ok X G (all_get f2 16), He.free_ok X G (all_get f2 17), He.free_ok X G (all_get f2 18)⟩
  have mstr : mg "str" = none := He.free_ok X G (all_get f2 19)
  have mdict : mg "dict" = none := He.free_ok X G (all_get f2 20)
  obtain ⟨fd_check_kind, F_check_kind⟩ := c.nth (d := dTop "check_kind" 13) 0
  have g_check_kind := He.glo_ok X G (all_get f1 6)
  obtain ⟨fd__holds, F__holds⟩ := c.nth (d := dTop "_holds" 14) 1
  have g__holds := He.glo_ok X G (all_get f1 7)
  obtain ⟨fd__least_lot, F__least_lot⟩ := c.nth (d := dTop "_least_lot" 15) 2
  have g__least_lot := He.glo_ok X G (all_get f1 8)
  obtain ⟨fd_cell, F_cell⟩ := c.nth (d := dTop "_law_cell" 17) 3
  have g_cell := He.glo_ok X G (all_get f1 9)
  obtain ⟨fd_purse, F_purse⟩ := c.nth (d := dTop "_law_purse" 18) 4
  have g_purse := He.glo_ok X G (all_get f1 10)
  obtain ⟨fd_draw, F_draw⟩ := c.nth (d := dTop "_law_draw" 19) 5
  have g_draw := He.glo_ok X G (all_get f1 11)
  obtain ⟨fd_alike, F_alike⟩ := c.nth (d := dTop "_law_alike" 20) 6
  have g_alike := He.glo_ok X G (all_get f1 12)
  obtain ⟨fd_odd, F_odd⟩ := c.nth (d := dTop "_law_odd" 21) 7
  have g_odd := He.glo_ok X G (all_get f1 13)
  obtain ⟨fd_lots, F_lots⟩ := c.nth (d := dTop "_law_lots" 22) 8
  have g_lots := He.glo_ok X G (all_get f1 14)
  obtain ⟨fd_pairs, F_pairs⟩ := c.nth (d := dTop "_law_pairs" 23) 9
  have g_pairs := He.glo_ok X G (all_get f1 15)
  obtain ⟨fd_line, F_line⟩ := c.nth (d := dTop "_law_line" 24) 10
  have g_line := He.glo_ok X G (all_get f1 16)
  obtain ⟨fd_product, F_product⟩ := c.nth (d := dTop "_law_product" 25) 11
  have g_product := He.glo_ok X G (all_get f1 17)
  obtain ⟨fd_share, F_share⟩ := c.nth (d := dTop "_law_share" 26) 12
  have g_share := He.glo_ok X G (all_get f1 18)
  obtain ⟨fd_pair_right, F_pair_right⟩ := c.nth (d := dTop "_law_pair_right" 27) 13
  have g_pair_right := He.glo_ok X G (all_get f1 19)
  obtain ⟨fd_rule, F_rule⟩ := c.nth (d := dTop "_law_rule" 28) 14
  have g_rule := He.glo_ok X G (all_get f1 20)
  obtain ⟨fd_kinds_of, F_kinds_of⟩ := c.nth (d := dTop "_law_kinds_of" 29) 15
  have g_kinds_of := He.glo_ok X G (all_get f1 21)
  obtain ⟨fd_keeps, F_keeps⟩ := c.nth (d := dTop "_law_keeps" 30) 16
  have g_keeps := He.glo_ok X G (all_get f1 22)
  obtain ⟨fd_rule_right, F_rule_right⟩ := c.nth (d := dTop "_law_rule_right" 31) 17
  have g_rule_right := He.glo_ok X G (all_get f1 23)
  obtain ⟨fd_told, F_told⟩ := c.nth (d := dTop "_law_told" 32) 18
  have g_told := He.glo_ok X G (all_get f1 24)
  obtain ⟨fd_right, F_right⟩ := c.nth (d := dTop "_law_right" 33) 19
  have g_right := He.glo_ok X G (all_get f1 25)
  obtain ⟨fd_law, F_law⟩ := c.nth (d := dTop "law" 34) 20
  have g_law := He.glo_ok X G (all_get f1 26)
  have e := hfa.symm.trans g_law
  cases e
  obtain ⟨k1, z⟩ := He.ba f4
  obtain ⟨k2, z⟩ := He.ba z
  obtain ⟨k3, z⟩ := He.ba z
  obtain ⟨k4, z⟩ := He.ba z
  obtain ⟨k5, z⟩ := He.ba z
  obtain ⟨k6, z⟩ := He.ba z
  obtain ⟨k7, z⟩ := He.ba z
  obtain ⟨k8, z⟩ := He.ba z
  obtain ⟨k9, z⟩ := He.ba z
  obtain ⟨k10, z⟩ := He.ba z
  obtain ⟨k11, z⟩ := He.ba z
  obtain ⟨k12, z⟩ := He.ba z
  obtain ⟨k13, z⟩ := He.ba z
  obtain ⟨k14, z⟩ := He.ba z
  obtain ⟨o1, z⟩ := He.ba f7
  obtain ⟨o2, z⟩ := He.ba z
  obtain ⟨o3, z⟩ := He.ba z
  obtain ⟨o4, z⟩ := He.ba z
  obtain ⟨o5, z⟩ := He.ba z
  obtain ⟨o6, o7⟩ := He.ba z
  obtain ⟨es, n, D⟩ := c.tb (fun K => He.ga K "LOTS", wordsD) List.mem_cons_self
  obtain ⟨inL, lots⟩ := lotsB_ok f5 D
  refine ⟨_, tabsT (He.cT K ("_law_right", none)).2, fun s v => FunD.bindsA (ps := ["_law_cells"]) F_law (fun _ _ _ _ _ _ us hl => match us, hl with | [_], _ => rfl) s [v] rfl, fun H hH => ?_, fun base _ _ TB => ?_⟩
  · intro p hp
    rw [List.mem_singleton.mp hp]
    exact LamX.TabS.nil (hH _ List.mem_cons_self)
  have eT : ErC P w K mg base "InvalidTurns" "given" bVE (He.ga K "InvalidTurns") := erc_of (st := inClass (top 5) 0) X G (er1 "InvalidTurns" (by decide)).1 bVE_ok (c.nth (d := dIn (fun K => He.ma K (He.ga K "InvalidTurns") "__init__") "__init__" "InvalidTurns.__init__" (inClass (top 5) 0) []) 21) rfl ⟨rfl, rfl, rfl, by decide +kernel, rfl, by decide +kernel, by decide +kernel⟩ rfl rfl (by decide) (by decide) (fun _ _ _ _ _ _ us hl => match us, hl with | [_, _], _ => rfl) (fun _ _ _ _ _ _ _ _ => rfl)
  have eF : ErC P w K mg base "InvalidFlag" "given" bVE (He.ga K "InvalidFlag") := erc_of (st := inClass (top 4) 0) X G (er1 "InvalidFlag" (by decide)).1 bVE_ok (c.nth (d := dIn (fun K => He.ma K (He.ga K "InvalidFlag") "__init__") "__init__" "InvalidFlag.__init__" (inClass (top 4) 0) []) 22) rfl ⟨rfl, rfl, rfl, by decide +kernel, rfl, by decide +kernel, by decide +kernel⟩ rfl rfl (by decide) (by decide) (fun _ _ _ _ _ _ us hl => match us, hl with | [_, _], _ => rfl) (fun _ _ _ _ _ _ _ _ => rfl)
  have eX : ErC P w K mg base "InvalidText" "given" bVE (He.ga K "InvalidText") := erc_of (st := inClass (top 3) 0) X G (er1 "InvalidText" (by decide)).1 bVE_ok (c.nth (d := dIn (fun K => He.ma K (He.ga K "InvalidText") "__init__") "__init__" "InvalidText.__init__" (inClass (top 3) 0) []) 23) rfl ⟨rfl, rfl, rfl, by decide +kernel, rfl, by decide +kernel, by decide +kernel⟩ rfl rfl (by decide) (by decide) (fun _ _ _ _ _ _ us hl => match us, hl with | [_, _], _ => rfl) (fun _ _ _ _ _ _ _ _ => rfl)
  have eN : ErC P w K mg base "NotAKind" "given" bVE (He.ga K "NotAKind") := erc_of (st := inClass (top 6) 0) X G (er1 "NotAKind" (by decide)).1 bVE_ok (c.nth (d := dIn (fun K => He.ma K (He.ga K "NotAKind") "__init__") "__init__" "NotAKind.__init__" (inClass (top 6) 0) []) 24) rfl ⟨rfl, rfl, rfl, by decide +kernel, rfl, by decide +kernel, by decide +kernel⟩ rfl rfl (by decide) (by decide) (fun _ _ _ _ _ _ us hl => match us, hl with | [_, _], _ => rfl) (fun _ _ _ _ _ _ _ _ => rfl)
  have KF : KiF P w K mg base (He.ga K "Kind") (He.ga K "LOTS") (He.ga K "InvalidTurns") (He.ga K "InvalidFlag") es n := ⟨He.glo_ok X G (all_get f1 0), He.cls_ok k1, He.noat_ok k2, He.noat_ok k3, He.glo_ok X G (all_get f1 1), D, inL, eT, eF, (er1 "InvalidTurns" (by decide)).2.1, (er1 "InvalidFlag" (by decide)).2.1⟩
  have KG : KiG K w mg (He.ga K "Kind") (He.ga K "LOTS") := ⟨He.str_ok X G f3, lots, insB_ok k5, of_decide_eq_true k14⟩
  have KA : KeysAt K w (He.ga K "LOTS") wordsD := L2.Tb.keys_at (He.ba f5).1 D
  have KM := He.mkr_ok k4
  obtain ⟨fdi, Fi⟩ := c.nth (d := dIn (fun K => He.ma K (He.ga K "Kind") "__init__") "__init__" "Kind.__init__" s_kinit [("calm", .bl false)]) 25
  have c_i := c_kinit T mstr KF Fi
  obtain ⟨B1, _⟩ := kinit_binds Fi
  obtain ⟨fdl, Fl⟩ := c.nth (d := dIn (fun K => pAd K (He.ga K "Kind") "lot") "lot" "Kind.lot" s_klot []) 26
  obtain ⟨fdc, Fc⟩ := c.nth (d := dIn (fun K => pAd K (He.ga K "Kind") "calm") "calm" "Kind.calm" s_kcalm []) 27
  obtain ⟨fds, Fs⟩ := c.nth (d := dIn (fun K => He.ma K (He.ga K "Kind") "__str__") "__str__" "Kind.__str__" s_kstr []) 28
  obtain ⟨fdr, Fr⟩ := c.nth (d := dIn (fun K => cAd K (He.ga K "Kind") "read") "read" "Kind.read" s_kread []) 29
  obtain ⟨fdw, Fw⟩ := c.nth (d := dIn (fun K => He.ma K (He.ga K "Kind") "within") "within" "Kind.within" s_kwithin []) 30
  obtain ⟨fda, Fa⟩ := c.nth (d := dIn (fun K => He.ma K (He.ga K "Kind") "__and__") "__and__" "Kind.__and__" s_kand []) 31
  obtain ⟨fdo, Fo⟩ := c.nth (d := dIn (fun K => He.ma K (He.ga K "Kind") "__or__") "__or__" "Kind.__or__" s_kor []) 32
  have c_r := c_kread T mstr KF KG eX (er1 "InvalidText" (by decide)).2.1 KM c_i B1 Fr
  have br : Binds K fdr ["cls", "text"] [] := Fr.bindsN fun _ _ _ _ _ _ us hl => match us, hl with | [_, _], _ => rfl
  have b2 : ∀ {x q : Str} {st : Stmt} {f : Addr} {fd : FuncData}, FunK K x q st [] f fd → (∀ (kV doc pm : Value) (an : Option Addr) (cdv ct : Value) (us : List Value), us.length = (["self", "other"] : List Str).length → bindArgs (PySem.W.fnOf x q (defArgs st) (defBody st) (defScope st) .none kV doc pm an cdv ct) ⟨us, []⟩ = pure ((["self", "other"] : List Str).zip us)) → Binds K fd ["self", "other"] [] := fun F h => F.bindsN h
  have KO : KiO P w K mg base (He.ga K "Kind") (He.ga K "InvalidTurns") (He.ga K "InvalidFlag") (He.ga K "NotAKind") :=
    ⟨⟨_, fd_check_kind, g_check_kind, F_check_kind.kp, F_check_kind.bindsN (fun _ _ _ _ _ _ us hl => match us, hl with | [_], _ => rfl), c_check T KF KG eN (er1 "NotAKind" (by decide)).2.1 F_check_kind⟩, ⟨_, _, fdl, propB_ok k11, c_klot KF KG Fl, Fl.bindsN fun _ _ _ _ _ _ us hl => match us, hl with | [_], _ => rfl⟩,
     ⟨_, _, fdc, propB_ok k10, c_kcalm KF Fc, Fc.bindsN fun _ _ _ _ _ _ us hl => match us, hl with | [_], _ => rfl⟩, ⟨_, fdi, KM, c_i, B1⟩⟩
  have k_holds := c_holds (P := P) (w := w) (base := base) T F__holds g__holds
  have k_least := c_least T KF KG KA F__least_lot g__least_lot k_holds
  have c_w := c_kwithin T KF KO k_holds Fw
  have c_a := c_kand T KF KO k_least Fa
  have c_o := c_kor T KF KO k_least Fo
  have KP : KiP P w K mg base (He.ga K "Kind") (He.ga K "LOTS") (He.ga K "InvalidTurns") (He.ga K "InvalidFlag") (He.ga K "InvalidText") (He.ga K "NotAKind") es n :=
    ⟨mstr, KF, KG, ⟨_, fdi, KM, c_i, B1⟩, ⟨_, fds, (He.meth_ok k6).at_, (He.meth_ok k6).fn, c_kstr T mstr KF KG Fs, Fs.bindsN fun _ _ _ _ _ _ us hl => match us, hl with | [_], _ => rfl⟩,
     ⟨_, fdw, He.meth_ok o1, c_w, Fw.bindsN (fun _ _ _ _ _ _ us hl => match us, hl with | [_, _], _ => rfl), within_kw Fw⟩, o4, ⟨_, fda, (He.meth_ok o2).at_, (He.meth_ok o2).fn, c_a, Fa.bindsN fun _ _ _ _ _ _ us hl => match us, hl with | [_, _], _ => rfl⟩,
     ⟨_, fdo, (He.meth_ok o3).at_, (He.meth_ok o3).fn, c_o, Fo.bindsN fun _ _ _ _ _ _ us hl => match us, hl with | [_, _], _ => rfl⟩, He.eqO_ok o5, He.eqO_ok o6,
     ⟨_, _, _, fdr, creadB_ok k12, cmetB_ok k13, c_r, fun A outer s H us vs Q E hr e0 r hs => c_r.raw br .nil A outer s H us vs Q E hr e0 r (by show spKread _ _ _ (vs ++ []) _ _ _; rw [List.append_nil]; exact hs)⟩⟩
  have OG : OddG K (He.ga K "Kind") := by
    refine ⟨fun T hT => ?_, fun T hT => ?_, fun T hT => ?_⟩
    · exact of_decide_eq_true (He.ba (List.all_eq_true.mp o7 T hT)).1
    · obtain ⟨a, b, c⟩ := rgtB_ok (He.ba (He.ba (List.all_eq_true.mp o7 T hT)).2).1
      exact ⟨a, b, c⟩
    · obtain ⟨a, b, c⟩ := rgtB_ok (He.ba (He.ba (List.all_eq_true.mp o7 T hT)).2).2
      exact ⟨a, b, c⟩
  have TF : ToldN K mg (He.ga K "NotAKind") := ⟨He.glo_ok X G (all_get f1 5), (er1 "NotAKind" (by decide)).2.2.1, (er1 "NotAKind" (by decide)).2.2.2, er2 "NotAKind" (by decide) "NotAKind" (by decide)⟩
  have TB1 := TB _ List.mem_cons_self
  have room : Room 11 callerA := ⟨rfl, by decide, by decide⟩
  have k_cell := c_cell (P := P) (w := w) (base := base) T F_cell g_cell
  have k_purse := c_purse (P := P) (w := w) (base := base) T F_purse g_purse
  have k_draw := c_draw (P := P) (w := w) (base := base) T F_draw g_draw
  have k_odd := c_odd3 T F_odd g_odd k_draw
  have k_alike := c_alike (P := P) (w := w) (base := base) T F_alike g_alike 5
  have k_lots := c_lots (P := P) (w := w) (base := base) F_lots g_lots
  have k_pairs := c_pairs T F_pairs g_pairs k_lots
  have k_line := c_line (P := P) (w := w) (base := base) F_line g_line
  have k_product := c_product (P := P) (w := w) (base := base) T F_product g_product
  have k_share := c_share (P := P) (w := w) (base := base) T F_share g_share
  have k_keeps := c_keeps (P := P) (w := w) (base := base) T F_keeps g_keeps
  have k_kinds_of := c_kinds_of T F_kinds_of g_kinds_of k_keeps k_lots k_pairs k_line
  have k_pair_right := c_pair_right T KP F_pair_right g_pair_right k_product k_share k_line
  have k_rule := c_rule T mdict F_rule g_rule k_draw
  have k_rule_right := c_rule_right T KP F_rule_right g_rule_right k_kinds_of
  have k_right := c_right T KP OG TF F_told g_told TB1 F_right g_right k_draw k_pairs k_odd k_alike k_rule k_rule_right k_line
  exact r_law T F_law room rfl k_cell k_purse k_right k_lots k_pairs k_pair_right
end
end L2.K4
open PySem PySem.W PySem.Calls PyProof.Rows
theorem PySem.Challenge.cw_thirdback_k04_whole_kinds_and_their_rule_holds : PySem.Challenge.rw_thirdback_k04_whole_kinds_and_their_rule.Holds := by
  w_on; o_law
  refine HandSHeadRun.head_any (r := OpenLaw.row PySem.Challenge.rw_thirdback_k04_whole_kinds_and_their_rule) (q := view (OpenLaw.row PySem.Challenge.rw_thirdback_k04_whole_kinds_and_their_rule).prog [34]) (H := L2.K4.hookX) (ob := L2.K4.ob) (M := 20000) (loose := L2.K4.looseN) (d := HandSHeadRun.topDef (OpenLaw.row PySem.Challenge.rw_thirdback_k04_whole_kinds_and_their_rule).prog 34) (kwd := []) L2.K4.ob_eq
    (by kernel_rfl) (fun s => by kernel_rfl) L2.K4.run (by kernel_rfl) (by kernel_rfl) (by kernel_rfl) (by rfl) (by first | assumption | decide +kernel) (by decide +kernel) ⟨rfl, rfl, rfl, rfl, rfl, by decide +kernel⟩ ?hw ?hc
  case hw => w_witness2
  case hc =>
    refine L2.Tb.walk_atT (l := PySem.Challenge.rw_thirdback_k04_whole_kinds_and_their_rule) (n := 63) (x := "_law_cells") rfl (by decide) (by kernel_rfl) ?F
    intro w mg fa h Y G hmg0
    obtain ⟨K, c⟩ := Y
    have hmg : mg ("law" : PySem.Str) = some (.ref fa) := by
      have e : (HandSHeadRun.topDef (OpenLaw.row PySem.Challenge.rw_thirdback_k04_whole_kinds_and_their_rule).prog 34).name = ("law" : PySem.Str) := by kernel_rfl
      rw [← e]
      exact hmg0
    obtain ⟨fd, T, hb, hT, hF⟩ := L2.K4.ends (P := (PySem.Challenge.rw_thirdback_k04_whole_kinds_and_their_rule).prog) (w := w) G hmg c
    obtain ⟨y1, y2, y3⟩ := c.cs
    exact ⟨K, fd, L2.K4.spLaw K T, L2.K4.cdL.map (He.cT K), c.kin, y1, y2, y3, hb, fun H a ns hl hbits hH hS => ⟨a, ns, rfl, hS, hbits, hl, hT H hH, fun _ => rfl⟩, hF⟩
