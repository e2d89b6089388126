import PyProof.Rows.All
import Wide.All
import OpenK.AllK
import Wide.FinOn
import KE.KExcInit
import KE.KExcMake
import KE.KIsAll
import HandS.ForMost
import HandS.Exc
import HandS.ExcOwn
import HandS.ExcInit
import HandS.ExcIs
import HandS.ExcField
import HandS.IsInst
import HandS.Defaults
import KE.KExcIs
import HandS.Walk
import HandS.Zip
import HandS.Wide
import HandS.WideBits
import HandS.DeepEq
import HandS.EndBits
import PyProof.ReprRoads
import HandS.Head2
import HandS.HeadHook2
import KE.KCallOwn
import HandS.MakeKwOnly
import HandS.Codes
import HandS.TryMany
import HandS.ClsMeth
import HandS.More
import PyProof.InstEq
import HandS.EndTab
import HandS.HeadHook4
import HandS.Property
import HandS.HeadNt
import HandS.HeadHook3
import HandS.TupSets
import HandS.Keys
import HandS.SetBool
import HandS.Deep
import HandS.Iter
import OpenK.KMeth
import KE.KOpsOwn
import OpenK.KOps
import PyProof.Conv_bool
import PyProof.StrOps2
import HandS.Text
import HandS.Small
import HandS.Conv
import HandS.StrMore
import HandS.TupLe
import HandS.FStr
import HandS.RaiseMore
import HandS.GenList
import HandS.GenYield
import HandS.GenCall
import HandS.Gcd
import KE.KMathGC
import KE.GoesEnum
import KE.GoesMore
import PyProof.Draws
import HandS.Style
import HandS.DictSub
import HandS.Star
import KE.SortData
import HandS.TupAny
import HandS.Lambda
import PySem.Challenge.RW_thirdback_k33_whole_ways_to_each_index
set_option Elab.async false
set_option linter.all false
set_option maxRecDepth 100000
set_option maxHeartbeats 4000000
/-! an own error class over ValueError, LookupError, ArithmeticError alike: it is called (by place or by name), its object gets its first attribute -/
namespace L2.Tb
open PySem PySem.W PySem.Calls PyProof.Rows PySem.HandSPX
/-- a built-in base: its name, its makers, its mro -/
structure Bs where
  B : String
  newId : String
  initId : String
  bm : List Value
structure Bs.Ok (b : Bs) : Prop where
  F : ExcBaseFacts b.B b.newId b.initId b.bm
  S : StoreFacts b.B b.bm "object.__setattr__" "object"
section
variable {prog : Program} {w : World} {A : Around} {R : Result → Shared → Prop} {h : Heap} {g : Array GenState} {dr : Drawn} {tk : Nat} {os : OsState} {b : Bs} {C fI : Addr} {us : List Value} {kw : List (Str × Value)}
/-- C's class object is that of an own class over b -/
def OwnC (h : Heap) (b : Bs) (C : Addr) (bm : List Value) : Prop := ∃ nm q N bs hdct sn sub ab col dd k0 k1 k2 k3 k5, h.get? C = some (excClassObj nm q C N bs bm hdct sn sub ab col dd k0 k1 k2 k3 k5 b.newId)
/-- what the two makers leave behind: the args, the object -/
abbrev laidH (h : Heap) (C : Addr) (us : List Value) : Heap := (h.push (kdv_tup us)).push (excO C h.objs.size)
theorem own_new {bm : List Value} (o : OwnC h b C bm) (F : ExcBaseFacts b.B b.newId b.initId b.bm) (is : ∀ T : String, (Value.ref C :: bm).contains (.type T) = b.bm.contains (.type T)) (hz : us.length ≤ sizeLine) :
    (∀ {M : Model} {A' : Around} {E : Value → Shared → Prop} {Q : Unit → Shared → Prop}, Q () ⟨h, g, dr, tk, os⟩ → wpAny M A' (checkBuiltinCall b.newId ⟨.ref C :: us, kw⟩) Q E ⟨h, g, dr, tk, os⟩) ∧
    ∀ {R' : Result → Shared → Prop}, R' (.ok (.ret (.ref (h.objs.size + 1)))) ⟨laidH h C us, g, dr, tk, os⟩ → codeAny (model prog w) A (.builtin b.newId ⟨.ref C :: us, kw⟩) R' ⟨h, g, dr, tk, os⟩ := by
  obtain ⟨nm, q, N, bs, hdct, sn, sub, ab, col, dd, k0, k1, k2, k3, k5, hC⟩ := o
  have yes := (is b.B).trans F.hasB
  have no1 := (is "AttributeError").trans F.noAttr
  have no2 := (is "NameError").trans F.noName
  constructor
  · intro M A' E Q hq
    have star := F.noStar
    simp only [checkBuiltinCall, F.newKind, F.newSplit, F.newRow]
    repeat (first | (refine wpAny_isSubtype_exc hC ?_; rw [yes]) | refine wpAny_staticBase_exc hC ?_ | refine wpAny_madeBy_exc hC ?_ | refine wpAny_loadPart_at hC ?_ | simp only [bne_self_eq_false, Bool.false_eq_true, if_false] | wp_step)
    exact hq
  · intro R' hq
    have ends := F.ends
    refine codeAny_builtinAt F.entry ?_
    unfold Builtin.«BaseException.__new__»
    refine PySem.wpAt_bind ?_
    show PySem.wpAt _ _ _ (stack >>= _) _ _ _
    refine PySem.wpAt_bind (PySem.wpAt_stack fun _ _ => PySem.wpAt_of_wpAny ?_)
    wp_walk
    refine PySem.wpAt_of_wpAny ?_
    rw [F.owner]
    repeat (first | with_reducible refine wpAny_madeHere_exc F.canon hC ?_ | (with_reducible refine wpAny_isSubtype_exc hC ?_; first | rw [no1] | rw [no2] | rw [yes]) | with_reducible refine wpAny_loadPart_at hC ?_ | wp_step)
    show R' _ _
    rw [Heap.size_push]
    exact hq
/-- C(us, kw), C's own __init__ at fI -/
theorem own_call {bm : List Value} (o : OwnC h b C bm) (ok : b.Ok) (hT : ∀ T : String, bm.contains (.type T) = b.bm.contains (.type T)) (hi : Looks (model prog w) h (typeLookup (.ref C) "__init__") (some (.ref fI)))
    (hb : ∀ self, Looks (model prog w) h (bindSpecial (.ref fI) self) (.ref fI, [self])) (hz : us.length ≤ sizeLine)
    (hq : codeAny (model prog w) (A.under (.builtin "type.__call__" ⟨.ref C :: us, kw⟩)) (.call (.ref fI) ⟨.ref (h.objs.size + 1) :: us, kw⟩) (InitBack (h.objs.size + 1) R) ⟨laidH h C us, g, dr, tk, os⟩) :
    codeAny (model prog w) A (.call (.ref C) ⟨us, kw⟩) R ⟨h, g, dr, tk, os⟩ := by
  have keep : ∀ a x, h.get? a = some x → (laidH h C us).get? a = some x := fun a x e => Heap.get?_push_of_some _ (Heap.get?_push_of_some _ e)
  have there : (laidH h C us).get? (h.objs.size + 1) = some (excO C h.objs.size) := by heap_get
  have self : (Value.ref C :: bm).contains (.ref C) = true := by simp
  have new := @own_new prog w ((A.under (.builtin "type.__call__" ⟨.ref C :: us, kw⟩))) h g dr tk os b C us kw bm o ok.F (fun T => by rw [List.contains_cons, hT]; rfl) hz
  obtain ⟨nm, q, N, bs, hdct, sn, sub, ab, col, dd, k0, k1, k2, k3, k5, hC⟩ := o
  have hC2 := keep _ _ hC
  have ty : (⟨h, g, dr, tk, os⟩ : Shared).TypeIs (.ref C) "type" := ⟨_, hC, rfl⟩
  have l1 := tc_lookup
  have l2 := tc_bind (.ref C)
  have l3 := tc_sub
  refine codeAny_of_tree ?_
  show wpAny _ _ (callAny (.ref C) _) _ _ _
  repeat (any_goals (first | assumption | with_reducible refine wpAny_loadPart_at hC ?_ | wp_step))
  refine ⟨rfl, codeAny_call_builtin_at (Code.quiet_builtin _ (by decide +kernel)) entry_typeCall ?_⟩
  simp only [checkBuiltinCall, tc_kind, tc_split]
  repeat (any_goals (first | assumption | with_reducible refine wpAny_loadPart_at hC ?_ | with_reducible refine wpAny_onRaise ?_ | with_reducible refine wpAny_map ?_ | wp_step))
  repeat (first | with_reducible refine wpAny_madeBy_exc hC ?_ | with_reducible refine wpAny_loadPart_at hC ?_ | wp_step)
  refine codeAny_call_builtin_code (Code.quiet_builtin _ ok.F.quiet) (new.1 (new.2 ?_))
  show wpAny _ _ _ _ _ _
  unfold isInstance
  repeat (first | with_reducible refine wpAny_loadPart_at there ?_ | (with_reducible refine wpAny_isSubtype_exc hC2 ?_; rw [self]) | wp_step)
  show wpAny _ _ (typeLookup (.ref C) _) _ _ _
  refine (hi.keeps keep).at (wpAny_holding (wpAny_bind (((hb _).keeps keep).at (wpAny_bind (wpAny_call (codeAny_mono hq fun r s' z => ?_))))))
  match r, z with
  | .error e, z => exact z
  | .ok (.ret v), ⟨e, z⟩ =>
    subst e
    first
      | exact wpAny_pure (wpAny_pure z)
      | (wp_walk; exact z)
end
/-! ### self.name = v on an own error that has no dict yet -/
section
variable {prog : Program} {w : World} {A : Around} {R : Result → Shared → Prop} {hp : Heap} {g : Array GenState} {dr : Drawn} {tk : Nat} {os : OsState}
theorem own_store {K : Frag} {name : Str} {t1 : Tok} {v : Value} {x C t0 : Addr} {b : Bs} (ok : b.Ok) (X : K.In hp) (hx : hp.get? x = some (excObj C t0 none .none)) (ov : excOver K C b.bm = true) (hd : hasDictIn K C = true) (no : findIn K (.ref C) name = some none)
    (hq : ∀ h' tk' dx, (∀ b o, b ≠ x → hp.get? b = some o → h'.get? b = some o) → hp.objs.size ≤ dx → dx ≠ x → h'.get? x = some (excObj C t0 (some dx) .none) → h'.Ns1 dx (fun y => if y = name then some v else none) → R (.ok (.ret .none)) ⟨h', g, dr, tk', os⟩) :
    codeAny (model prog w) A (.call (.builtin "object.__setattr__") ⟨[.ref x, .str name t1, v], []⟩) R ⟨hp, g, dr, tk, os⟩ := by
  have far : x ≠ hp.objs.size := Nat.ne_of_lt (Heap.lt_size hx)
  obtain ⟨cd, hc, hd'⟩ := any_some hd
  refine osa_openX (s := ⟨hp, g, dr, tk, os⟩) (od := none) (r := none) ok.S X ⟨hx, rfl, rfl, trivial⟩ ov (by unfold takerIn; rw [no]; rfl) fun bb => ?_
  refine wpAny_bind (wpAny_pure (wpAny_bind (instanceDict_exc (s := ⟨hp, g, dr, tk, os⟩) hx (looks_clsIn X hc) hd' ?_)))
  have hx1 := (hp.get?_push_of_some (dictOf [] 0) hx)
  refine store_in_new ⟨_, #[], _, (Heap.get?_update_ne _ _ _ _ far.symm).trans (Heap.get?_push_at rfl rfl), rfl, fun e he => absurd he (by simp), fun _ => rfl⟩ fun h' tk' hn hs => ?_
  refine hq h' tk' hp.objs.size (fun a o ne ho => (hs.2 a (Nat.ne_of_lt (Heap.lt_size ho))).trans ((Heap.get?_update_ne _ _ _ _ ne).trans (Heap.get?_push_of_some _ ho))) (Nat.le_refl _) far.symm ?_ hn
  exact (hs.2 x far).trans (Heap.get?_update_self _ hx1 rfl)
end
end L2.Tb
set_option Elab.async false
set_option linter.all false
set_option maxRecDepth 100000
set_option maxHeartbeats 4000000
namespace L2.Tb
open PySem PySem.Spec PyProof.Rows L2
def bVE : Bs := ⟨"ValueError", "ValueError.__new__", "ValueError.__init__", [.type "ValueError", .type "Exception", .type "BaseException", .type "object"]⟩
def bLE : Bs := ⟨"LookupError", "LookupError.__new__", "LookupError.__init__", [.type "LookupError", .type "Exception", .type "BaseException", .type "object"]⟩
def bAE : Bs := ⟨"ArithmeticError", "ArithmeticError.__new__", "ArithmeticError.__init__", [.type "ArithmeticError", .type "Exception", .type "BaseException", .type "object"]⟩
theorem bVE_ok : bVE.Ok := ⟨PySem.F.excBase_ValueError, PySem.F.store_ValueError⟩
theorem bLE_ok : bLE.Ok := ⟨PySem.F.excBase_LookupError, PySem.F.store_LookupError⟩
theorem bAE_ok : bAE.Ok := ⟨PySem.F.excBase_ArithmeticError, PySem.F.store_ArithmeticError⟩
/-- an own exception class over the base b -/
structure EC (K : PySem.W.Frag) (b : Bs) (C : Addr) : Prop where
  ok : b.Ok
  own : PySem.W.excInitIn K C b.bm b.newId = true
  sa : PySem.W.findIn K (.ref C) "__setattr__" = some (some (.builtin "object.__setattr__"))
  kC : PySem.W.keepIn K (.ref C) = true
  ex : ExcC K C
  ov : PySem.W.excOver K C b.bm = true
def ecB (K : PySem.W.Frag) (b : Bs) (C : Addr) : Bool := PySem.W.excOver K C b.bm && (
  PySem.W.excInitIn K C b.bm b.newId && (decide (PySem.W.findIn K (.ref C) "__setattr__" = some (some (.builtin "object.__setattr__"))) && (PySem.W.keepIn K (.ref C) &&
  (decide (PySem.W.findIn K (.ref C) "__getattribute__" = some (some (.builtin "BaseException.__getattribute__"))) && (decide (PySem.W.findIn K (.ref C) "__getattr__" = some none) &&
  (decide (PySem.W.subIn K (.ref C) (.type "BaseException") = some true) && (PySem.W.hasDictIn K C && (decide (PySem.W.findIn K (.ref C) "__class__" = some (some (.builtin "object.__class__"))) &&
  (decide (PySem.W.specialIn K (.builtin "object.__class__") "__get__" = some (some (.builtin "getset_descriptor.__get__"))) && (decide (PySem.W.takesIn K (.builtin "object.__class__") = some true) &&
  decide (PySem.W.mroIn K C (.type "object") = some true)))))))))))
theorem ecB_ok {K : PySem.W.Frag} {b : Bs} {C : Addr} (ok : b.Ok) (h : ecB K b C = true) : EC K b C := by
  unfold ecB at h
  simp only [Bool.and_eq_true, decide_eq_true_eq] at h
  obtain ⟨h0, h1, h2, h3, h4, h5, h6, h7, h8, h9, h10, h11⟩ := h
  exact ⟨ok, h1, h2, h3, ⟨h4, h5, h6, h7, h8, h9, h10, h11⟩, h0⟩
section
variable {K : PySem.W.Frag} {b : Bs} {C : Addr}
theorem EC.cd (T : EC K b C) : ∃ cd, PySem.W.clsIn K C = some cd ∧ PySem.W.excTail b.bm cd.mro = true ∧ cd.mro.isEmpty = false ∧ cd.hasDict = true := by
  have q := T.own
  unfold PySem.W.excInitIn at q
  obtain ⟨cd2, hc2, hd2⟩ := PySem.W.any_some (show (PySem.W.clsIn K C).any (·.hasDict) = true from T.ex.hd)
  split at q
  · rename_i dd cd sl ho
    split at q
    · rename_i C' bm k0 k1 k2 k3 n k5 hm hs
      simp only [Bool.and_eq_true, beq_iff_eq, Bool.not_eq_true'] at q
      obtain ⟨⟨⟨rfl, rfl⟩, hdel⟩, ht⟩ := q
      have e : PySem.W.clsIn K C' = some cd := by unfold PySem.W.clsIn; rw [ho] <;> rfl
      have e3 := Option.some.inj (e.symm.trans hc2)
      subst e3
      refine ⟨_, e, ?_, ?_, hd2⟩
      · rw [hm]
        exact ht
      · rw [hm]
        rfl
    · cases q
  · cases q
end
section
variable {X : Cx} {pins : List (Addr × Obj)} {σ : St} {H : Hp} {s : Shared} {b : Bs} {a C dx : Addr} {f : Str} {y : V} {u : Value} {Q : Unit → Shared → Prop} {E : Value → Shared → Prop} {A : Around}
/-- self.f = y, the first one -/
theorem osv_new (T : EC X.K b C) (I : Inv X pins σ H s) (e : H a = some (exo a C none)) (hno : PySem.W.findIn X.K (.ref C) f = some none) (ry : RelV y u)
    (h : ∀ dx s', H dx = none → dx ≠ a → Inv X pins σ (upd (upd H dx (exd dx [(f, y)])) a (exo a C (some dx))) s' → Q () s') : wpAny (model X.prog X.w) A (setAttr (.ref a) f u) Q E s := by
  obtain ⟨t1, ho⟩ := exo_at I.hok e
  refine PySem.W.set_plain I.kIn (od := none) ⟨ho, rfl, rfl, trivial⟩ T.sa (own_store T.ok I.kIn ho T.ov T.ex.hd hno fun h' tk' dx k dn dne hx hn => ?_)
  have fresh : H dx = none := I.hok.fresh dn
  -- the heap behind the store, seen from what was there
  have other : ∀ {c : Addr} {o : HO}, H c = some o → c ≠ a → upd (upd H dx (exd dx [(f, y)])) a (exo a C (some dx)) c = some o := fun q n => by rw [upd_ne n, upd_ne (ne_of_none q fresh)]; exact q
  have ne : ∀ {c : Addr}, H c = none → c ≠ a := fun n z => by rw [z, e] at n; cases n
  have lt : ∀ {c : Addr} {o : Obj}, s.heap.get? c = some o → c ≠ dx := fun q => Nat.ne_of_lt (Nat.lt_of_lt_of_le (Heap.lt_size q) dn)
  refine h dx _ fresh dne (I.un (t' := tk') { keep := fun c o q n _ _ => k c o (ne n) q, slot := fun c o q n _ _ => ⟨o.slots, k c o (ne n) q⟩, free := fun c o q n _ => ?_, there := fun c o q _ => ?_, tups := fun c xs q => other q (at_ne e q exo_tup), frzs := fun c o v q => other q (at_ne e q exo_frz), tbls := fun c ps q => ⟨#[], ?_⟩ } fun c o q => ?_)
  · rw [upd_ne (ne n), upd_ne (lt q)]
    exact n
  · by_cases z : c = a
    · exact ⟨_, by rw [z]; exact hx⟩
    · exact ⟨o, k c o z q⟩
  · rw [other q (at_ne e q exo_tbl)]
    simp
  · by_cases z : c = a
    · subst z
      rw [upd_same] at q
      cases q
      exact exo_ok hx
    · rw [upd_ne z] at q
      by_cases z2 : c = dx
      · subst z2
        rw [upd_same] at q
        cases q
        exact exd_ok hn (relO_put (fs := []) ry fun _ => True.intro)
      · rw [upd_ne z2] at q
        refine (I.hok c o q).stay (fun d v hc z' => k d v ?_ z') (fun d hc => other hc (at_ne e hc exo_own)) fun d xs hc => other hc (at_ne e hc exo_tup)
        rcases hc with rfl | hc
        · exact z
        · exact at_ne e hc exo_own
end
/-- self.f = e -/
def tOsv (K : PySem.W.Frag) (f : Str) (to te : TE) : TS := fun D σ H => te σ H fun y H1 => to σ H1 fun x H2 => ∃ (a C : Addr) (b : Bs), x = .ref a ∧ EC K b C ∧ PySem.W.findIn K (.ref C) f = some none ∧
  H2 a = some (exo a C none) ∧ ∀ dx, H2 dx = none → dx ≠ a → D.nx σ (upd (upd H2 dx (exd dx [(f, y)])) a (exo a C (some dx)))
/-- C(e, ..), C's own __init__ keeping sp: the exception as a value -/
def tMkV (C : Addr) (sp : Sp) (ta : TA) : TE := fun σ H Q => ta σ H fun vs H1 => vs.length ≤ 1000 ∧ ∀ a, H1 a = none → sp (.ref a :: vs) (upd H1 a (exo a C none)) (fun v H2 => v = .non ∧ Q (.ref a) H2) E0
/-- e.f of an exception -/
def tXv (K : PySem.W.Frag) (f : Str) (te : TE) : TE := fun σ H Q => te σ H fun x H1 => ∃ (a C dx : Addr) (b : Bs) (fs : List (Str × V)) (v : V), x = .ref a ∧ EC K b C ∧ PySem.W.findIn K (.ref C) f = some none ∧
  H1 a = some (exo a C (some dx)) ∧ H1 dx = some (exd dx fs) ∧ fs.lookup f = some v ∧ Q v H1
/-- isinstance(e, c) -/
def rIsX (K : PySem.W.Frag) : List V → Hp → VK → Prop := fun xs H Q => ∃ (a C : Addr) (od : Option Addr) (c : V) (u : Value) (b : Bs) (r : Bool), xs = [.ref a, c] ∧ ClsV c u ∧ H a = some (exo a C od) ∧ (∀ d, od = some d → ∃ fs, H d = some (exd d fs)) ∧ EC K b C ∧
  PySem.W.kitOne K (.ref C) u = some r ∧ Q (.bl r) H
section
variable {X : Cx} {o e : Expr} {es : List Expr} {to te : TE} {ta : TA} {f : Str} {p p' p1 p2 pos : Pos}
theorem ps_osv (ho : PE X o to) (he : PE X e te) (hs : swapsWith e (some (.Attribute o f p')) pos.line X.env = pure false := by rfl) : PS X (.Assign [.Attribute o f p'] e pos) (tOsv X.K f to te) := by
  refine ⟨fun pins s σ H D I h => ?_⟩
  refine plainObj_wpAny_Assign_Attribute (thn (he.run pins s σ H _ I h) fun v s1 ⟨y, H1, I1, r1, q1⟩ => thn (ho.run pins s1 σ H1 _ I1 q1) fun u s2 ⟨x, H2, I2, r2, a, C, b, ex, T, hno, ea, q⟩ => ?_) hs
  subst ex
  obtain rfl : u = Value.ref a := r2
  exact osv_new T I2 ea hno r1 fun dx s' n ne J => ⟨σ, _, J, q dx n ne⟩
/-- the exception that is made: its object lies, not yet its dict -/
theorem made_inv {pins : List (Addr × Obj)} {σ : St} {H1 : Hp} {hp : Heap} {g : Array GenState} {dr : Drawn} {tk : Nat} {os : OsState} {C : Addr} (us : List Value) (I1 : Inv X pins σ H1 ⟨hp, g, dr, tk, os⟩) :
    Inv X pins σ (upd H1 (hp.objs.size + 1) (exo (hp.objs.size + 1) C none)) ⟨(hp.push (PySem.W.kdv_tup us)).push (PySem.HandSPX.excO C hp.objs.size), g, dr, tk, os⟩ := by
  have kk : ∀ b o, hp.get? b = some o → ((hp.push (PySem.W.kdv_tup us)).push (PySem.HandSPX.excO C hp.objs.size)).get? b = some o := fun b o e => Heap.get?_push_of_some _ (Heap.get?_push_of_some _ e)
  have hget : ((hp.push (PySem.W.kdv_tup us)).push (PySem.HandSPX.excO C hp.objs.size)).get? (hp.objs.size + 1) = some (PySem.HandSPX.excO C hp.objs.size) := by heap_get
  exact I1.laid (t' := tk) (a := hp.objs.size + 1) (o := exo (hp.objs.size + 1) C none) (h' := (hp.push (PySem.W.kdv_tup us)).push (PySem.HandSPX.excO C hp.objs.size)) kk (Nat.le_succ _) (exo_ok hget)
theorem run_mkV {CX : CXT} {C fI : Addr} {b : Bs} {k : Nat} {fd : FuncData} {ps : List Str} {sp : Sp} {pins : List (Addr × Obj)} {σ : St} {H1 : Hp} {s1 : Shared} {Q : VK} {us zs : List Value} {ws : List V} {kw : List (Str × Value)} (T : EC X.K b C)
    (iC : PySem.W.findIn X.K (.ref C) "__init__" = some (some (.ref fI))) (tI : PySem.W.typeIn X.K (.ref fI) = some (.type "function"))
    (F1 : FnOk X.prog X.w X.K X.mg X.base CX k fI fd ps sp) (hr : Room (k + 1) X.A) (hx : Passes CX X E0) (I1 : Inv X pins σ H1 s1) (hus : us.length ≤ sizeLine)
    (hz : ∀ (sh : Shared) (a : Addr), X.K.In sh.heap → BindsTo sh fd ⟨Value.ref a :: us, kw⟩ (ps.zip (Value.ref a :: zs))) (r2 : Vals ws zs)
    (h : ∀ a, H1 a = none → sp (.ref a :: ws) (upd H1 a (exo a C none)) (fun v H2 => v = .non ∧ Q (.ref a) H2) E0) :
    wpAny (model X.prog X.w) X.A (call (.ref C) us kw) (EP X pins σ Q) X.xe s1 := by
  obtain ⟨nm, N, qn, bs, bm, hdct, sn, sub, ab, col, dd, k0, k1, k2, k3, k5, hC, hT⟩ := PySem.W.excInit_of I1.kIn T.own
  obtain ⟨hp, g, dr, tk, os⟩ := s1
  have hn : H1 (hp.objs.size + 1) = none := I1.hok.fresh (Nat.le_succ _)
  have hq := h (hp.objs.size + 1) hn
  have I2 := made_inv (C := C) us I1
  have r3 : Vals (V.ref (hp.objs.size + 1) :: ws) (Value.ref (hp.objs.size + 1) :: zs) := .cons rfl r2
  refine wpAny_call (own_call ⟨nm, qn, N, bs, hdct, sn, sub, ab, col, dd, k0, k1, k2, k3, k5, hC⟩ T.ok hT (PySem.W.looks_findIn I1.kIn iC) (fun self => PySem.W.bind_fn I1.kIn self tI) hus
    (codeAny_mono (F1.run _ X.stack _ _ ⟨Value.ref (hp.objs.size + 1) :: us, kw⟩ (Value.ref (hp.objs.size + 1) :: zs) _ _ E0 (hr.make C us kw) (I2.env0.make C us kw) (hz _ _ I2.kIn) r3 hq) fun r s' hq' => ?_))
  cases r with
  | error er => exact hx pins σ _ _ er s' I2 hq'
  | ok fl =>
    cases fl with
    | ret u =>
      obtain ⟨v, H', I3, rv, ev, q3⟩ := I2.after hq'
      subst ev
      exact ⟨rv, ⟨V.ref (hp.objs.size + 1), H', I3, rfl, q3⟩⟩
    | next => exact False.elim hq'
    | brk => exact False.elim hq'
    | cont => exact False.elim hq'
/-- C(e, ..) -/
theorem pe_mkV {CX : CXT} {x : Str} {C fI : Addr} {b : Bs} {k : Nat} {fd : FuncData} {ps : List Str} {sp : Sp} (T : EC X.K b C) (iC : PySem.W.findIn X.K (.ref C) "__init__" = some (some (.ref fI))) (tI : PySem.W.typeIn X.K (.ref fI) = some (.type "function"))
    (F1 : FnOk X.prog X.w X.K X.mg X.base CX k fI fd ps sp) (hr : Room (k + 1) X.A) (hb : Binds X.K fd ps []) (hx : Passes CX X E0) (hg : Gl X x) (hm : X.mg x = some (.ref C)) (ha : PA X (e :: es) ta)
    (hdb : (x == ("__debug__" : Str)) = false := by decide) (he : starEach (e :: es) X.env = (false, eval e X.env) :: starEach es X.env := by rfl) (hpl : (backTo pos (starEach es X.env)).any (·.1) = false := by rfl) :
    PE X (.Call (.Name x p) (e :: es) [] pos) (tMkV C sp ta) := by
  refine ⟨fun pins s σ H Q I h => ?_⟩
  refine wpAny_Call_Name_kw (ld_glob I hg hm ?_ hdb)
  refine PySem.W.callWith_K (h₀ := X.base) I.ok.mod.kin T.kC (thn (ha.run pos pins s σ H _ I h) fun us s1 ⟨vs, H1, I1, r1, hz, q1⟩ => ⟨I1.kIn, ?_⟩) he hpl
  have hus : us.length ≤ sizeLine := by
    rw [← Paired.length r1, sizeLine_eq]
    omega
  have hl : (Value.ref 0 :: us).length = ps.length := by
    have z := F1.len _ _ _ _ (q1 s1.heap.objs.size (I1.hok.fresh (Nat.le_refl _)))
    rw [← z, List.length_cons, List.length_cons, Paired.length r1]
  refine run_mkV (us := us) (kw := []) (zs := us) T iC tI F1 hr hx I1 hus (fun sh a X' => ?_) r1 q1
  have z := hb sh (Value.ref a :: us) X' (by rw [List.append_nil]; exact hl)
  rw [List.append_nil] at z
  exact z
/-- C(f = e) -/
theorem pe_mkVK {CX : CXT} {x : Str} {C fI : Addr} {b : Bs} {k : Nat} {fd : FuncData} {ps ks : List Str} {sp : Sp} {kws : List Keyword} {tk : TA} (T : EC X.K b C) (iC : PySem.W.findIn X.K (.ref C) "__init__" = some (some (.ref fI))) (tI : PySem.W.typeIn X.K (.ref fI) = some (.type "function"))
    (F1 : FnOk X.prog X.w X.K X.mg X.base CX k fI fd ps sp) (hr : Room (k + 1) X.A) (hb : ∀ (sh : Shared) (a : Addr) (zs : List Value), zs.length = ks.length → BindsTo sh fd ⟨[Value.ref a], ks.zip zs⟩ (ps.zip (Value.ref a :: zs))) (hx : Passes CX X E0) (hg : Gl X x) (hm : X.mg x = some (.ref C)) (hkw : PK X kws tk)
    (hps : ps.length = ks.length + 1) (hall : (backToKw pos (keywordEach kws X.env)).all (·.1.isSome) = true := by rfl) (hks : (backToKw pos (keywordEach kws X.env)).filterMap (·.1) = ks := by rfl) (hdb : (x == ("__debug__" : Str)) = false := by decide)
    (hpl : ((backTo pos (starEach [] X.env)).any (·.1) || (backToKw pos (keywordEach kws X.env)).any (·.1.isNone)) = false := by rfl) :
    PE X (.Call (.Name x p) [] kws pos) (tMkV C sp tk) := by
  refine ⟨fun pins s σ H Q I h => ?_⟩
  refine wpAny_Call_Name_kw (ld_glob I hg hm ?_ hdb)
  refine PySem.W.callWith_KW0 (h₀ := X.base) I.ok.mod.kin T.kC hall ?_ hpl
  refine thn (hkw.run pos pins s σ H _ I h) fun ws s2 ⟨zs, H2, I2, rz, hz, q2⟩ => ⟨I2.kIn, ?_⟩
  rw [hks]
  have hl : ws.length = ks.length := by
    have z := F1.len _ _ _ _ (q2 s2.heap.objs.size (I2.hok.fresh (Nat.le_refl _)))
    rw [List.length_cons, hps] at z
    rw [← Paired.length rz]
    omega
  exact run_mkV (us := []) (kw := ks.zip ws) (zs := ws) T iC tI F1 hr hx I2 (Nat.zero_le _) (fun sh a _ => hb sh a ws hl) rz q2
/-- C(), no __init__ of its own -/
theorem pe_mkV0 {x : Str} {C : Addr} {b : Bs} (T : EC X.K b C) (iC : PySem.W.findIn X.K (.ref C) "__init__" = some (some (.builtin b.initId))) (hg : Gl X x) (hm : X.mg x = some (.ref C))
    (hdb : (x == ("__debug__" : Str)) = false := by decide) :
    PE X (.Call (.Name x p) [] [] pos) (fun _ H Q => ∀ a, H a = none → Q (.ref a) (upd H a (exo a C none))) := by
  refine ⟨fun pins s σ H Q I h => ?_⟩
  refine wpAny_Call_Name_kw (ld_glob I hg hm ?_ hdb)
  refine PySem.W.callWith_K0 I.kIn T.kC ?_
  show wpAny _ _ (call (.ref C) []) _ _ _
  obtain ⟨nm, N, qn, bs, bm, hdct, sn, sub, ab, col, dd, k0, k1, k2, k3, k5, hC, hT⟩ := PySem.W.excInit_of I.kIn T.own
  obtain ⟨hp, g, dr, tk, os⟩ := s
  refine PySem.W.call_B T.ok.F hT hC (PySem.W.looks_findIn I.kIn iC) (Nat.zero_le _) fun h' k e1 e2 => ?_
  have hn : H (hp.objs.size + 1) = none := I.hok.fresh (Nat.le_succ _)
  exact ⟨.ref (hp.objs.size + 1), _, I.laid (t' := tk) (a := hp.objs.size + 1) k (Nat.le_succ _) (exo_ok e1), rfl, h _ hn⟩
theorem pe_xv {n : Str} (he : PE X e te) (hb : attributeBase e n X.env (eval e X.env) = eval e X.env := by rfl) : PE X (.Attribute e n pos) (tXv X.K n te) := by
  refine ⟨fun pins s σ H Q I h => ?_⟩
  refine attr_of hb (thn (he.run pins s σ H _ I h) fun u s1 hh => ?_)
  obtain ⟨x, H1, I1, rx, a, C, dx, b, fs, v, ex, T, hno, ea, ed, l, q⟩ := hh
  subst ex
  obtain rfl : u = Value.ref a := rx
  obtain ⟨t1, ho⟩ := exo_at I1.hok ea
  obtain ⟨mA, hns, hr⟩ := exd_at I1.hok ed
  obtain ⟨od, hod, hl⟩ := lookIn_ns hns
  obtain ⟨u, hu, ru⟩ := RelO.some_of (v := v) (o := mA n) (by rw [← l]; exact hr n)
  have J : PySem.W.InstAt s1.heap a { cls := .ref C, dict := some dx, data := .fields #[.ref t1, .none, .none, .none, .bool false, .none] } C (some od) := ⟨ho, rfl, rfl, hod⟩
  exact HandSPX.exc_get I1.kIn J T.ex.hg T.ex.hk T.ex.hs (PySem.W.findObj_own T.ex.hd hno rfl (by rw [hl, hu])) (handed_of ru) ⟨v, H1, I1.tok _, ru, q⟩
theorem call_isX : CallR X (.builtin "isinstance") (rIsX X.K) := by
  intro pins s σ H xs us Q I r h
  obtain ⟨a, C, od, c, u, b, rr, rfl, k, ea, hd, T, e, q⟩ := h
  obtain ⟨u1, u2, rfl, r1, r2⟩ := vals2 r
  have e2 := k.eq r2
  subst e2
  obtain rfl : u1 = Value.ref a := r1
  obtain ⟨t1, ho⟩ := exo_at I.hok ea
  have hcl : (PySem.W.clsIn X.K C).isSome = true := by
    obtain ⟨cd, hc, _⟩ := T.cd
    rw [hc]
    rfl
  have fin : ∀ tk, EP X pins σ Q (.bool rr) { s with toks := tk } := fun tk => ⟨.bl rr, H, I.tok tk, rfl, q⟩
  cases od with
  | none =>
    have J : PySem.W.InstAt s.heap a { cls := .ref C, dict := none, data := .fields #[.ref t1, .none, .none, .none, .bool false, .none] } C none := ⟨ho, rfl, rfl, trivial⟩
    exact PySem.W.kia_one (PySem.W.kitx_exc hcl T.ex.hg T.ex.hk T.ex.hs T.ex.ha T.ex.hn T.ex.ht T.ex.hm) I.kIn J e (fun z => nomatch z) fin
  | some dd =>
    obtain ⟨fs, ed⟩ := hd dd rfl
    obtain ⟨mA, hns, hr⟩ := exd_at I.hok ed
    obtain ⟨od, es, ep, hod, _⟩ := hns
    have J : PySem.W.InstAt s.heap a { cls := .ref C, dict := some dd, data := .fields #[.ref t1, .none, .none, .none, .bool false, .none] } C (some od) := ⟨ho, rfl, rfl, hod⟩
    exact PySem.W.kia_one (PySem.W.kitx_exc hcl T.ex.hg T.ex.hk T.ex.hs T.ex.ha T.ex.hn T.ex.ht T.ex.hm) I.kIn J e (fun z => nomatch z) fin
end
end L2.Tb
set_option Elab.async false
set_option linter.all false
set_option maxRecDepth 100000
set_option maxHeartbeats 4000000
namespace L2.Tb
open PySem PySem.Spec PyProof.Rows
/-! ### a def of the module that is called by its name -/
structure Cal (P : Program) (w : World) (K : PySem.W.Frag) (mg : Str → Option Value) (base : Heap) (k : Nat) (x : Str) (sp : Sp) : Prop where
  ex : ∃ (f : Addr) (fd : FuncData) (ps : List Str), FnOk P w K mg base L2.CX0 k f fd ps sp ∧ mg x = some (.ref f) ∧ PySem.W.keepIn K (.ref f) = true ∧ Binds K fd ps []
abbrev FnP (K : PySem.W.Frag) (x : Str) (st : Stmt) (f : Addr) (fd : FuncData) : Prop := FunD K x x (defArgs st) (defBody st) (defScope st) [] [] f fd
section
variable {P : Program} {w : World} {K : PySem.W.Frag} {mg : Str → Option Value} {base : Heap} {x : Str} {st : Stmt} {f : Addr} {fd : FuncData} {N ps : List Str} {k : Nat} {sp : Sp}
theorem cal_mk (F : FnP K x st f fd) (hm : mg x = some (.ref f)) (S : FnScope N ps (defScope st))
    (hb : ∀ (kV doc pm : Value) (an : Option Addr) (cdv ct : Value) (us : List Value), us.length = ps.length → bindArgs (PySem.W.fnOf x x (defArgs st) (defBody st) (defScope st) .none kV doc pm an cdv ct) ⟨us, []⟩ = pure (ps.zip us))
    (len : ∀ vs H Q E, sp vs H Q E → vs.length = ps.length)
    (hbody : ∀ (cdv : Value) (A : Around) (outer : List Env) (s : Shared) (H : Hp) (vs : List V) (Q : VK) (E : XK), Room k (A.deeper (envOfC x (defScope st) s.heap.objs.size f cdv)) → sp vs H Q E →
      ∃ t, PSs (cxOf L2.CX0 P w K mg base N x (defScope st) f cdv A outer s H E).nox (defBody st) t ∧ t { nx := fun _ H' => Q .non H', rt := Q } (start N vs) H) : Cal P w K mg base (k + 1) x sp :=
  ⟨f, fd, ps, F.ok S len fun cdv A outer s H vs Q E hr h => let ⟨t, a, b⟩ := hbody cdv A outer s H vs Q E hr h; ⟨t, a.nox, b⟩, hm, F.kp, F.bindsN hb⟩
theorem Cal.imp {sp' : Sp} (c : Cal P w K mg base k x sp) (h : ∀ vs H Q E, sp' vs H Q E → sp vs H Q E) : Cal P w K mg base k x sp' := by
  obtain ⟨f, fd, ps, F, a, b, d⟩ := c.ex
  exact ⟨f, fd, ps, F.imp h, a, b, d⟩
end
section
variable {X : Cx} {k j : Nat} {x : Str} {sp : Sp} {p pos : Pos} {e : Expr} {es : List Expr} {t : TA}
theorem pe_cal (c : Cal X.prog X.w X.K X.mg X.base k x sp) (hr : Room j X.A) (hk : k ≤ j) (hg : Gl X x) (ha : PA X (e :: es) t)
    (hdb : (x == ("__debug__" : Str)) = false := by decide) (he : starEach (e :: es) X.env = (false, eval e X.env) :: starEach es X.env := by rfl) (hpl : (backTo pos (starEach es X.env)).any (·.1) = false := by rfl) :
    PE X (.Call (.Name x p) (e :: es) [] pos) (tCall sp [] E0 t) := by
  obtain ⟨f, fd, ps, F, hm, kp, b⟩ := c.ex
  exact pe_call F (hr.mono hk) hg hm kp b .nil pass0 ha hdb he hpl
theorem pe_cal0 (c : Cal X.prog X.w X.K X.mg X.base k x sp) (hr : Room j X.A) (hk : k ≤ j) (hg : Gl X x)
    (hdb : (x == ("__debug__" : Str)) = false := by decide) : PE X (.Call (.Name x p) [] [] pos) (tCall sp [] E0 tNil) := by
  obtain ⟨f, fd, ps, F, hm, kp, b⟩ := c.ex
  exact pe_call0 F (hr.mono hk) hg hm kp b .nil pass0 hdb
end
/-! ### heaps: all but p stands -/
def SameB (p : Addr) (H H' : Hp) : Prop := ∀ b o, b ≠ p → H b = some o → H' b = some o
theorem SameB.refl (p : Addr) (H : Hp) : SameB p H H := fun _ _ _ h => h
theorem SameB.trans {p : Addr} {H H1 H2 : Hp} (a : SameB p H H1) (b : SameB p H1 H2) : SameB p H H2 := fun c o n h => b c o n (a c o n h)
theorem SameB.of {p : Addr} {H H' : Hp} (a : Same H H') : SameB p H H' := fun c o _ h => a c o h
theorem SameB.set {p : Addr} {H : Hp} {o : HO} : SameB p H (upd H p o) := fun c u n h => by rw [upd_ne n]; exact h
theorem same_new {H : Hp} {p : Addr} {o : HO} (h : H p = none) : Same H (upd H p o) := fun b u e => by rw [upd_ne (ne_of_none e h)]; exact e
theorem SameB.put {p : Addr} {H H' : Hp} {o : HO} (a : SameB p H H') : SameB p H (upd H' p o) := fun c u n h => by rw [upd_ne n]; exact a c u n h
/-! ### the purse -/
structure Purse (H : Hp) (p : Addr) : Prop where
  ex : ∃ st dg c : Int, H p = some (.lst [.int st, .int dg, .int c]) ∧ 0 ≤ st ∧ st < 2147483563 ∧ 0 ≤ dg
theorem Purse.same {H H' : Hp} {p : Addr} (h : Purse H p) (s : Same H H') : Purse H' p := by
  obtain ⟨st, dg, c, e, r⟩ := h.ex
  exact ⟨st, dg, c, s _ _ e, r⟩
theorem Purse.sameB {H H' : Hp} {p q : Addr} (h : Purse H p) (n : p ≠ q) (s : SameB q H H') : Purse H' p := by
  obtain ⟨st, dg, c, e, r⟩ := h.ex
  exact ⟨st, dg, c, s _ _ n e, r⟩
theorem divp_small {i j : Int} (h0 : 0 < j) (h1 : j < 2 ^ 200) : CDivP i j := by
  refine ⟨h0, ?_⟩
  unfold Builtin.divisionGoesByPylong
  have hb : j.natAbs.log2 < 200 := PySem.Flt.log2_lt_of (by decide) (by omega)
  have hj : ¬ (j == 0) = true := by simpa using (show j ≠ 0 by omega)
  show (decide ((if j == 0 then 0 else j.natAbs.log2 / 30 + 1) > 300) && _) = false
  rw [if_neg hj, decide_eq_false (by omega), Bool.false_and]
/-! ### odd values, alike values -/
def flatS : V → Bool
  | .non => true | .bl _ => true | .int _ => true | .str _ => true
  | _ => false
theorem flatS_B {x : V} (h : flatS x = true) : flatB x = true := by
  cases x <;> first | rfl | cases h
def Al (H : Hp) : Nat → V → V → Prop
  | 0, x, y => x = y ∧ flatS x = true
  | n + 1, x, y => (x = y ∧ flatS x = true) ∨
    (∃ a b xs ys, x = .ref a ∧ y = .ref b ∧ H a = some (.lst xs) ∧ H b = some (.lst ys) ∧ xs.length ≤ 1000 ∧ Paired (Al H n) xs ys) ∨
    (∃ a b xs ys, x = .ref a ∧ y = .ref b ∧ H a = some (.tup xs) ∧ H b = some (.tup ys) ∧ xs.length ≤ 1000 ∧ Paired (Al H n) xs ys) ∨
    (∃ (a : Addr) (kvs : List (Key × V)), x = .ref a ∧ y = .ref a ∧ H a = some (.dK kvs) ∧ ∀ kv ∈ kvs, valV kvs kv.1 = some kv.2 ∧ (flatS kv.2 = true ∨ ∃ b, kv.2 = .ref b))
theorem Al.mono {H H' : Hp} : ∀ {n : Nat} {x y : V}, (∀ b o, H b = some o → (∀ l, o = .lst l → l.length ≠ 3) → H' b = some o) → (∀ b l, H b = some (.lst l) → l.length = 3 → ∃ l', H' b = some (.lst l')) → Same H H' → Al H n x y → Al H' n x y
  | 0, _, _, _, _, _, h => h
  | n + 1, x, y, k1, k2, s, h => by
    have ih : ∀ {xs ys : List V}, Paired (Al H n) xs ys → Paired (Al H' n) xs ys := fun p => Paired.mapP p fun a b q => Al.mono k1 k2 s q
    rcases h with h | ⟨a, b, xs, ys, h1, h2, h3, h4, h5, h6⟩ | ⟨a, b, xs, ys, h1, h2, h3, h4, h5, h6⟩ | ⟨a, kvs, h1, h2, h3, h4⟩
    · exact .inl h
    · exact .inr (.inl ⟨a, b, xs, ys, h1, h2, s _ _ h3, s _ _ h4, h5, ih h6⟩)
    · exact .inr (.inr (.inl ⟨a, b, xs, ys, h1, h2, s _ _ h3, s _ _ h4, h5, ih h6⟩))
    · exact .inr (.inr (.inr ⟨a, kvs, h1, h2, s _ _ h3, h4⟩))
theorem Al.same {H H' : Hp} {n : Nat} {x y : V} (h : Al H n x y) (s : Same H H') : Al H' n x y := Al.mono (fun b o e _ => s b o e) (fun b l e _ => ⟨l, s _ _ e⟩) s h
def Od (H : Hp) : Nat → V → Prop
  | 0, v => flatS v = true
  | n + 1, v => flatS v = true ∨ (∃ a xs, v = .ref a ∧ H a = some (.lst xs) ∧ xs.length ≤ 1 ∧ ∀ x ∈ xs, Od H n x) ∨ (∃ a xs, v = .ref a ∧ H a = some (.tup xs) ∧ xs.length ≤ 3 ∧ ∀ x ∈ xs, Od H n x) ∨
    (∃ (a : Addr) (kvs : List (Key × V)), v = .ref a ∧ H a = some (.dK kvs) ∧ kvs.length ≤ 1 ∧ ∀ kv ∈ kvs, flatS kv.2 = true ∨ ∃ b, kv.2 = .ref b)
theorem Od.keep {H H' : Hp} {p : Addr} {st dg c : V} (hp : H p = some (.lst [st, dg, c])) (s : SameB p H H') : ∀ {n : Nat} {v : V}, Od H n v → Od H' n v
  | 0, _, h => h
  | n + 1, v, h => by
    rcases h with h | ⟨a, xs, h1, h2, h3, h4⟩ | ⟨a, xs, h1, h2, h3, h4⟩ | ⟨a, kvs, h1, h2, h3, h4⟩
    · exact .inl h
    · refine .inr (.inl ⟨a, xs, h1, s _ _ (fun e => ?_) h2, h3, fun x hx => (h4 x hx).keep hp s⟩)
      rw [e, hp] at h2
      cases h2
      simp at h3
    · refine .inr (.inr (.inl ⟨a, xs, h1, s _ _ (fun e => ?_) h2, h3, fun x hx => (h4 x hx).keep hp s⟩))
      rw [e, hp] at h2
      cases h2
    · refine .inr (.inr (.inr ⟨a, kvs, h1, s _ _ (fun e => ?_) h2, h3, h4⟩))
      rw [e, hp] at h2
      cases h2
theorem Od.same {H H' : Hp} (s : Same H H') : ∀ {n : Nat} {v : V}, Od H n v → Od H' n v
  | 0, _, h => h
  | n + 1, v, h => by
    rcases h with h | ⟨a, xs, h1, h2, h3, h4⟩ | ⟨a, xs, h1, h2, h3, h4⟩ | ⟨a, kvs, h1, h2, h3, h4⟩
    · exact .inl h
    · exact .inr (.inl ⟨a, xs, h1, s _ _ h2, h3, fun x hx => (h4 x hx).same s⟩)
    · exact .inr (.inr (.inl ⟨a, xs, h1, s _ _ h2, h3, fun x hx => (h4 x hx).same s⟩))
    · exact .inr (.inr (.inr ⟨a, kvs, h1, s _ _ h2, h3, h4⟩))
theorem paired_self {α : Type} {R : α → α → Prop} : ∀ {xs : List α}, (∀ x ∈ xs, R x x) → Paired R xs xs
  | [], _ => .nil
  | x :: xs, h => .cons (h x (List.mem_cons_self ..)) (paired_self fun y hy => h y (List.mem_cons_of_mem _ hy))
theorem Od.al {H : Hp} : ∀ {n : Nat} {v : V}, Od H n v → Al H n v v
  | 0, _, h => ⟨rfl, h⟩
  | n + 1, v, h => by
    rcases h with h | ⟨a, xs, h1, h2, h3, h4⟩ | ⟨a, xs, h1, h2, h3, h4⟩ | ⟨a, kvs, h1, h2, h3, h4⟩
    · exact .inl ⟨rfl, h⟩
    · exact .inr (.inl ⟨a, a, xs, xs, h1, h1, h2, h2, by omega, paired_self fun x hx => (h4 x hx).al⟩)
    · exact .inr (.inr (.inl ⟨a, a, xs, xs, h1, h1, h2, h2, by omega, paired_self fun x hx => (h4 x hx).al⟩))
    · refine .inr (.inr (.inr ⟨a, kvs, h1, h1, h2, fun kv hk => ⟨?_, h4 kv hk⟩⟩))
      match kvs, h3, hk with
      | [q], _, hk =>
        obtain rfl : kv = q := by simpa using hk
        simp [valV]
/-- x == y where both are one scalar or one dict -/
def rSelf : R2 := fun x y H Q => x = y ∧ (flatS x = true ∨ ∃ (a : Addr) (kvs : List (Key × V)), x = .ref a ∧ H a = some (.dK kvs) ∧ ∀ kv ∈ kvs, valV kvs kv.1 = some kv.2 ∧ (flatS kv.2 = true ∨ ∃ b, kv.2 = .ref b)) ∧ Q (.bl true) H
theorem op_self {X : Cx} (hu : X.A.units + 64 < cLine) : OpR X (compareOp .Eq) rSelf := by
  intro pins s σ H x y v u Q I rx ry h
  obtain ⟨rfl, h, q⟩ := h
  rcases h with h | ⟨a, kvs, rfl, ha, hk⟩
  · refine op_eq pins s σ H x x v u Q I rx ry ⟨?_, by rw [decide_eq_true rfl]; exact q⟩
    cases x <;> first | rfl | cases h
  · refine op_eqV hu pins s σ H _ _ v u Q I rx ry ⟨1, by decide, .inr ⟨a, a, kvs, kvs, rfl, rfl, ha, ha, rfl, fun p hp => ⟨p.2, (hk p hp).1, ?_⟩⟩, q⟩
    rcases (hk p hp).2 with z | ⟨b, z⟩
    · exact .inl ⟨rfl, flatS_B z⟩
    · exact .inr (.inl ⟨b, z, z⟩)
end L2.Tb
set_option Elab.async false
set_option linter.all false
set_option maxRecDepth 100000
set_option maxHeartbeats 4000000
namespace L2.Tb
open PySem PySem.Spec PyProof.Rows
/-! ### a def's promise at one place of the stack (for what hangs on the stack: repr) -/
section
variable {P : Program} {w : World} {K : PySem.W.Frag} {mg : Str → Option Value} {base : Heap} {f : Addr} {fd : FuncData} {ps : List Str} {sp : Sp} {A : Around}
def RunsAt (P : Program) (w : World) (K : PySem.W.Frag) (mg : Str → Option Value) (base : Heap) (f : Addr) (fd : FuncData) (ps : List Str) (sp : Sp) (A : Around) : Prop :=
  ∀ (outer : List Env) (s : Shared) (H : Hp) (args : Args) (us : List Value) (vs : List V) (Q : VK) (E : XK), Env0 P w K mg base A outer s H → BindsTo s fd args (ps.zip us) → Vals vs us → vs.length = ps.length → sp vs H Q E →
    codeAny (model P w) A (.call (.ref f) args) (CR L2.CX0 outer P w H s Q E) s
/-- how a body's end becomes the call's end -/
theorem end_call {s s' : Shared} {H : Hp} {Q : VK} {E : XK} {fl : Flow} {N : List Str} {x : Str} {sc : Scope} {cdv : Value} {outer : List Env}
    (h : SP (cxOf L2.CX0 P w K mg base N x sc f cdv A outer s H E) [] { nx := fun _ H' => Q .non H', rt := Q } fl s') : CR L2.CX0 outer P w H s Q E (.ok (.ret (match (generalizing := false) fl with | .ret v => v | _ => .none))) s' := by
  match fl, h with
  | .ret u, ⟨v, σ', H', J, rv, q⟩ => exact ⟨v, H', J.os, J.bare, J.base, J.hok, rv, q⟩
  | .next, ⟨σ', H', J, q⟩ => exact ⟨.non, H', J.os, J.bare, J.base, J.hok, rfl, q⟩
  | .brk, ⟨_, _, _, q⟩ => exact q.elim
  | .cont, ⟨_, _, _, q⟩ => exact q.elim
theorem runs_body {x : Str} {st : Stmt} {N : List Str} {k : Nat} (F : FnP K x st f fd) (S : FnScope N ps (defScope st)) (hr : Room (k + 1) A)
    (hbody : ∀ (cdv : Value) (outer : List Env) (s : Shared) (H : Hp) (vs : List V) (Q : VK) (E : XK), Room k (A.deeper (envOfC x (defScope st) s.heap.objs.size f cdv)) → sp vs H Q E →
      ∃ t, PSs (cxOf L2.CX0 P w K mg base N x (defScope st) f cdv A outer s H E) (defBody st) t ∧ t { nx := fun _ H' => Q .non H', rt := Q } (start N vs) H) : RunsAt P w K mg base f fd ps sp A := by
  obtain ⟨oc, od, dV, kV, doc, pm, an, cdv, ct, osl, rfl, lk, hcd, _, _⟩ := F.ex
  intro outer s H args us vs Q E e0 hb r hl hsp
  have here : ∀ {b o}, base.get? b = some o → s.heap.get? b = some o := fun e => (e0.bs _ _ e).1
  have KX : K.In s.heap := e0.mod.kin.keeps fun _ _ e => here e
  obtain ⟨t, ht, hq⟩ := hbody cdv outer s H vs Q E (hr.deeper _) hsp
  refine codeAny_call_function hr.depth (KX _ _ lk) rfl S.co S.gen rfl (PySem.W.codeRec_of KX hcd) (hb _ _ _ _ (wpAny_newFunctionEnv_cells S.kind (fun y hy => ?_) fun env he s1 i => ?_))
  · exact (S.par y.1 (List.of_mem_zip hy).1).imp_right fun q => ⟨q, PySem.W.cellsFrom_some _ _ _ (.inl q)⟩
  · rw [he]
    rw [he] at i
    exact ⟨(e0.mod.nolimit.keeps fun _ _ e => here e).keeps i.toInCall.keep, codeAny_func (wpAny_mono (ht.run [] s1 _ H _ (inv_start S hr.hd e0 hl r i) hq) (fun fl s' h => end_call h) fun _ _ h => h)⟩
end
section
variable {X : Cx} {f : Addr} {fd : FuncData} {ps : List Str} {sp : Sp} {x : Str} {p pos : Pos}
/-- x(), x a def without parameters that runs here -/
theorem pe_at0 (R : RunsAt X.prog X.w X.K X.mg X.base f fd [] sp X.A) (hg : Gl X x) (hm : X.mg x = some (.ref f)) (hk : PySem.W.keepIn X.K (.ref f) = true) (hb : ∀ s : Shared, X.K.In s.heap → BindsTo s fd ⟨[], []⟩ []) (hdb : (x == ("__debug__" : Str)) = false := by decide) :
    PE X (.Call (.Name x p) [] [] pos) (fun _ H Q => sp [] H Q E0) := by
  refine ⟨fun pins s σ H Q I h => wpAny_Call_Name_kw (ld_glob I hg hm (PySem.W.callWith_K0 I.kIn hk (wpAny_call (codeAny_mono (R X.stack s H ⟨[], []⟩ [] [] Q E0 I.env0 (hb s I.kIn) .nil rfl h) fun r s' hq => ?_))) hdb)⟩
  match r, hq with
  | .error e, hq => exact pass0 pins σ H s e s' I hq
  | .ok (.ret u), hq => exact I.after hq
end
section
variable {X : Cx}
def rReprD (K : PySem.W.Frag) : List V → Hp → VK → Prop := fun vs H Q => ∃ (a : Addr) (d : PyData), vs = [.ref a] ∧ Dp K H (.ref a) d ∧ d.showable = true ∧ d.hasDict = false ∧ d.depth ≤ 60 ∧ d.shown.length ≤ sizeLine ∧ Q (.str d.shown) H
theorem call_reprD (hg : X.A.guards = some []) (hu : X.A.units + 64 < cLine) : CallR X (.builtin "repr") (rReprD X.K) := by
  intro pins s σ H vs us Q I r h
  obtain ⟨a, d, rfl, hd, h1, h2, h3, h4, q⟩ := h
  rw [Vals.ref1 r]
  obtain ⟨as, rr⟩ := Dp.reads I d (.ref a) (.ref a) hd rfl
  exact repr_of_reads' rr h1 (fun z => by rw [h2] at z; cases z) hg (by omega) (fun _ _ e => e) (fun h' u tk hk => ⟨.str d.shown, H, I.kept hk, ⟨u, rfl⟩, q⟩) h4
end
/-! ### the end, at the place of the law's call -/
theorem law_at {P : Program} {w : World} {K : PySem.W.Frag} {mg mb : Str → Option Value} {fa a : Addr} {fd : FuncData} {x : Str} {sp : Sp} {s1 : Shared} {vs : List Value} {ns : List Int} (KX : K.In s1.heap) (hns : s1.heap.Ns mainGlobals mg) (hb : s1.heap.Ns builtinsNs mb)
    (hbb : ∀ x : Str, x ≠ "__name__" → mb x = bootBuiltins x) (hlim : s1.heap.NoLimit) (hg : s1.gens = #[]) (ha : s1.heap.get? a = some { cls := .type "list", data := .seq vs.toArray }) (hi : IntsAre vs ns) (hl : ns.length ≤ sizeLine)
    (R : ∀ base : Heap, K.In base → base.Ns mainGlobals mg → RunsAt P w K mg base fa fd [x] sp callerA) (hbind : ∀ (s : Shared) (u : Value), BindsTo s fd ⟨[u], []⟩ [(x, u)])
    (hsp : ∀ H : Hp, SqL K H a (ns.map V.int) → (∀ b o, H b = some o → ∃ u xs, o = .frz u (.lst xs)) → sp [.ref a] H (fun v _ => v = .bl true) fun _ _ _ => False) :
    codeAny (model P w) callerA (.call (.ref fa) ⟨[.ref a], []⟩) (fun r s' => r = .ok (.ret (.bool true)) ∧ OldK s1.heap s'.heap ∧ s'.os = s1.os ∧ AllBare s'.gens) s1 := by
  let ob : Obj := { cls := .type "list", data := .seq vs.toArray }
  let H : Hp := fun b => if b = a ∧ K.lookup a = none then some (.frz ob (.lst (ns.map V.int))) else none
  have hH : ∀ b o, H b = some o → b = a ∧ K.lookup a = none ∧ o = .frz ob (.lst (ns.map V.int)) := fun b o e => by
    by_cases c : b = a ∧ K.lookup a = none
    · have e' := (if_pos c).symm.trans e
      cases e'
      exact ⟨c.1, c.2, rfl⟩
    · have e' := (if_neg c).symm.trans e
      cases e'
  have free : ∀ b o, s1.heap.get? b = some o → (b = a → (K.lookup a).isSome = true ∨ ∃ es ep, o.data = .dict es ep) → H b = none := fun b o e c => by
    cases q : H b with
    | none => rfl
    | some u =>
      obtain ⟨rfl, hk, _⟩ := hH b u q
      rcases c rfl with z | ⟨es, ep, z⟩
      · rw [hk] at z
        cases z
      · rw [ha] at e
        cases e
        cases z
  have ns1 : ∀ {b : Addr} {m : Str → Option Value}, s1.heap.Ns b m → (hidT s1.heap H).Ns b m := fun {b m} ⟨o, es, ep, e, d, r⟩ => ⟨o, es, ep, hidT_get e (free b o e fun _ => .inr ⟨es, ep, d⟩), d, r⟩
  have kin : K.In (hidT s1.heap H) := fun b o e => hidT_get (KX b o e) (free b o (KX b o e) fun z => .inl (by rw [← z, e]; rfl))
  have rv := vals_ints hi
  have sq : SqL K H a (ns.map V.int) := by
    cases hk : K.lookup a with
    | none => exact .inl (.inr ⟨ob, if_pos ⟨rfl, hk⟩⟩)
    | some o =>
      have e := KX a o hk
      rw [ha] at e
      cases e
      exact .inr ⟨_, vs.toArray, _, hk, rfl, rfl, rfl, by rw [List.size_toArray, hi.length]; exact hl, by simpa using rv⟩
  have hok : HOk P w H s1.heap := fun b u z => by
    obtain ⟨rfl, _, rfl⟩ := hH b u z
    exact ⟨ha, by rw [List.length_map]; exact hl, vs, _, rv, ha⟩
  obtain ⟨mc, l1, l2⟩ := hlim
  have e0 : Env0 P w K mg (hidT s1.heap H) callerA [] s1 H := ⟨rfl, ⟨kin, ns1 hns, ⟨mb, ns1 hb, hbb⟩, ⟨mc, ns1 l1, l2⟩⟩, fun _ _ e => of_hidT e, Nat.le_of_eq (hidT_size _ _), trivial, fun b hb => (nomatch hb), hok, .of_eq hg⟩
  refine codeAny_mono (R _ kin (ns1 hns) [] s1 H _ [.ref a] [.ref a] (fun v _ => v = .bl true) (fun _ _ _ => False) e0 (hbind s1 (.ref a)) (.cons rfl .nil) rfl (hsp H sq fun b o e => ⟨_, _, (hH b o e).2.2⟩)) fun r s' h => ?_
  match r, h with
  | .error e, h => exact h.elim
  | .ok (.ret u), ⟨v, H', os, bare, un, hok', r', q⟩ =>
    subst q
    obtain rfl : u = Value.bool true := r'
    refine ⟨rfl, OldK.of_keep fun b o e => ?_, os, bare⟩
    cases z : H b with
    | none => exact un.keep b o e z (fun z => nomatch z) (fun z => nomatch z)
    | some o2 =>
      obtain ⟨rfl, _, rfl⟩ := hH b o2 z
      rw [ha] at e
      cases e
      exact (hok' b _ (un.frzs b ob _ z)).1
theorem walk_at {l : PySem.W.OpenLaw} {n : Nat} {q : Program} {loose : List Str} {XP : (Str → Option Value) → Heap → Prop} {YP : World → Heap → Prop} {d : DefRec} {x : Str} (hn : l.most = some n) (hn2 : n ≤ sizeLine) (hdf : d.params.defaults = [])
    (F : ∀ (w : World) (mg : Str → Option Value) (fa : Addr) (h : Heap), YP w h → h.Ns mainGlobals mg → mg d.name = some (.ref fa) → ∃ (K : PySem.W.Frag) (fd : FuncData) (sp : Sp), K.In h ∧ (∀ (s : Shared) (u : Value), BindsTo s fd ⟨[u], []⟩ [(x, u)]) ∧
      (∀ (H : Hp) (a : Addr) (ns : List Int), ns.length ≤ n → (∀ z ∈ ns, Builtin.Int.intBits z ≤ 1048576) → SqL K H a (ns.map V.int) → sp [.ref a] H (fun v _ => v = .bl true) fun _ _ _ => False) ∧
      ∀ base : Heap, K.In base → base.Ns mainGlobals mg → RunsAt l.prog w K mg base fa fd [x] sp callerA) :
    PySem.W.WalkO q loose XP YP l.row.toRowW d [] (fun f vs => PySem.call f vs) := by
  refine Att.attach_callB hn hdf fun w s0 s1 mg mb fa o pm cd doc a vs ns G Y ho hd hcd hmg hobj hints hlen hbits hg => ?_
  obtain ⟨K, fd, sp, KX, hb, hsp, R⟩ := F w mg fa _ Y G.T.g hmg
  exact law_at KX G.T.g G.T.b G.T.builtins G.T.nolimit hg hobj hints (Nat.le_trans hlen hn2) R hb fun H sq _ => hsp H a ns hlen hbits sq
end L2.Tb
set_option Elab.async false
set_option linter.all false
set_option maxRecDepth 100000
set_option maxHeartbeats 4000000
namespace L2.Tb
open PySem PySem.Spec PyProof.Rows
/-! ### an error class with one attribute, as the law meets it -/
def spInit (K : PySem.W.Frag) (f : Str) : Sp := fun vs H Q _ => ∃ (a C : Addr) (b : Bs) (v : V), vs = [.ref a, v] ∧ EC K b C ∧ PySem.W.findIn K (.ref C) f = some none ∧ H a = some (exo a C none) ∧
  ∀ dx, H dx = none → dx ≠ a → Q .non (upd (upd H dx (exd dx [(f, v)])) a (exo a C (some dx)))
/-- at a: an error of the class at C whose attribute f is v -/
def ErAt (H : Hp) (a C : Addr) (f : Str) (v : V) : Prop := ∃ dx, H a = some (exo a C (some dx)) ∧ H dx = some (exd dx [(f, v)])
theorem ErAt.same {H H' : Hp} {a C : Addr} {f : Str} {v : V} (h : ErAt H a C f v) (s : Same H H') : ErAt H' a C f v := by
  obtain ⟨dx, h1, h2⟩ := h
  exact ⟨dx, s _ _ h1, s _ _ h2⟩
structure ErC (P : Program) (w : World) (K : PySem.W.Frag) (mg : Str → Option Value) (base : Heap) (x f : Str) (b : Bs) (C : Addr) : Prop where
  mgC : mg x = some (.ref C)
  ec : EC K b C
  no : PySem.W.findIn K (.ref C) f = some none
  init : ∃ (fI : Addr) (fd : FuncData), PySem.W.findIn K (.ref C) "__init__" = some (some (.ref fI)) ∧ PySem.W.typeIn K (.ref fI) = some (.type "function") ∧ FnOk P w K mg base L2.CX0 1 fI fd ["self", f] (spInit K f) ∧ Binds K fd ["self", f] [] ∧
    ∀ (sh : Shared) (a : Addr) (zs : List Value), zs.length = [f].length → BindsTo sh fd ⟨[Value.ref a], [f].zip zs⟩ (("self" :: [f] : List Str).zip (Value.ref a :: zs))
section
variable {P : Program} {w : World} {K : PySem.W.Frag} {mg : Str → Option Value} {base : Heap} {f : Str} {fI : Addr} {fd : FuncData} {qual : Str} {params : Arguments} {scope : Scope} {p1 p2 p3 p4 : Pos}
theorem init_ok (F : FunD K "__init__" qual params [.Assign [.Attribute (.Name "self" p1) f p2] (.Name f p3) p4] scope [] [] fI fd) (S : FnScope ["self", f] ["self", f] scope)
    (h0 : scope.names.lookup ("self" : Str) = some .local) (h1 : scope.names.lookup f = some .local) (hd : (f == ("__debug__" : Str)) = false) (hcd : (f == ("__classdict__" : Str)) = false) : FnOk P w K mg base L2.CX0 1 fI fd ["self", f] (spInit K f) := by
  refine F.ok S (fun vs H Q E h => ?_) (fun cdv A outer s H vs Q E hr h => ?_)
  · obtain ⟨a, C, b, v, rfl, _⟩ := h
    rfl
  · obtain ⟨a, C, b, v, rfl, T, hno, ha, k⟩ := h
    refine ⟨_, pss_one (ps_osv (pe_var (i := 0) rfl (.inl h0)) (pe_var (i := 1) rfl (.inl h1) hd hcd)), ?_⟩
    exact ⟨_, rfl, _, rfl, a, C, b, rfl, T, hno, ha, fun dx n ne => k dx n ne⟩
end
/-- a reading, weakened behind -/
def tUp (te : TE) : TE := fun σ H Q => ∃ Q' : VK, te σ H Q' ∧ ∀ v H1, Q' v H1 → Q v H1
theorem pe_up {X : Cx} {e : Expr} {te : TE} (he : PE X e te) : PE X e (tUp te) :=
  ⟨fun pins s σ H Q I h => let ⟨Q', h1, h2⟩ := h; thn (he.run pins s σ H Q' I h1) fun u s1 ⟨v, H1, I1, r, q⟩ => ⟨v, H1, I1, r, h2 v H1 q⟩⟩
/-- the reading of an error made by place or by name -/
def tEr (C : Addr) (f : Str) (te : TE) : TE := fun σ H Q => te σ H fun v H1 => ∀ a H2, Same H1 H2 → H1 a = none → ErAt H2 a C f v → Q (.ref a) H2
section
variable {X : Cx} {x f : Str} {b : Bs} {C : Addr} {p pos : Pos} {e : Expr} {te : TE}
theorem er_run {v : V} {H1 : Hp} {Q : VK} (T : EC X.K b C) (hno : PySem.W.findIn X.K (.ref C) f = some none) (q : ∀ a H2, Same H1 H2 → H1 a = none → ErAt H2 a C f v → Q (.ref a) H2) (a : Addr) (n : H1 a = none) :
    spInit X.K f [.ref a, v] (upd H1 a (exo a C none)) (fun u H2 => u = .non ∧ Q (.ref a) H2) E0 := by
  refine ⟨a, C, b, v, rfl, T, hno, upd_same, fun dx nd ne => ⟨rfl, q a _ (fun c o h => ?_) n ⟨dx, upd_same, by rw [upd_ne ne, upd_same]⟩⟩⟩
  have hca : c ≠ a := ne_of_none h n
  have hcd : c ≠ dx := fun z => by
    rw [z] at h
    rw [upd_ne ne] at nd
    rw [nd] at h
    cases h
  rw [upd_ne hca, upd_ne hcd, upd_ne hca]
  exact h
theorem pe_er (E : ErC X.prog X.w X.K X.mg X.base x f b C) {j : Nat} (hr : Room j X.A) (hj : 2 ≤ j) (hg : Gl X x) (he : PE X e te) (hdb : (x == ("__debug__" : Str)) = false := by decide) (hs : starEach [e] X.env = (false, eval e X.env) :: starEach [] X.env := by rfl) :
    PE X (.Call (.Name x p) [e] [] pos) (tEr C f te) := by
  obtain ⟨fI, fd, h1, h2, h3, h4, _⟩ := E.init
  exact ⟨fun pins s σ H Q I h => (pe_mkV E.ec h1 h2 h3 (hr.mono hj) h4 pass0 hg E.mgC (pa_cons (pe_up he) pa_nil hs) hdb hs (by rfl)).run pins s σ H Q I ⟨_, h, fun v H1 q => ⟨Nat.le_of_ble_eq_true rfl, fun a n => er_run E.ec E.no q a n⟩⟩⟩
theorem pe_erK (E : ErC X.prog X.w X.K X.mg X.base x f b C) {j : Nat} {kpos : Pos} (hr : Room j X.A) (hj : 2 ≤ j) (hg : Gl X x) (he : PE X e te) (hdb : (x == ("__debug__" : Str)) = false := by decide)
    (hall : (backToKw pos (keywordEach [⟨some f, e, kpos⟩] X.env)).all (·.1.isSome) = true := by rfl) (hks : (backToKw pos (keywordEach [⟨some f, e, kpos⟩] X.env)).filterMap (·.1) = [f] := by rfl)
    (hpl : ((backTo pos (starEach [] X.env)).any (·.1) || (backToKw pos (keywordEach [⟨some f, e, kpos⟩] X.env)).any (·.1.isNone)) = false := by rfl) :
    PE X (.Call (.Name x p) [] [⟨some f, e, kpos⟩] pos) (tEr C f te) := by
  obtain ⟨fI, fd, h1, h2, h3, h4, h5⟩ := E.init
  exact ⟨fun pins s σ H Q I h => (pe_mkVK (ks := [f]) E.ec h1 h2 h3 (hr.mono hj) h5 pass0 hg E.mgC (pk_cons (pe_up he) pk_nil) rfl hall hks hdb hpl).run pins s σ H Q I ⟨_, h, fun v H1 q => ⟨Nat.le_of_ble_eq_true rfl, fun a n => er_run E.ec E.no q a n⟩⟩⟩
end
end L2.Tb
set_option Elab.async false
set_option linter.all false
set_option maxRecDepth 100000
set_option maxHeartbeats 4000000
namespace L2.Tb
open PySem PySem.Spec PyProof.Rows
section
variable {X : Cx} {x f : Str} {b : Bs} {C : Addr} {p pos : Pos} {e : Expr} {te : TE}
/-- the reading of an error that is made to be raised -/
def tErR (C : Addr) (f : Str) (te : TE) : St → Hp → XK → Prop := fun σ H Q => te σ H fun v H1 => ∀ d H', Same H1 H' → H1 d = none → H' d = some (.xd [(f, v)]) → Q (.ref C) (some d) H'
theorem pmk_er (E : ErC X.prog X.w X.K X.mg X.base x f b C) (ty : PySem.W.typeIn X.K (.ref C) = some (.type "type")) {j : Nat} (hr : Room j X.A) (hj : 2 ≤ j) (hg : Gl X x) (he : PE X e te) (hdb : (x == ("__debug__" : Str)) = false := by decide)
    (hs : starEach [e] X.env = (false, eval e X.env) :: starEach [] X.env := by rfl) (hpl : (backTo pos (starEach [] X.env)).any (·.1) = false := by rfl) : PMk X (.Call (.Name x p) [e] [] pos) (tErR C f te) := by
  intro pins s σ H Q I h
  obtain ⟨fI, fd, h1, h2, F1, hb, _⟩ := E.init
  have ha : PA X [e] (tCons (tUp te) tNil) := pa_cons (pe_up he) pa_nil hs
  refine wpAny_Call_Name_kw (ld_glob I hg E.mgC ?_ hdb)
  refine PySem.W.callWith_K (h₀ := X.base) I.ok.mod.kin E.ec.kC (thn (ha.run pos pins s σ H (fun vs H1 => ∃ v, vs = [v] ∧ ∀ d H', Same H1 H' → H1 d = none → H' d = some (.xd [(f, v)]) → Q (.ref C) (some d) H') I ⟨_, h, fun v H1 q => ⟨v, rfl, q⟩⟩) fun us s1 hh => ?_) hs hpl
  obtain ⟨vs, H1, I1, r1, v, rfl, q1⟩ := hh
  refine ⟨I1.kIn, ?_⟩
  show wpAny _ _ (call (.ref C) us) _ _ _
  obtain ⟨nm, N, qn, bs, bm, hdct, sn, sub, ab, col, dd, k0, k1, k2, k3, k5, hC, hT⟩ := PySem.W.excInit_of I1.kIn E.ec.own
  obtain ⟨hp, g, dr, tk, os⟩ := s1
  have hn : H1 (hp.objs.size + 1) = none := I1.hok.fresh (Nat.le_succ _)
  have keep : ∀ c o, hp.get? c = some o → (laidH hp C us).get? c = some o := fun c o q => Heap.get?_push_of_some _ (Heap.get?_push_of_some _ q)
  have hus : us.length ≤ sizeLine := by
    rw [← Paired.length r1]
    exact Nat.le_of_ble_eq_true rfl
  have hl : (Value.ref (hp.objs.size + 1) :: us).length = (["self", f] : List Str).length := by
    rw [List.length_cons, ← Paired.length r1]
    rfl
  have I2 := made_inv (C := C) us I1
  have bind : BindsTo ⟨(hp.push (PySem.W.kdv_tup us)).push (PySem.HandSPX.excO C hp.objs.size), g, dr, tk, os⟩ fd ⟨Value.ref (hp.objs.size + 1) :: us, []⟩ ((["self", f] : List Str).zip (Value.ref (hp.objs.size + 1) :: us)) := by
    have z := hb _ (Value.ref (hp.objs.size + 1) :: us) I2.kIn (by rw [List.append_nil]; exact hl)
    rw [List.append_nil] at z
    exact z
  refine wpAny_call (own_call ⟨nm, qn, N, bs, hdct, sn, sub, ab, col, dd, k0, k1, k2, k3, k5, hC⟩ E.ec.ok hT (PySem.W.looks_findIn I1.kIn h1) (fun self => PySem.W.bind_fn I1.kIn self h2) hus
    (codeAny_mono (F1.run _ X.stack _ _ ⟨Value.ref (hp.objs.size + 1) :: us, []⟩ (Value.ref (hp.objs.size + 1) :: us) [V.ref (hp.objs.size + 1), v]
      (fun u H2 => u = .non ∧ ∃ d, H2 (hp.objs.size + 1) = some (exo (hp.objs.size + 1) C (some d)) ∧ H2 d = some (exd d [(f, v)]) ∧ H1 d = none ∧ Q (.ref C) (some d) (upd (del H2 (hp.objs.size + 1)) d (.xd [(f, v)]))) E0 ((hr.mono hj).make C us []) (I2.env0.make C us []) bind (.cons rfl r1) ?_) fun r s' hq => ?_))
  · refine ⟨_, C, b, v, rfl, E.ec, E.no, upd_same, fun dx nd ne => ⟨rfl, dx, upd_same, by rw [upd_ne ne, upd_same], ?_, q1 dx _ (fun c o q => ?_) ?_ upd_same⟩⟩
    · rw [upd_ne ne] at nd
      exact nd
    · have hca : c ≠ hp.objs.size + 1 := ne_of_none q hn
      have hcd : c ≠ dx := fun z => by
        rw [z] at q
        rw [upd_ne ne] at nd
        rw [nd] at q
        cases q
      rw [upd_ne hcd, del_ne hca, upd_ne hca, upd_ne hcd, upd_ne hca]
      exact q
    · rw [upd_ne ne] at nd
      exact nd
  · match r, hq with
    | .error er, hq => exact hq.elim
    | .ok (.ret u), ⟨w, H2, os2, bare2, un2, hok2, rv, ev, d, ea, ed, hd1, q2⟩ =>
      subst ev
      obtain ⟨h2, g2, d2, t2, os'⟩ := s'
      exact ⟨rv, mk_end (raises_own E.ec.ex.hs ty) I1 (Nat.le_succ _) keep un2 hok2 os2 bare2 ea ed hd1 q2⟩
end
end L2.Tb
set_option Elab.async false
set_option linter.all false
set_option maxRecDepth 100000
set_option maxHeartbeats 4000000
/-! an object of an own class: str(x) by its __str__, x == y by its __eq__ (any outcome) -/
namespace L2.Tb
open PySem PySem.Spec PyProof.Rows
section
variable {X : Cx} {C f : Addr} {fd : FuncData} {ps : List Str} {sp : Sp} {k : Nat}
theorem relV_str {z : Str} {u : Value} (r : RelV (.str z) u) : ∃ t, u = .str z t := r
def rStrOwn (C : Addr) (sp : Sp) : List V → Hp → VK → Prop := fun xs H Q => ∃ (a dx : Addr) (fs : List (Str × V)), xs = [.ref a] ∧ H a = some (.ins C dx fs) ∧ sp [.ref a] H (fun v H' => ∃ z, v = .str z ∧ Q (.str z) H') E0
theorem call_strOwn (F : FnOk X.prog X.w X.K X.mg X.base L2.CX0 k f fd ps sp) (hr : Room (k + 2) X.A) (hs : PySem.W.findIn X.K (.ref C) "__str__" = some (some (.ref f))) (hf : PySem.W.isFn X.K (.ref f) = true) (hb : Binds X.K fd ps []) : CallR X (.type "str") (rStrOwn C sp) := by
  intro pins s σ H xs us Q I r h
  obtain ⟨a, dx, fs, rfl, ea, h⟩ := h
  rw [Vals.ref1 r]
  obtain ⟨mA, O, _⟩ := ins_get I.hok ea
  obtain ⟨od, J, _⟩ := O.look
  have r2 : Room k X.A.in1.in1 := hr.in1.in1
  have hl := F.len _ _ _ _ h
  refine PySem.W.kso_call (hr.in1.in1.units0) I.kIn J hs hf (wpAny_call (codeAny_mono (F.run X.A.in1.in1 X.stack s H ⟨[.ref a], []⟩ [.ref a] [.ref a] _ E0 r2 I.env0.in1.in1 (by
    have z := hb s [.ref a] I.kIn (by simpa using hl)
    simpa using z) (.cons rfl .nil) h) fun r s' hq => ?_))
  match r, hq with
  | .error e, hq => exact hq.elim
  | .ok (.ret u), hq =>
    obtain ⟨v, H', I', rv, z, ev, q⟩ := I.after hq
    rw [ev] at rv
    obtain ⟨t, rfl⟩ := relV_str rv
    exact ⟨.str z, H', I', ⟨t, rfl⟩, q⟩
def rOwnEq (K : PySem.W.Frag) (C : Addr) (sp : Sp) : R2 := fun x y H Q => ∃ (a dx : Addr) (fs : List (Str × V)) (t : Value), x = .ref a ∧ H a = some (.ins C dx fs) ∧ TyX K H y t ∧ PySem.W.notFirst K C t = true ∧ sp [.ref a, y] H Q E0
theorem cmp_back {Q : Value → Shared → Prop} {u : Value} {s' : Shared} {v : V} (r : RelV v u) (q : Q u s') : PySem.W.CmpBack Q u s' := by
  cases u <;> first | exact q | (cases v <;> first | (obtain ⟨t, e⟩ := r; cases e; done) | (cases r; done))
theorem op_ownEq (F : FnOk X.prog X.w X.K X.mg X.base L2.CX0 k f fd ps sp) (hr : Room k X.A) (hs : PySem.W.findIn X.K (.ref C) "__eq__" = some (some (.ref f))) (hf : PySem.W.isFn X.K (.ref f) = true) (hb : Binds X.K fd ps []) : OpR X (compareOp .Eq) (rOwnEq X.K C sp) := by
  intro pins s σ H x y v u Q I rx ry h
  obtain ⟨a, dx, fs, t, rfl, ea, ty, nf, h⟩ := h
  obtain rfl : v = Value.ref a := rx
  obtain ⟨mA, O, _⟩ := ins_get I.hok ea
  obtain ⟨od, J, _⟩ := O.look
  obtain ⟨m, hF⟩ := I.fr
  obtain ⟨Pt, kt, pt, _⟩ := kit_of I ry ty
  have hl := F.len _ _ _ _ h
  refine PySem.W.cmp_K (op := .Eq) (tb := t) hr.units0 hF I.ok.mod.kin J (kt.ty _ _ I.kIn pt) nf hs hf (wpAny_call (codeAny_mono (F.run X.A X.stack s H ⟨[.ref a, u], []⟩ [.ref a, u] [.ref a, y] _ E0 hr I.env0 (by
    have z := hb s [.ref a, u] I.kIn (by simpa using hl)
    simpa using z) (.cons rfl (.cons ry .nil)) h) fun r s' hq => ?_))
  match r, hq with
  | .error e, hq => exact hq.elim
  | .ok (.ret u2), hq =>
    obtain ⟨v2, H', I', rv, q⟩ := I.after hq
    exact cmp_back rv ⟨v2, H', I', rv, q⟩
end
end L2.Tb
set_option Elab.async false
set_option linter.all false
set_option maxRecDepth 100000
set_option maxHeartbeats 4000000
/-! C(e, .., k = v) where C stands in a local variable -/
namespace L2.Tb
open PySem PySem.Spec PyProof.Rows
theorem pass_none {X : Cx} : Passes (L2.CX X.prog X.w) X (fun _ _ _ => False) := fun _ _ _ _ _ _ _ h => by
  obtain ⟨_, _, _, _, _, _, _, _, _, _, _, _, z⟩ := h
  exact z.elim
section
variable {X : Cx} {CX : CXT} {k n i : Nat} {f C : Addr} {fd : FuncData} {ps ks : List Str} {sp : Sp} {E : XK} {x : Str} {p pos : Pos} {e : Expr} {es : List Expr} {kws : List Keyword} {t tk : TA} {g : List Value → List Value → List Value} {gV : List V → List V → List V}
def tMakeVK (i : Nat) (C : Addr) (n m : Nat) (sp : Sp) (gV : List V → List V → List V) (E : XK) (t tk : TA) : TE := fun σ H Q => σ[i]? = some (some (.ref C)) ∧ tMakeK C n m sp gV E t tk σ H Q
theorem pe_makeVK (M : Mk X.K C f) (F : FnOk X.prog X.w X.K X.mg X.base CX k f fd ps sp) {j : Nat} (hr : Room j X.A) (hj : k + 1 ≤ j) (hN : X.N[i]? = some x) (hv : Vis X.env.scope x) (hb : KBn X.K fd ps (n + 1) ks g gV) (hx : Passes CX X E) (ha : PA X (e :: es) t) (hkw : PK X kws tk)
    (hall : (backToKw pos (keywordEach kws X.env)).all (·.1.isSome) = true := by rfl) (hks : (backToKw pos (keywordEach kws X.env)).filterMap (·.1) = ks := by rfl) (hd : (x == ("__debug__" : Str)) = false := by decide) (hcd : (x == ("__classdict__" : Str)) = false := by decide)
    (he : starEach (e :: es) X.env = (false, eval e X.env) :: starEach es X.env := by rfl) (hpl : ((backTo pos (starEach (e :: es) X.env)).any (·.1) || (backToKw pos (keywordEach kws X.env)).any (·.1.isNone)) = false := by rfl) :
    PE X (.Call (.Name x p) (e :: es) kws pos) (tMakeVK i C n ks.length sp gV E t tk) := by
  refine ⟨fun pins s σ H Q I ⟨hs, h⟩ => wpAny_Call_Name_kw (thn ((pe_var (pos := p) (i := i) hN hv hd hcd).run pins s σ H (fun v H1 => v = .ref C ∧ H1 = H) I ⟨.ref C, hs, rfl, rfl⟩) fun u s1 hh => ?_)⟩
  obtain ⟨v, H1, I1, r1, ev, eH⟩ := hh
  subst ev eH
  cases r1
  refine PySem.W.callWith_KW (h₀ := X.base) I1.ok.mod.kin M.kp hall (thn (ha.run pos pins s1 σ H1 _ I1 h) fun us s2 ⟨vs, H2, I2, r, q⟩ => thn (hkw.run pos pins s2 σ H2 _ I2 q) fun ws s3 ⟨zs, H3, I3, rz, l1, l2, q2⟩ => ⟨I3.kIn, ?_⟩) hpl he
  rw [hks]
  exact run_makeK M F (hr.mono hj) hb hx I3 r rz l1 l2 q2
end
end L2.Tb
set_option Elab.async false
set_option linter.all false
set_option maxRecDepth 100000
set_option maxHeartbeats 4000000
/-! try: .. / except X as e: .. / except Y as e: .. / whatever clause behind, which is never reached -/
namespace L2.Tb
open PySem PySem.Spec PyProof.Rows
abbrev Suite : Type := Addr → Value → Option Addr → TS
/-- the ends of a suite whose name stands in slot i: the name goes -/
def offName (i : Nat) (D : Ends) : Ends := { nx := fun σ H => D.nx (σ.set i none) H, rt := D.rt, bk := fun σ H => D.bk (σ.set i none) H, ct := fun σ H => D.ct (σ.set i none) H }
def wAsMany (K : PySem.W.Frag) (D : Ends) : List (Value × Nat × Suite) → WX
  | [] => fun _ _ _ _ => False
  | (c, i, ts) :: r => fun cls d σ H => ∃ b, PySem.W.exmOne K cls c = some b ∧ (b = true → ∀ a, H a = none → ts a cls d (offName i D) (σ.set i (some (.ref a))) H) ∧ (b = false → wAsMany K D r cls d σ H)
/-- only for slots of the right number -/
def wLen (N : List Str) (W : WX) : WX := fun cls d σ H => σ.length = N.length → W cls d σ H
inductive HdsAs (X : Cx) : List ExceptHandler → List (Value × Nat × Suite) → Prop
  | stop (rest : List ExceptHandler) : HdsAs X rest []
  | cons {x n : Str} {c : Value} {i : Nat} {ts : Suite} {b0 : Stmt} {suite : List Stmt} {np p : Pos} {hds : List ExceptHandler} {l : List (Value × Nat × Suite)} (hi : X.N[i]? = some n) (hln : X.env.kindOf n = some .local) (hc : Names X x c)
      (hsu : ∀ (a : Addr) (oe : Obj) (cls : Value) (d : Option Addr) (pn : List (Addr × Obj)), Zc cls d oe → (∃ vs, oe.data = .fields vs) → PSs (X.suite a ((a, oe) :: pn)) (b0 :: suite) (ts a cls d)) (r : HdsAs X hds l) :
      HdsAs X (.ExceptHandler (some (.Name x np)) (some n) (b0 :: suite) p :: hds) ((c, i, ts) :: l)
section
variable {X : Cx} {body : List Stmt} {h0 : ExceptHandler} {hds : List ExceptHandler} {l : List (Value × Nat × Suite)} {pos : Pos} {tb : WX → TS}
theorem ps_try_asMany (hs : X.stack = X.env :: X.outer) (hf : X.env.frame = some X.env.locals) (hN : X.N.Nodup)
    (hb : ∀ (W : WX) (pn : List (Addr × Obj)) (xe : Value → Shared → Prop), Takes (X.tr pn xe) W → PassesOwn (model X.prog X.w) X.A X.env xe → PSs (X.tr pn xe) body (tb W)) (hh : HdsAs X (h0 :: hds) l) :
    PS X (.Try body (h0 :: hds) [] [] pos) (fun D σ H => tb (wLen X.N (wAsMany X.K D l)) D σ H) := by
  refine ⟨fun pins s σ H D I h => ?_⟩
  have ok := I.ok
  refine wpAny_Try_except (wpAny_mono ((hb (wLen X.N (wAsMany X.K D l)) (X.pn ++ pins) (fun e s1 => wpAny (model X.prog X.w) X.A (noteFrame e X.env) (fun _ s2 => wpAny (model X.prog X.w) X.A (setFlight e none) (fun _ s3 =>
    wpAny (model X.prog X.w) X.A (handleBy e X.env (h0 :: hds)) (SP X pins D) X.xe s3) X.xe s2) X.xe s1) (fun u s' caught => ?_) PassesOwn.looking).run [] s σ H D (I.toTry _) h) (fun f s1 hsp => ?_) fun _ _ he => he)
  · obtain ⟨a, B, sI, pins', σ', H', cls, d, rfl, J', nb, up, sky, na, os, ag, w⟩ := caught
    have J : Inv X pins σ' H' sI := J'.ofTry ok
    replace w := w J.len
    rw [hs] at sky
    show wpAny (model X.prog X.w) X.A (noteFrame (.ref a) X.env) _ _ _
    refine Sky.land Zc.steady (by rw [ok.frames, hs]) hf sky fun h3 fl3 up3 => ?_
    have J3 : Inv X pins σ' H' { s' with heap := h3 } := J.landed nb fl3.1 (up.trans up3) os ag
    obtain ⟨oe3, vs3, he3, hz3, hd3⟩ := fl3.there
    have nfr : a ∉ frs (X.env :: X.outer) := fun hm => by
      obtain ⟨_, o', e', no⟩ := fl3.2.2.1.mem hm
      rw [he3] at e'
      cases e'
      exact no _ hd3
    have nL : a ≠ X.env.locals := fun z => nfr (List.mem_filterMap.mpr ⟨X.env, List.mem_cons_self, by rw [hf, z]⟩)
    have nF : a ∉ X.fs := fun hm => let ⟨e, he, q⟩ := List.mem_filterMap.mp hm; nfr (List.mem_filterMap.mpr ⟨e, List.mem_cons_of_mem _ he, q⟩)
    have S3 := J3.suite he3 hd3 na nL nF
    clear hb h
    generalize h0 :: hds = all at hh ⊢
    induction hh with
    | stop rest => exact w.elim
    | @cons x n c i ts b0 suite np p hds2 l2 hi hln hc hsu r ih =>
      obtain ⟨b, hb1, hyes, hno⟩ := w
      have LT : PySem.W.Looks (model X.prog X.w) h3 (typeOf (.ref a)) cls := fun A Q E s k q => wpAny_typeOf_ref (k _ _ he3) (by rw [hz3.1]; exact q)
      have LM := PySem.W.exm_one (M := model X.prog X.w) J3.kIn LT hb1
      have test : ∀ {Q : Value → Shared → Prop} {E : Value → Shared → Prop}, Q c { s' with heap := h3 } → wpAny (model X.prog X.w) (X.A.mark (some (.ref a))) (eval (.Name x np) X.env) Q E { s' with heap := h3 } := fun q => by
        rcases hc with ⟨hg, hdbg, hm | ⟨hm, hv, hnn⟩⟩
        · exact ld_glob (X := X.suite a ((a, oe3) :: (X.pn ++ pins))) S3 hg hm q hdbg
        · exact ld_blt (X := X.suite a ((a, oe3) :: (X.pn ++ pins))) S3 hg hm hv q hnn hdbg
      refine wpAny_handleBy_cons (codeAny_handlers_test (test (LM.here ?_))) (by intro q; cases q)
      cases b with
      | false => exact ih (hno rfl)
      | true =>
        refine codeAny_handlers_suite_as (HandSPX.lands_againZ fl3 fun h4 fl4 up4 => ?_)
        have J4 : Inv X pins σ' H' { s' with heap := h4 } := J.landed nb fl4.1 ((up.trans up3).trans up4) os ag
        obtain ⟨oe4, vs4, he4, hz4, hd4⟩ := fl4.there
        refine store_ok (X := X.suite a ((a, oe4) :: (X.pn ++ pins))) (v := .ref a) (J4.suite he4 hd4 na nL nF) hN hi (.inl hln) rfl (fun s5 S5 => ?_) (.inr hln)
        refine wpAny_mono ((hsu a oe4 cls d (X.pn ++ pins) hz4 ⟨_, hd4⟩).run [] s5 _ H' _ S5 (hyes rfl a na)) (fun f s6 hsp => ?_) fun _ _ z => z.elim
        have gone : ∀ {σ6 : St} {H6 : Hp} {Q : Shared → Prop}, Inv (X.suite a ((a, oe4) :: (X.pn ++ pins))) [] σ6 H6 s6 → (∀ s7, Inv X pins (σ6.set i none) H6 s7 → Q s7) → wpAny (model X.prog X.w) X.A (do bindName X.env n .none; unbindBehindTheSuite X.env n p) (fun _ s7 => Q s7) X.xe s6 :=
          fun S6 hq => gone_ok (S6.unsuite ok) hN hi hln hq
        match f, hsp with
        | .next, ⟨σ6, H6, S6, q6⟩ => exact gone S6 fun s7 J7 => ⟨_, _, J7, q6⟩
        | .brk, ⟨σ6, H6, S6, q6⟩ => exact gone S6 fun s7 J7 => ⟨_, _, J7, q6⟩
        | .cont, ⟨σ6, H6, S6, q6⟩ => exact gone S6 fun s7 J7 => ⟨_, _, J7, q6⟩
        | .ret u, ⟨v6, σ6, H6, S6, r6, q6⟩ => exact gone S6 fun s7 J7 => ⟨_, _, _, J7, r6, q6⟩
  · match f, hsp with
    | .next, ⟨σ1, H1, J1, q⟩ => exact wpAny_execs_nil ⟨σ1, H1, J1.ofTry ok, q⟩
    | .brk, ⟨σ1, H1, J1, q⟩ => exact ⟨σ1, H1, J1.ofTry ok, q⟩
    | .cont, ⟨σ1, H1, J1, q⟩ => exact ⟨σ1, H1, J1.ofTry ok, q⟩
    | .ret u, ⟨v, σ1, H1, J1, r, q⟩ => exact ⟨v, σ1, H1, J1.ofTry ok, r, q⟩
end
end L2.Tb
set_option Elab.async false
set_option linter.all false
set_option maxRecDepth 100000
set_option maxHeartbeats 4000000
/-! p, q = e1, e2 where the stores stand from the left (one of the targets is no plain local name): the pair made between is not tracked -/
namespace L2.Tb
open PySem PySem.Spec PyProof.Rows
def tPairL (ta : TA) (g : TGs) : TS := fun D σ H => ta σ H fun vs H1 => vs.length = 2 ∧ g vs σ H1 D.nx
variable {X : Cx} {es vs : List Expr} {ta : TA} {g : TGs} {kt k2 : Nat} {pt pt2 pos : Pos}
theorem ps_pairL (calm : X.calm = true) (right : PA X vs ta) (left : PGs X es g)
    (star : (assignEach es X.env).findIdx? (·.1) = none) (even : (assignEach es X.env).length = 2)
    (plain : swappedStores [.Tuple es kt pt] (.Tuple vs k2 pt2) X.env = pure none)
    (noswap : swapsWithSole [.Tuple es kt pt] (.Tuple vs k2 pt2) pos.line X.env = pure false := by rfl)
    (once : (assignEach [.Tuple es kt pt] X.env).map (·.2) = [assign (.Tuple es kt pt) X.env] := by rfl) :
    PS X (.Assign [.Tuple es kt pt] (.Tuple vs k2 pt2) pos) (tPairL ta g) := by
  refine ⟨fun pins s σ H D I h => ?_⟩
  refine wpAny_Assign_stores (Tuple_ (thn (right.run _ pins s σ H _ I h) fun us s1 ⟨ws, H1, I1, r1, q1⟩ => ?_)) noswap plain
  obtain ⟨e2, q1⟩ := q1
  have hlen : us.length = 2 := by rw [← e2]; exact (Vals.length r1).symm
  refine wpAny_newObj_type ?_ (by show us.length ≤ sizeLine; rw [hlen]; decide)
  have I2 : Inv X pins σ H1 { s1 with heap := s1.heap.push { cls := .type "tuple", data := .seq us.toArray } } := I1.kept (t' := s1.toks) fun b o e => Heap.get?_push_of_some _ e
  rw [once]
  show wpAny (model X.prog X.w) X.A (assign (.Tuple es kt pt) X.env (.ref s1.heap.objs.size)) _ _ _
  refine assign_Tuple_tuple (items := us.toArray) (I.ok.hd calm) (IsTup.new s1.heap _) (by simp [even, hlen]) star fun h' hx => ?_
  have I3 := I2.kept (h' := h') (t' := s1.toks) fun b o e => hx b o (Nat.ne_of_lt (Heap.lt_size e)) e
  refine thn (left.run pins _ σ H1 ws _ D.nx I3 (by simpa using r1) q1) fun _ s2 q => ?_
  exact q
end L2.Tb
set_option Elab.async false
set_option linter.all false
set_option maxRecDepth 100000
set_option maxHeartbeats 4000000
/-! C.m(k = v), m a classmethod; repr of a bool -/
namespace L2.Tb
open PySem PySem.Spec PyProof.Rows
theorem call_repr_bl {X : Cx} : CallR X (.builtin "repr") (fun xs H Q => ∃ b, xs = [.bl b] ∧ Q (.str (if b then "True" else "False")) H) := by
  intro pins s σ H xs us Q I r h
  obtain ⟨b, rfl, q⟩ := h
  obtain ⟨u, rfl, e⟩ := vals1 r
  obtain rfl : u = Value.bool b := e
  exact PySem.P.repr_of_bool ⟨.str _, H, I.tok _, ⟨_, rfl⟩, q⟩
section
variable {X : Cx} {CX : CXT} {k : Nat} {C p g : Addr} {mc : Value} {sp : Sp} {E : XK} {o : Expr} {kws : List Keyword} {m : Str} {pos apos : Pos} {ta : TE} {tk : TA} {pl : Sem Bool} {fd : FuncData} {ps ks : List Str}
theorem pe_cmethK (he : PE X o ta) (r : ClX.CRead X.K C mc) (c : ClX.CMet X.K C mc m p g) (F : FnOk X.prog X.w X.K X.mg X.base CX k g fd ps sp) (hr : Room k X.A) (hx : Passes CX X E) (hkw : PK X kws tk) (hl : ps.length = ks.length + 1)
    (hb : ∀ (sh : Shared) (zs : List Value), zs.length = ks.length → BindsTo sh fd ⟨[.ref C], ks.zip zs⟩ (ps.zip (Value.ref C :: zs)))
    (hall : (backToKw pos (keywordEach kws X.env)).all (·.1.isSome) = true := by rfl) (hks : (backToKw pos (keywordEach kws X.env)).filterMap (·.1) = ks := by rfl)
    (hpl : ((backTo pos (starEach [] X.env)).any (·.1) || (backToKw pos (keywordEach kws X.env)).any (·.1.isNone)) = false := by rfl)
    (ht : eval (.Call (.Attribute o m apos) [] kws pos) X.env = (do
      let ov ← eval o X.env
      standAt apos.atName
      let (f, first) ← holding [ov] (getMethod ov m pl)
      callWith pos f first (backTo pos (starEach [] X.env)) (backToKw pos (keywordEach kws X.env))) := by rfl) :
    PE X (.Call (.Attribute o m apos) [] kws pos) (fun σ H Q => ta σ H fun x H1 => x = .ref C ∧ tk σ H1 fun zs H2 => sp (.ref C :: zs) H2 Q E) := by
  refine ⟨fun pins s σ H Q I h => ?_⟩
  refine PySem.W.methodCall_KW (pl := pl) (thn (he.run pins s σ H _ I h) fun u s1 hh => ?_) ht
  obtain ⟨x, H1, I1, rx, ex, q⟩ := hh
  subst ex
  obtain rfl : u = Value.ref C := rx
  refine ClX.getmethcm_ok I1 r c fun s2 I2 => ?_
  refine PySem.W.callWith_of (P := PySem.W.MethP X.K s1.heap.objs.size g (.ref C)) hpl (PySem.W.keeps_M c.fi) (evalArgs_kw2_nil hall ?_)
  refine thn (hkw.run pos _ s2 σ H1 _ I2 q) fun ws s3 hh => ?_
  obtain ⟨zs, H2, I3, rz, q2⟩ := hh
  refine ⟨⟨ClX.pin_at I3, I3.kIn⟩, ?_⟩
  rw [hks]
  have hw : ws.length = ks.length := by
    have z := F.len _ _ _ _ q2
    rw [List.length_cons, hl] at z
    rw [← rz.length]
    omega
  have run : wpAny (model X.prog X.w) X.A (call (.ref s1.heap.objs.size) [] (ks.zip ws)) (EP X ((s1.heap.objs.size, PySem.W.methodObj (.ref g) (.ref C)) :: pins) σ Q) X.xe s3 := by
    refine wpAny_call (PySem.W.method_call (ClX.pin_at I3) (codeAny_mono (F.run X.A X.stack s3 H2 ⟨[.ref C], ks.zip ws⟩ (.ref C :: ws) (.ref C :: zs) Q E hr I3.env0 (hb s3 ws hw) (.cons rfl rz) q2) fun r s' hq => ?_))
    match r, hq with
    | .error e, hq => exact hx _ σ H2 s3 e s' I3 hq
    | .ok (.ret u2), hq => exact I3.after hq
  exact thn run fun _ _ y => ClX.unpinE y
end
end L2.Tb
set_option Elab.async false
set_option linter.all false
set_option maxRecDepth 100000
set_option maxHeartbeats 4000000
/-! x != y where x's class has an __eq__ of its own and no __ne__ -/
namespace L2.Tb
open PySem PySem.Spec PyProof.Rows
section
variable {prog : Program} {w : World} {A : Around} {E : Value → Shared → Prop} {s : Shared} {K : PySem.W.Frag} {x C f : Addr} {ox : Obj} {od : Option Obj} {b : Value}
theorem ne_body {Q : Fin → Shared → Prop} (hu : A.units < cLine) (X : K.In s.heap) (I : PySem.W.InstAt s.heap x ox C od) (he : PySem.W.findIn K (.ref C) "__eq__" = some (some (.ref f))) (hf : PySem.W.isFn K (.ref f) = true)
    (h : wpAny (model prog w) A (call (.ref f) [.ref x, b]) (fun v s' => ∃ c, v = .bool c ∧ Q (.done (.ret (.bool (!c)))) s') E s) : wpAny (model prog w) A (Builtin.«object.__ne__» ⟨[.ref x, b], []⟩) Q E s := by
  unfold Builtin.«object.__ne__»
  refine wpAny_bind (wpAny_of_eq (show _ = (pure (Value.ref x, [b]) : Sem (Value × List Value)) from rfl) ?_)
  refine wpAny_bind (wpAny_cRoomFor hu (wpAny_bind (PySem.W.ifBound_K X I he hf (wpAny_mono h (fun v s' hv => ?_) fun _ _ e => e))))
  obtain ⟨c, rfl, q⟩ := hv
  exact wpAny_bind (wpAny_truthy_bool (wpAny_pure q))
theorem ne_call {Q : Value → Shared → Prop} (hu : A.in1.units < cLine) (X : K.In s.heap) (I : PySem.W.InstAt s.heap x ox C od) (hm : PySem.W.mroIn K C (.type "object") = some true) (he : PySem.W.findIn K (.ref C) "__eq__" = some (some (.ref f))) (hf : PySem.W.isFn K (.ref f) = true)
    (h : wpAny (model prog w) A.in1 (call (.ref f) [.ref x, b]) (fun v s' => ∃ c, v = .bool c ∧ Q (.bool (!c)) s') E s) : wpAny (model prog w) A (call (.builtin "object.__ne__") [.ref x, b]) Q E s :=
  wpAny_call (codeAny_call_builtin F.cmp_object.ne.plain F.cmpEntry_ne (PySem.W.check_slot F.cmpKind_ne F.cmpSplit_ne (I.type.andThen (PySem.W.looks_mroIn X hm)) (F.cmpArgs_ne _ _) (ne_body hu X I he hf h)))
theorem bound_ne {args : List Value} {Q : Option Value → Shared → Prop} (X : K.In s.heap) (I : PySem.W.InstAt s.heap x ox C od) (hs : PySem.W.findIn K (.ref C) "__ne__" = some (some (.builtin "object.__ne__")))
    (h : wpAny (model prog w) A (call (.builtin "object.__ne__") (.ref x :: args)) (fun v => Q (some v)) E s) : wpAny (model prog w) A (callSpecialIfBound? (.ref x) "__ne__" args) Q E s := by
  have run : wpAny (model prog w) A (call (.builtin "object.__ne__") ([.ref x] ++ args) >>= fun v => pure (some v)) Q E s := wpAny_bind (wpAny_mono h (fun _ _ q => wpAny_pure q) fun _ _ q => q)
  simp only [callSpecialIfBound?, bindSpecialIfBound?]
  refine wpAny_holding (wpAny_bind (wpAny_bind (wpAny_bind (I.type.here ((PySem.W.looks_findIn X hs).here (wpAny_bind (wpAny_askSetting (wpAny_ite ?_))))))))
  split
  · exact wpAny_bind (wpAny_of_eq (F.cmp_object.ne.bind _) (wpAny_pure (by exact run)))
  · exact wpAny_tryCatch (wpAny_bind (wpAny_of_eq (F.cmp_object.ne.bind _) (wpAny_pure (by exact run))))
theorem rc_ne {Q : Value → Shared → Prop} {tb : Value} (hu : A.units + 2 < cLine) (X : K.In s.heap) (I : PySem.W.InstAt s.heap x ox C od) (hb : PySem.W.Looks (model prog w) s.heap (typeOf b) tb) (hn : PySem.W.notFirst K C tb = true) (hm : PySem.W.mroIn K C (.type "object") = some true)
    (hs : PySem.W.findIn K (.ref C) "__ne__" = some (some (.builtin "object.__ne__"))) (he : PySem.W.findIn K (.ref C) "__eq__" = some (some (.ref f))) (hf : PySem.W.isFn K (.ref f) = true)
    (h : wpAny (model prog w) A.in1 (call (.ref f) [.ref x, b]) (fun v s' => ∃ c, v = .bool c ∧ Q (.bool (!c)) s') E s) : wpAny (model prog w) A (richCompare .NotEq (.ref x) b) Q E s := by
  have one : wpAny (model prog w) A (tryCompare (.ref x) (cmpInfo .NotEq).2.1 b) (fun r s' => ∃ c, r = some (.bool (!c)) ∧ Q (.bool (!c)) s') E s := by
    unfold tryCompare
    refine wpAny_bind (bound_ne X I hs (ne_call (show A.units + 1 < cLine by omega) X I hm he hf (wpAny_mono h (fun v s' hv => ?_) fun _ _ e => e)))
    obtain ⟨c, e, q⟩ := hv
    exact ⟨c, e, wpAny_pure ⟨c, rfl, q⟩⟩
  unfold richCompare
  simp only [oneThing_ref]
  refine wpAny_holding (wpAny_bind (wpAny_cRoomFor (show A.units < cLine by omega) ?_))
  refine wpAny_bind (I.type.here (wpAny_bind (hb.here ?_)))
  split
  · rename_i q
    have e : PySem.W.subIn K tb (.ref C) = some false := (Bool.or_eq_true_iff.mp hn).elim (fun z => absurd q (by rw [beq_iff_eq.mp z]; simp)) fun z => beq_iff_eq.mp z
    refine wpAny_bind ((PySem.W.looks_subIn X e).here ?_)
    simp only [Bool.false_eq_true, if_false]
    refine wpAny_bind (wpAny_mono one (fun r s' z => ?_) fun _ _ e => e)
    obtain ⟨c, rfl, hq⟩ := z
    exact wpAny_pure hq
  · refine wpAny_bind (wpAny_pure ?_)
    simp only [Bool.false_eq_true, if_false]
    refine wpAny_bind (wpAny_mono one (fun r s' z => ?_) fun _ _ e => e)
    obtain ⟨c, rfl, hq⟩ := z
    exact wpAny_pure hq
end
section
variable {X : Cx} {C f : Addr} {fd : FuncData} {ps : List Str} {sp : Sp} {k : Nat}
def rOwnNe (K : PySem.W.Frag) (C : Addr) (sp : Sp) : R2 := fun x y H Q => ∃ (a dx : Addr) (fs : List (Str × V)) (t : Value), x = .ref a ∧ H a = some (.ins C dx fs) ∧ TyX K H y t ∧ PySem.W.notFirst K C t = true ∧ sp [.ref a, y] H (fun v H' => ∃ c, v = .bl c ∧ Q (.bl (!c)) H') E0
theorem op_ownNe (F : FnOk X.prog X.w X.K X.mg X.base L2.CX0 k f fd ps sp) (hr : Room (k + 1) X.A) (hm : PySem.W.mroIn X.K C (.type "object") = some true) (hs : PySem.W.findIn X.K (.ref C) "__ne__" = some (some (.builtin "object.__ne__")))
    (he : PySem.W.findIn X.K (.ref C) "__eq__" = some (some (.ref f))) (hf : PySem.W.isFn X.K (.ref f) = true) (hb : Binds X.K fd ps []) : OpR X (compareOp .NotEq) (rOwnNe X.K C sp) := by
  intro pins s σ H x y v u Q I rx ry h
  obtain ⟨a, dx, fs, t, rfl, ea, ty, nf, h⟩ := h
  obtain rfl : v = Value.ref a := rx
  obtain ⟨mA, O, _⟩ := ins_get I.hok ea
  obtain ⟨od, J, _⟩ := O.look
  obtain ⟨Pt, kt, pt, _⟩ := kit_of I ry ty
  have hl := F.len _ _ _ _ h
  refine rc_ne (tb := t) (by have := hr.un; omega) I.kIn J (kt.ty _ _ I.kIn pt) nf hm hs he hf (wpAny_call (codeAny_mono (F.run X.A.in1 X.stack s H ⟨[.ref a, u], []⟩ [.ref a, u] [.ref a, y] _ E0 hr.in1 I.env0.in1 (by
    have z := hb s [.ref a, u] I.kIn (by simpa using hl)
    simpa using z) (.cons rfl (.cons ry .nil)) h) fun r s' hq => ?_))
  match r, hq with
  | .error e, hq => exact hq.elim
  | .ok (.ret u2), hq =>
    obtain ⟨v2, H', I', rv, c, e, q⟩ := I.after hq
    rw [e] at rv
    obtain rfl : u2 = Value.bool c := rv
    exact ⟨c, rfl, .bl (!c), H', I', rfl, q⟩
end
end L2.Tb
set_option Elab.async false
set_option linter.all false
set_option maxRecDepth 100000
set_option maxHeartbeats 4000000
namespace L2.Tb
open PySem PySem.Spec PyProof.Rows
/-! ### a def whose code object is known -/
section
variable {P : Program} {w : World} {K : PySem.W.Frag} {mg : Str → Option Value} {base : Heap} {x : Str} {st : Stmt} {fd : FuncData} {N ps : List Str} {k : Nat} {sp : Sp}
/-- as cal_mk, the body being told where the def's code object stands -/
theorem cal_mkC {at_ : Str × Option Str} (F : FnP K x st (He.fAd K at_) fd) (hm : mg x = some (.ref (He.fAd K at_))) (S : FnScope N ps (defScope st))
    (hb : ∀ (kV doc pm : Value) (an : Option Addr) (cdv ct : Value) (us : List Value), us.length = ps.length → bindArgs (PySem.W.fnOf x x (defArgs st) (defBody st) (defScope st) .none kV doc pm an cdv ct) ⟨us, []⟩ = pure (ps.zip us))
    (len : ∀ vs H Q E, sp vs H Q E → vs.length = ps.length)
    (hbody : ∀ (cdv : Value) (A : Around) (outer : List Env) (s : Shared) (H : Hp) (vs : List V) (Q : VK) (E : XK), cdv = .ref (He.codeOf K at_) → Room k (A.deeper (envOfC x (defScope st) s.heap.objs.size (He.fAd K at_) cdv)) → sp vs H Q E →
      ∃ t, PSs (cxOf L2.CX0 P w K mg base N x (defScope st) (He.fAd K at_) cdv A outer s H E).nox (defBody st) t ∧ t { nx := fun _ H' => Q .non H', rt := Q } (start N vs) H) : Cal P w K mg base (k + 1) x sp := by
  obtain ⟨oc, od, dV, kV, doc, pm, an, cdv, ct, osl, rfl, lk, hcd, _, _⟩ := id F.ex
  obtain ⟨c, rfl⟩ := He.codeIn_ref hcd
  have hc : (Value.ref c) = .ref (He.codeOf K at_) := by rw [He.codeOf_eq lk rfl]
  refine ⟨_, _, ps, fn_of lk hcd S len fun A outer s H vs Q E hr h => ?_, hm, F.kp, F.bindsN hb⟩
  obtain ⟨t, a, b⟩ := hbody _ A outer s H vs Q E hc hr h
  exact ⟨t, a.nox, b⟩
end
/-! ### the end at the place of the law's call, some code objects having tables -/
section
variable {P : Program} {w : World} {K : PySem.W.Frag} {mg mb : Str → Option Value} {fa a : Addr} {fd : FuncData} {x : Str} {sp : Sp} {s1 : Shared} {vs : List Value} {ns : List Int} {cs : List (Addr × Addr)}
theorem law_atT (KX : K.In s1.heap) (hns : s1.heap.Ns mainGlobals mg) (hb : s1.heap.Ns builtinsNs mb)
    (hbb : ∀ x : Str, x ≠ "__name__" → mb x = bootBuiltins x) (hlim : s1.heap.NoLimit) (hg : s1.gens = #[]) (hT : ∀ p ∈ cs, s1.heap.get? p.2 = some { cls := .none, data := .fields #[] }) (nT : ∀ p ∈ cs, K.lookup p.2 = none) (C : ∀ p ∈ cs, PySem.W.CodeHd s1.heap p.1 p.2)
    (hbm : ∃ (bm : Addr) (ob : Obj), mg "__builtins__" = some (.ref bm) ∧ bm ≠ builtinsNs ∧ s1.heap.get? bm = some ob ∧ ob.cls = .type "module" ∧ ob.dict = some builtinsNs ∧ ob.data = .plain)
    (ha : s1.heap.get? a = some { cls := .type "list", data := .seq vs.toArray }) (hi : IntsAre vs ns) (hl : ns.length ≤ sizeLine)
    (R : ∀ base : Heap, K.In base → base.Ns mainGlobals mg → (∀ p ∈ cs, LamX.TabB base mg p.1 p.2) → RunsAt P w K mg base fa fd [x] sp callerA) (hbind : ∀ (s : Shared) (u : Value), BindsTo s fd ⟨[u], []⟩ [(x, u)])
    (hsp : ∀ H : Hp, (∀ p ∈ cs, H p.2 = some (.tbl #[])) → SqL K H a (ns.map V.int) → sp [.ref a] H (fun v _ => v = .bl true) fun _ _ _ => False) :
    codeAny (model P w) callerA (.call (.ref fa) ⟨[.ref a], []⟩) (fun r s' => r = .ok (.ret (.bool true)) ∧ OldK s1.heap s'.heap ∧ s'.os = s1.os ∧ AllBare s'.gens) s1 := by
  let ob : Obj := { cls := .type "list", data := .seq vs.toArray }
  let Ts : List Addr := cs.map (·.2)
  let H : Hp := fun b => if b ∈ Ts then some (.tbl #[]) else if b = a ∧ K.lookup a = none then some (.frz ob (.lst (ns.map V.int))) else none
  have tabs : ∀ {b}, b ∈ Ts → ∃ p ∈ cs, p.2 = b := fun h => by
    obtain ⟨p, hp, e⟩ := List.mem_map.mp h
    exact ⟨p, hp, e⟩
  have tab1 : ∀ p ∈ cs, p.2 ∈ Ts := fun p hp => List.mem_map_of_mem hp
  have objT : ∀ {b}, b ∈ Ts → s1.heap.get? b = some { cls := .none, data := .fields #[] } := fun h => by
    obtain ⟨p, hp, rfl⟩ := tabs h
    exact hT p hp
  have aT : a ∉ Ts := fun h => by
    have z := (objT h).symm.trans ha
    cases z
  have hTab : ∀ {b}, b ∈ Ts → H b = some (.tbl #[]) := fun h => if_pos h
  have hNot : ∀ {b}, b ∉ Ts → (b = a → (K.lookup a).isSome = true) → H b = none := fun {b} h1 h2 => by
    refine (if_neg h1).trans (if_neg fun ⟨e, k⟩ => ?_)
    have z := h2 e
    rw [k] at z
    cases z
  have hCase : ∀ b o, H b = some o → (b ∈ Ts ∧ o = .tbl #[]) ∨ (b ∉ Ts ∧ b = a ∧ K.lookup a = none ∧ o = .frz ob (.lst (ns.map V.int))) := fun b o e => by
    by_cases h1 : b ∈ Ts
    · rw [hTab h1] at e
      exact .inl ⟨h1, (Option.some.inj e).symm⟩
    · have e2 : (if b = a ∧ K.lookup a = none then some (HO.frz ob (.lst (ns.map V.int))) else none) = some o := (if_neg h1).symm.trans e
      by_cases h2 : b = a ∧ K.lookup a = none
      · rw [if_pos h2] at e2
        exact .inr ⟨h1, h2.1, h2.2, (Option.some.inj e2).symm⟩
      · rw [if_neg h2] at e2
        cases e2
  have plain : ∀ {b o}, s1.heap.get? b = some o → (∀ u n, o.data ≠ .seq u n) → o.data ≠ .fields #[] → H b = none := fun {b o} e n1 n2 => by
    refine hNot (fun h => n2 ?_) fun h => absurd ?_ (n1 vs.toArray 0)
    · have z := e.symm.trans (objT h)
      cases z
      rfl
    · rw [h, ha] at e
      cases e
      rfl
  have ns1 : ∀ {b : Addr} {m : Str → Option Value}, s1.heap.Ns b m → (hidT s1.heap H).Ns b m := fun {b m} ⟨o, es, ep, e, d, r⟩ =>
    ⟨o, es, ep, hidT_get e (plain e (fun u n z => by rw [d] at z; cases z) (fun z => by rw [d] at z; cases z)), d, r⟩
  have kin : K.In (hidT s1.heap H) := fun b o e => hidT_get (KX b o e) (hNot (fun h => by
    obtain ⟨p, hp, rfl⟩ := tabs h
    rw [nT p hp] at e
    cases e) fun h => by rw [← h, e]; rfl)
  have rv := vals_ints hi
  have sq : SqL K H a (ns.map V.int) := by
    cases hk : K.lookup a with
    | none => exact .inl (.inr ⟨ob, (if_neg aT).trans (if_pos ⟨rfl, hk⟩)⟩)
    | some o =>
      have e := KX a o hk
      rw [ha] at e
      cases e
      exact .inr ⟨_, vs.toArray, _, hk, rfl, rfl, rfl, by rw [List.size_toArray, hi.length]; exact hl, by simpa using rv⟩
  have hok : HOk P w H s1.heap := fun b u z => by
    rcases hCase b u z with ⟨h1, rfl⟩ | ⟨_, rfl, _, rfl⟩
    · exact objT h1
    · exact ⟨ha, by rw [List.length_map]; exact hl, vs, _, rv, ha⟩
  obtain ⟨mc, l1, l2⟩ := hlim
  have e0 : Env0 P w K mg (hidT s1.heap H) callerA [] s1 H := ⟨rfl, ⟨kin, ns1 hns, ⟨mb, ns1 hb, hbb⟩, ⟨mc, ns1 l1, l2⟩⟩, fun _ _ e => of_hidT e, Nat.le_of_eq (hidT_size _ _), trivial, fun b hb => (nomatch hb), hok, .of_eq hg⟩
  have TB : ∀ p ∈ cs, LamX.TabB (hidT s1.heap H) mg p.1 p.2 := fun p hp => by
    have tp := hT p hp
    obtain ⟨og, es, ep, eg, dg, _⟩ := id hns
    refine ⟨?_, ?_, fun z => ?_⟩
    · obtain ⟨o, us, file, tf, flags, tg, inF, text, tt, e1, q⟩ := C p hp
      refine ⟨o, us, file, tf, flags, tg, inF, text, tt, hidT_get e1 (plain e1 (fun u n z => ?_) fun z => ?_), q⟩
      · rw [q.2.1] at z
        cases z
      · rw [q.2.1] at z
        cases z
        exact absurd q.2.2.1 (by simp)
    · obtain ⟨bm, o, b1, b2, b3, b4, b5, b6⟩ := hbm
      refine ⟨bm, o, b1, b2, fun z => ?_, fun z => ?_, hidT_get b3 (plain b3 (fun u n z => ?_) fun z => ?_), b4, b5, b6⟩
      · rw [z, eg] at b3
        cases b3
        rw [dg] at b6
        cases b6
      · rw [z, tp] at b3
        cases b3
        cases b6
      · rw [b6] at z
        cases z
      · rw [b6] at z
        cases z
    · rw [z, tp] at eg
      cases eg
      cases dg
  refine codeAny_mono (R _ kin (ns1 hns) TB [] s1 H _ [.ref a] [.ref a] (fun v _ => v = .bl true) (fun _ _ _ => False) e0 (hbind s1 (.ref a)) (.cons rfl .nil) rfl (hsp H (fun p hp => hTab (tab1 p hp)) sq)) fun r s' h => ?_
  match r, h with
  | .error e, h => exact h.elim
  | .ok (.ret u), ⟨v, H', os, bare, un, hok', r', q⟩ =>
    subst q
    obtain rfl : u = Value.bool true := r'
    have grown : ∀ {b}, b ∈ Ts → ∃ more : Array Value, s'.heap.get? b = some { cls := .none, data := .fields more } := fun {b} h => by
      obtain ⟨more, z⟩ := un.tbls b #[] (hTab h)
      exact ⟨_, hok' b _ z⟩
    have kept : ∀ {b o}, b ∉ Ts → s1.heap.get? b = some o → s'.heap.get? b = some o := fun {b o} h1 e => by
      cases z : H b with
      | none => exact un.keep b o e z (fun z => nomatch z) (fun z => nomatch z)
      | some o2 =>
        rcases hCase b o2 z with ⟨h2, _⟩ | ⟨_, rfl, _, rfl⟩
        · exact absurd h2 h1
        · rw [ha] at e
          cases e
          exact (hok' b _ (un.frzs b ob _ z)).1
    refine ⟨rfl, ⟨fun b o e => ?_, fun b o e => ?_⟩, os, bare⟩
    · by_cases h1 : b ∈ Ts
      · obtain ⟨more, hm⟩ := grown h1
        obtain ⟨p, hp, rfl⟩ := tabs h1
        have z := e.symm.trans (hT p hp)
        cases z
        exact .inr (.inl ⟨((C p hp).tab (hT p hp)).isCodeTable, rfl, #[], more, rfl, by rw [Array.empty_append]; exact hm⟩)
      · exact .inl (kept h1 e)
    · by_cases h1 : b ∈ Ts
      · obtain ⟨more, hm⟩ := grown h1
        exact ⟨_, hm⟩
      · exact ⟨o, kept h1 e⟩
end
theorem walk_atT {l : PySem.W.OpenLaw} {n : Nat} {q : Program} {loose : List Str} {XP : (Str → Option Value) → Heap → Prop} {YP : World → Heap → Prop} {d : DefRec} {x : Str} (hn : l.most = some n) (hn2 : n ≤ sizeLine) (hdf : d.params.defaults = [])
    (F : ∀ (w : World) (mg : Str → Option Value) (fa : Addr) (h : Heap), YP w h → h.Ns mainGlobals mg → mg d.name = some (.ref fa) → ∃ (K : PySem.W.Frag) (fd : FuncData) (sp : Sp) (cs : List (Addr × Addr)), K.In h ∧ (∀ p ∈ cs, h.get? p.2 = some { cls := .none, data := .fields #[] }) ∧
      (∀ p ∈ cs, K.lookup p.2 = none) ∧ (∀ p ∈ cs, PySem.W.CodeHd h p.1 p.2) ∧ (∀ (s : Shared) (u : Value), BindsTo s fd ⟨[u], []⟩ [(x, u)]) ∧
      (∀ (H : Hp) (a : Addr) (ns : List Int), ns.length ≤ n → (∀ z ∈ ns, Builtin.Int.intBits z ≤ 1048576) → (∀ p ∈ cs, H p.2 = some (.tbl #[])) → SqL K H a (ns.map V.int) → sp [.ref a] H (fun v _ => v = .bl true) fun _ _ _ => False) ∧
      ∀ base : Heap, K.In base → base.Ns mainGlobals mg → (∀ p ∈ cs, LamX.TabB base mg p.1 p.2) → RunsAt l.prog w K mg base fa fd [x] sp callerA) :
    PySem.W.WalkO q loose XP YP l.row.toRowW d [] (fun f vs => PySem.call f vs) := by
  refine Att.attach_callB hn hdf fun w s0 s1 mg mb fa o pm cd doc a vs ns G Y ho hd hcd hmg hobj hints hlen hbits hg => ?_
  obtain ⟨K, fd, sp, cs, KX, hT, nT, C, hb, hsp, R⟩ := F w mg fa _ Y G.T.g hmg
  exact law_atT KX G.T.g G.T.b G.T.builtins G.T.nolimit hg hT nT C G.T.bmain hobj hints (Nat.le_trans hlen hn2) R hb fun H hH sq => hsp H a ns hlen hbits hH sq
end L2.Tb
set_option Elab.async false
set_option linter.all false
set_option maxRecDepth 100000
set_option maxHeartbeats 4000000
/-! what a head is asked for: own facts in one Bool, defs at any address, written dicts, empty code tables -/
namespace L2.Tb
open PySem PySem.Spec PyProof.Rows
/-- a plain own class, as isinstance and != ask of it -/
structure InsC (K : PySem.W.Frag) (C : Addr) : Prop where
  ha : PySem.W.findIn K (.ref C) "__class__" = some (some (.builtin "object.__class__"))
  hn : PySem.W.specialIn K (.builtin "object.__class__") "__get__" = some (some (.builtin "getset_descriptor.__get__"))
  ht : PySem.W.takesIn K (.builtin "object.__class__") = some true
  hm : PySem.W.mroIn K C (.type "object") = some true
def insB (K : PySem.W.Frag) (C : Addr) : Bool := He.eqO (PySem.W.findIn K (.ref C) "__class__") (some (some (.builtin "object.__class__"))) && (He.eqO (PySem.W.specialIn K (.builtin "object.__class__") "__get__") (some (some (.builtin "getset_descriptor.__get__"))) &&
  (decide (PySem.W.takesIn K (.builtin "object.__class__") = some true) && decide (PySem.W.mroIn K C (.type "object") = some true)))
theorem insB_ok {K : PySem.W.Frag} {C : Addr} (h : insB K C = true) : InsC K C := by
  obtain ⟨a, h⟩ := He.ba h
  obtain ⟨b, h⟩ := He.ba h
  obtain ⟨c, d⟩ := He.ba h
  exact ⟨He.eqO_ok a, He.eqO_ok b, of_decide_eq_true c, of_decide_eq_true d⟩
/-- a property of the class -/
abbrev pAd (K : PySem.W.Frag) (C : Addr) (f : Str) : Addr := He5.wf K C "property" f
def propB (K : PySem.W.Frag) (C : Addr) (f : Str) : Bool := He.eqO (PySem.W.findIn K (.ref C) f) (some (some (.ref (He.ma K C f)))) && (He.eqO (PySem.W.specialIn K (.ref (He.ma K C f)) "__get__") (some (some (.builtin "property.__get__"))) &&
  (decide (PySem.W.takesIn K (.ref (He.ma K C f)) = some true) && (match PySem.W.recIn K (He.ma K C f) "property" with
    | some (.ref _ :: _) => true
    | _ => false)))
theorem propB_ok {K : PySem.W.Frag} {C : Addr} {f : Str} (h : propB K C f = true) : PropOf K C f (He.ma K C f) (pAd K C f) := by
  obtain ⟨a, h⟩ := He.ba h
  obtain ⟨b, h⟩ := He.ba h
  obtain ⟨c, d⟩ := He.ba h
  refine ⟨He.eqO_ok a, He.eqO_ok b, of_decide_eq_true c, ?_⟩
  unfold pAd He5.wf
  split at d
  · rename_i g r e
    exact ⟨r, by rw [e]⟩
  · cases d
/-- a class that is read by its name; its classmethods -/
abbrev cAd (K : PySem.W.Frag) (C : Addr) (m : Str) : Addr := He5.wf K C "classmethod" m
def creadB (K : PySem.W.Frag) (C : Addr) : Bool := PySem.W.readsIn K C (.type "type") && He.eqO (PySem.W.specialIn K (.ref C) "__getattribute__") (some (some (.builtin "type.__getattribute__")))
theorem creadB_ok {K : PySem.W.Frag} {C : Addr} (h : creadB K C = true) : ClX.CRead K C (.type "type") := ⟨(He.ba h).1, He.eqO_ok (He.ba h).2⟩
def cmetB (K : PySem.W.Frag) (C : Addr) (m : Str) : Bool := He5.wrapB K C "classmethod" "classmethod.__get__" m && PySem.W.fnIn K (cAd K C m)
theorem cmetB_ok {K : PySem.W.Frag} {C : Addr} {m : Str} (h : cmetB K C m = true) : ClX.CMet K C (.type "type") m (He.ma K C m) (cAd K C m) := He5.cmet_of (He.ba h).1 (He.ba h).2
/-! ### what the module's names reach -/
def refsAll (g : Addr → Option Obj) (as : List Addr) : List Addr := as.flatMap fun a => match g a with
  | some o => He.refsD o
  | none => []
def seenAt (g : Addr → Option Obj) : Nat → List Addr → List Addr
  | 0, as => as
  | n + 1, as => as ++ seenAt g n (refsAll g as)
def kH (n : Nat) (g : Addr → Option Obj) : PySem.W.Frag := He.frT g (seenAt g n [mainGlobals] ++ [cStatics])
/-! ### the Hook -/
section
variable (n : Nat) (fb : PySem.W.Frag → Bool) (fn : List He5.DefA) (ts : List He.Tab) (tf : List He.Defn)
abbrev AlH : Type := (Bool × List He.FnW) × List (Option (List (Option (Str × Int))))
def obsH (g : Addr → Option Obj) : AlH := ((fb (kH n g) && (He.tabsB g tf (kH n g) && fn.all fun d => d.ok (kH n g)), fn.map fun d => He5.fnA (kH n g) (d.at_ (kH n g))), ts.map fun t => He.dicW (kH n g) (t.1 (kH n g)))
def valH (w : World) : AlH := ((true, fn.map He5.DefA.val), ts.map fun t => some (He.keysIn w.params t.2))
structure SaysH (w : World) (h : Heap) (K : PySem.W.Frag) : Prop where
  kin : K.In h
  fb : fb K = true
  df : ∀ d ∈ fn, ∃ fd, FunD K d.name d.qual d.params d.body d.scope (d.dvs K) (d.kws K) (d.at_ K) fd
  tb : ∀ t ∈ ts, ∃ es m, KDict K w (t.1 K) es m
  hd : ∀ p ∈ tf, PySem.W.codeHdIn K (He.cT K p).1 (He.cT K p).2 = true
  out : ∀ p ∈ tf, K.lookup (He.cT K p).2 = none
  emp : ∀ p ∈ tf, h.get? (He.cT K p).2 = some { cls := .none, data := .fields #[] }
end
section
variable {n : Nat} {fb : PySem.W.Frag → Bool} {fn : List He5.DefA} {ts : List He.Tab} {tf : List He.Defn}
theorem map_mem {α β : Type} {f g : α → β} {l : List α} (h : l.map f = l.map g) {a : α} (ha : a ∈ l) : f a = g a := List.map_inj_left.mp h a ha
theorem saysH_of {w : World} {h : Heap} (e : obsH n fb fn ts tf h.get? = valH fn ts w) : SaysH fb fn ts tf w h (kH n h.get?) := by
  have e1 : (fb (kH n h.get?) && (He.tabsB h.get? tf (kH n h.get?) && fn.all fun d => d.ok (kH n h.get?))) = true := congrArg (fun z : AlH => z.1.1) e
  have e2 : (fn.map fun d => He5.fnA (kH n h.get?) (d.at_ (kH n h.get?))) = fn.map He5.DefA.val := congrArg (fun z : AlH => z.1.2) e
  have e3 : (ts.map fun t => He.dicW (kH n h.get?) (t.1 (kH n h.get?))) = ts.map fun t => some (He.keysIn w.params t.2) := congrArg (fun z : AlH => z.2) e
  obtain ⟨a, b⟩ := He.ba e1
  obtain ⟨b, c⟩ := He.ba b
  have tab : ∀ p ∈ tf, PySem.W.codeHdIn (kH n h.get?) (He.cT (kH n h.get?) p).1 (He.cT (kH n h.get?) p).2 = true ∧ ∃ o, h.get? (He.cT (kH n h.get?) p).2 = some o ∧ He.emptyTab o = true := fun p hp => by
    obtain ⟨x, y⟩ := He.ba (List.all_eq_true.mp b p hp)
    refine ⟨x, ?_⟩
    split at y
    · rename_i o q
      exact ⟨o, q, y⟩
    · cases y
  refine ⟨He.frT_in, a, fun d hd => He5.DefA.funD (map_mem e2 hd) (List.all_eq_true.mp c d hd), fun t ht => He.dicW_ok (map_mem e3 ht), fun p hp => (tab p hp).1, fun p hp => ?_, fun p hp => ?_⟩
  · obtain ⟨_, o, q, z⟩ := tab p hp
    exact He.frT_none q z
  · obtain ⟨_, o, q, z⟩ := tab p hp
    rw [q, He.emptyTab_eq z]
def hookH (n : Nat) (fb : PySem.W.Frag → Bool) (fn : List He5.DefA) (ts : List He.Tab) (tf : List He.Defn) : PySem.W.Hook where
  α := AlH
  obs := fun s => obsH n fb fn ts tf s.heap.get?
  val := fun w => valH fn ts w
  says := fun w h => ∃ K : PySem.W.Frag, SaysH fb fn ts tf w h K
  of := fun _ _ e => ⟨_, saysH_of e⟩
  keeps := fun _ _ _ ⟨K, c⟩ k => ⟨K, PySem.W.Frag.In.keeps c.kin k, c.fb, c.df, c.tb, c.hd, c.out, fun p hp => k _ _ (c.emp p hp)⟩
theorem obH_eq (s : PySem.W.SharedT) : obsH n fb fn ts tf (HandSHeadRun.getT s) = (hookH n fb fn ts tf).obs s.abs := by
  have e : HandSHeadRun.getT s = s.abs.heap.get? := funext fun a => HandSHeadRun.getT_eq s a
  show obsH n fb fn ts tf (HandSHeadRun.getT s) = obsH n fb fn ts tf s.abs.heap.get?
  rw [e]
theorem SaysH.nth {w : World} {h : Heap} {K : PySem.W.Frag} (c : SaysH fb fn ts tf w h K) (i : Nat) {d : He5.DefA} (e : fn[i]? = some d := by rfl) : ∃ fd, FunD K d.name d.qual d.params d.body d.scope (d.dvs K) (d.kws K) (d.at_ K) fd := c.df d (List.mem_of_getElem? e)
theorem SaysH.cs {w : World} {h : Heap} {K : PySem.W.Frag} (c : SaysH fb fn ts tf w h K) : (∀ p ∈ tf.map (He.cT K), h.get? p.2 = some { cls := .none, data := .fields #[] }) ∧ (∀ p ∈ tf.map (He.cT K), K.lookup p.2 = none) ∧ ∀ p ∈ tf.map (He.cT K), PySem.W.CodeHd h p.1 p.2 := by
  refine ⟨fun p hp => ?_, fun p hp => ?_, fun p hp => ?_⟩ <;> obtain ⟨q, hq, rfl⟩ := List.mem_map.mp hp
  · exact c.emp q hq
  · exact c.out q hq
  · exact PySem.W.codeHd_of_K c.kin (c.hd q hq)
end
/-- all of a list of names -/
theorem all_get {α : Type} {p : α → Bool} {l : List α} (h : l.all p = true) (i : Nat) {a : α} (e : l[i]? = some a := by rfl) : p a = true := List.all_eq_true.mp h a (List.mem_of_getElem? e)
/-! ### a written dict's keys; a written tuple -/
def keyS (e : DictEntry) : Option Str := match e.key with
  | .str z _ => some z
  | _ => none
def keysB (K : PySem.W.Frag) (a : Addr) (ks : List Str) : Bool := match K.lookup a with
  | some ⟨_, _, .dict es _, _⟩ => decide (es.toList.map keyS = ks.map some)
  | _ => false
theorem keysB_ok {K : PySem.W.Frag} {a : Addr} {ks : List Str} (h : keysB K a ks = true) (z : Str) : ∃ r, PySem.W.nsIn K a z = some r ∧ r.isSome = ks.contains z := by
  unfold keysB at h
  split at h
  · rename_i oc od es n sl q
    have h := of_decide_eq_true h
    unfold PySem.W.nsIn
    rw [q]
    dsimp only
    have key : ∀ (l : List DictEntry) (ks : List Str), l.map keyS = ks.map some → l.any (·.refKey) = false ∧ (l.find? (·.key.isStr z)).isSome = ks.contains z := by
      intro l
      induction l with
      | nil =>
        intro ks h
        cases ks with
        | nil => exact ⟨rfl, rfl⟩
        | cons => cases h
      | cons e l ih =>
        intro ks h
        cases ks with
        | nil => cases h
        | cons k ks =>
          rw [List.map_cons, List.map_cons] at h
          injection h with h1 h2
          obtain ⟨i1, i2⟩ := ih ks h2
          unfold keyS at h1
          split at h1
          · rename_i y t e1
            have h1 : y = k := Option.some.inj h1
            have r : e.refKey = false := by
              unfold DictEntry.refKey
              rw [e1]
            refine ⟨by rw [List.any_cons, r, i1]; rfl, ?_⟩
            rw [List.find?_cons, List.contains_cons]
            have w : e.key.isStr z = (z == k) := by
              rw [e1, ← h1]
              show (y == z) = (z == y)
              exact Bool.eq_iff_iff.mpr ⟨fun c => beq_iff_eq.mpr (beq_iff_eq.mp c).symm, fun c => beq_iff_eq.mpr (beq_iff_eq.mp c).symm⟩
            rw [w]
            cases (z == k) with
            | true => rfl
            | false => exact i2
          · cases h1
    obtain ⟨h1, h2⟩ := key _ _ h
    cases f : es.toList.find? (·.key.isStr z) with
    | some e =>
      rw [f] at h2
      exact ⟨_, rfl, h2⟩
    | none =>
      rw [f] at h2
      refine ⟨none, ?_, h2⟩
      dsimp only
      rw [h1]
      rfl
  · cases h
def tupB (K : PySem.W.Frag) (a : Addr) (vs : List V) : Bool := match K.lookup a with
  | some o => decide (o.cls = .type "tuple") && (match o.data with
    | .seq its _ => decide (its.size ≤ 1000) && He.relAll vs its.toList
    | _ => false)
  | none => false
theorem tupB_ok {K : PySem.W.Frag} {a : Addr} {vs : List V} (h : tupB K a vs = true) (H : Hp) : SqT K H a vs := by
  unfold tupB at h
  split at h
  · rename_i o q
    obtain ⟨h1, h2⟩ := He.ba h
    split at h2
    · rename_i its n e
      obtain ⟨h3, h4⟩ := He.ba h2
      exact .inr ⟨o, its, n, q, of_decide_eq_true h1, e, Nat.le_trans (of_decide_eq_true h3) (by rw [sizeLine_eq]; decide), He.relAll_ok h4⟩
    · cases h2
  · cases h
/-- what a written tuple names -/
def refsIn (K : PySem.W.Frag) (a : Addr) : List Addr := match K.lookup a with
  | some o => (match o.data with
    | .seq its _ => its.toList.flatMap He.refV
    | _ => [])
  | none => []
/-- the value of a written dict at a key, an object -/
def refOf (K : PySem.W.Frag) (a : Addr) (z : Str) : Addr := match PySem.W.nsIn K a z with
  | some (some (.ref l)) => l
  | _ => 0
def refB (K : PySem.W.Frag) (a : Addr) (z : Str) : Bool := He.eqO (PySem.W.nsIn K a z) (some (some (.ref (refOf K a z))))
/-! ### an error class with one attribute -/
def ercB (K : PySem.W.Frag) (b : Bs) (x f : Str) : Bool := (He.Fa.glo x).ok K && (ecB K b (He.ga K x) && ((He.Fa.meth x "__init__").ok K && (He.Fa.noat x f).ok K))
theorem binds_kw {K : PySem.W.Frag} {x q fl : Str} {params : Arguments} {body : List Stmt} {scope : Scope} {f : Addr} {fd : FuncData} (F : FunD K x q params body scope [] [] f fd)
    (hk : ∀ (kV doc pm : Value) (an : Option Addr) (cdv ct u v : Value), bindArgs (PySem.W.fnOf x q params body scope .none kV doc pm an cdv ct) ⟨[u], [(fl, v)]⟩ = pure [(("self" : Str), u), (fl, v)]) (sh : Shared) (a : Addr) (zs : List Value)
    (hl : zs.length = [fl].length) : BindsTo sh fd ⟨[Value.ref a], [fl].zip zs⟩ (("self" :: [fl] : List Str).zip (Value.ref a :: zs)) := by
  obtain ⟨oc, od, dV, kV, doc, pm, an, cdv, ct, osl, rfl, lk, hcd, hD, hK⟩ := F.ex
  match zs, hl with
  | [v], _ =>
    rcases hD with ⟨_, rfl⟩ | ⟨e, _⟩
    · exact .of_eq (hk kV doc pm an cdv ct _ v)
    · exact absurd rfl e
section
variable {P : Program} {w : World} {K : PySem.W.Frag} {mg : Str → Option Value} {base h : Heap}
theorem erc_of {st : Stmt} {x q fl : Str} {b : Bs} {p1 p2 p3 p4 : Pos} (X : K.In h) (G : h.Ns mainGlobals mg) (e : ercB K b x fl = true) (ok : b.Ok)
    (hF : ∃ fd, FunD K "__init__" q (defArgs st) (defBody st) (defScope st) [] [] (He.ma K (He.ga K x) "__init__") fd) (hbody : defBody st = [.Assign [.Attribute (.Name "self" p1) fl p2] (.Name fl p3) p4])
    (S : FnScope ["self", fl] ["self", fl] (defScope st)) (h0 : (defScope st).names.lookup ("self" : Str) = some .local) (h1 : (defScope st).names.lookup fl = some .local) (hd : (fl == ("__debug__" : Str)) = false) (hcd : (fl == ("__classdict__" : Str)) = false)
    (hp : ∀ (kV doc pm : Value) (an : Option Addr) (cdv ct : Value) (us : List Value), us.length = (["self", fl] : List Str).length → bindArgs (PySem.W.fnOf "__init__" q (defArgs st) (defBody st) (defScope st) .none kV doc pm an cdv ct) ⟨us, []⟩ = pure ((["self", fl] : List Str).zip us))
    (hk : ∀ (kV doc pm : Value) (an : Option Addr) (cdv ct u v : Value), bindArgs (PySem.W.fnOf "__init__" q (defArgs st) (defBody st) (defScope st) .none kV doc pm an cdv ct) ⟨[u], [(fl, v)]⟩ = pure [(("self" : Str), u), (fl, v)]) :
    ErC P w K mg base x fl b (He.ga K x) := by
  obtain ⟨e1, e2⟩ := He.ba e
  obtain ⟨e2, e3⟩ := He.ba e2
  obtain ⟨e3, e4⟩ := He.ba e3
  have m := He.meth_ok e3
  obtain ⟨fd, F⟩ := hF
  refine ⟨He.glo_ok X G e1, ecB_ok ok e2, He.noat_ok e4, _, fd, m.1, beq_iff_eq.mp m.2, ?_, F.bindsN hp, binds_kw F hk⟩
  rw [hbody] at F
  exact init_ok F S h0 h1 hd hcd
end
end L2.Tb
set_option Elab.async false
set_option linter.all false
set_option maxRecDepth 100000
set_option maxHeartbeats 4000000
/-! sorted(..) of tuples of ints of either sign: a list of them, a set of them -/
namespace L2.Tb
open PySem PySem.Spec PyProof.Rows
def Wi (B : Int) (ns : List Int) : Prop := ∀ m ∈ ns, -B ≤ m ∧ m < B
/-- a rank in the tuples' order -/
def rk (B : Int) (ns : List Int) : Int := TS.code (B + B) (ns.map fun m => m + B)
theorem Wi.bd {B : Int} {ns : List Int} (h : Wi B ns) : TS.Bd (B + B) (ns.map fun m => m + B) := fun m hm => by
  obtain ⟨k, hk, rfl⟩ := List.mem_map.mp hm
  have := h k hk
  constructor <;> omega
theorem Wi.rest {B d : Int} {ns : List Int} (h : Wi B (d :: ns)) : Wi B ns := fun m hm => h m (List.mem_cons_of_mem _ hm)
theorem rk_lt {B d e : Int} {u v : List Int} (hl : u.length = v.length) (hu : Wi B u) (hv : Wi B v) (h : d < e) : rk B (d :: u) < rk B (e :: v) :=
  TS.code_lt (d := d + B) (e := e + B) (by rw [List.length_map, List.length_map]; exact hl) hu.bd hv.bd (by omega)
theorem rk_same {B d : Int} {u v : List Int} (hl : u.length = v.length) : rk B (d :: u) < rk B (d :: v) ↔ rk B u < rk B v :=
  TS.code_same (d := d + B) (by rw [List.length_map, List.length_map]; exact hl)
theorem rk_ne {B d e : Int} {u v : List Int} (hl : u.length = v.length) (hu : Wi B u) (hv : Wi B v) (n : d ≠ e) : rk B (d :: u) < rk B (e :: v) ↔ d < e := by
  refine ⟨fun h => ?_, rk_lt hl hu hv⟩
  rcases Int.lt_or_gt_of_ne n with c | c
  · exact c
  · exact absurd (rk_lt hl.symm hv hu c) (Int.not_lt.mpr (Int.le_of_lt h))
/-- the rank tells the tuple -/
theorem rk_inj {B : Int} : ∀ {u v : List Int}, u.length = v.length → Wi B u → Wi B v → rk B u = rk B v → u = v
  | [], [], _, _, _, _ => rfl
  | d :: u, e :: v, hl, hu, hv, h => by
    have hl' : u.length = v.length := by simpa using hl
    by_cases c : d = e
    · subst c
      have t : rk B u = rk B v := by
        rcases Int.lt_trichotomy (rk B u) (rk B v) with z | z | z
        · have := (rk_same (d := d) hl').mpr z
          omega
        · exact z
        · have := (rk_same (d := d) hl'.symm).mpr z
          omega
      rw [rk_inj hl' hu.rest hv.rest t]
    · rcases Int.lt_or_gt_of_ne c with z | z
      · have := rk_lt hl' hu.rest hv.rest z
        omega
      · have := rk_lt hl'.symm hv.rest hu.rest z
        omega
  | [], _ :: _, hl, _, _, _ => by simp at hl
  | _ :: _, [], hl, _, _, _ => by simp at hl
section
variable {P : Program} {w : World} {A : Around} {E : Value → Shared → Prop} {s : Shared}
theorem lexW {Q : Bool → Shared → Prop} {B : Int} {b : Bool} : ∀ {us vs : List Value} {ns ms : List Int} (i : Nat), IntsAre us ns → IntsAre vs ms → ns.length = ms.length → Wi B ns → Wi B ms → Q (decide (rk B ns < rk B ms)) s →
    PySem.W.KatLex P w A b false Q (us.zip vs) i s
  | _, _, _, _, i, .nil, .nil, _, _, _, h => PySem.W.kat_nil (by rw [decide_eq_false (Int.lt_irrefl _)] at h; exact h)
  | _, _, _, _, i, .cons p t a, .cons q u c, hl, w1, w2, h => by
    have l2 := Nat.succ.inj hl
    refine PySem.W.kat_cons (wpAny_eqBool_int ?_)
    by_cases e : p = q
    · rw [e, beq_self_eq_true]
      rw [e, decide_eq_decide.mpr (rk_same l2)] at h
      exact PySem.W.kat_yes (lexW (i + 1) a c l2 w1.rest w2.rest h)
    · rw [beq_eq_false_iff_ne.mpr e]
      rw [decide_eq_decide.mpr (rk_ne l2 w1.rest w2.rest e)] at h
      exact PySem.W.kat_no (TS.oneLt_ints _ h)
  | _, _, _, _, _, .nil, .cons .., hl, _, _, _ => by simp at hl
  | _, _, _, _, _, .cons .., .nil, hl, _, _, _ => by simp at hl
/-- tuples of d ints each -/
def TpsOk (h : Heap) (d : Nat) (B : Int) (vs : List Value) : Prop := ∀ v ∈ vs, ∃ ns, TS.TupInts h v ns ∧ ns.length = d ∧ Wi B ns
theorem TpsOk.keeps {h h' : Heap} {d : Nat} {B : Int} {vs : List Value} (x : TpsOk h d B vs) (k : ∀ b o, h.get? b = some o → o.cls = .type "tuple" → h'.get? b = some o) : TpsOk h' d B vs := fun v hv => by
  obtain ⟨ns, t, q⟩ := x v hv
  exact ⟨ns, t.keeps k, q⟩
theorem heads_of {h : Heap} {d : Nat} {B : Int} (d1 : 1 ≤ d) : ∀ vs : List Value, TpsOk h d B vs → ∃ fs, PySem.W.KatTups h vs fs ∧ fs.length = vs.length ∧ ∀ f ∈ fs, ∃ n t, f = Value.int n t
  | [], _ => ⟨[], .nil, rfl, fun f hf => by cases hf⟩
  | v :: vs, x => by
    obtain ⟨fs, kt, len, all⟩ := heads_of d1 vs fun u hu => x u (List.mem_cons_of_mem _ hu)
    obtain ⟨ns, ⟨a, items, rfl, ⟨ob, g1, g2, m, g3⟩, ia⟩, ln, _⟩ := x v (List.mem_cons_self ..)
    cases e : items.toList with
    | nil =>
      rw [e] at ia
      have z := ia.length
      rw [ln] at z
      exact absurd (z ▸ d1 : 1 ≤ ([] : List Value).length) (by decide)
    | cons y ys =>
      obtain ⟨n, t, ey⟩ := ia.all y (by rw [e]; exact List.mem_cons_self ..)
      have g4 : items[0]? = some y := by rw [← Array.getElem?_toList, e]; rfl
      refine ⟨y :: fs, .cons g1 g2 g3 g4 kt, congrArg Nat.succ len, fun f hf => ?_⟩
      rcases List.mem_cons.mp hf with rfl | hf
      · exact ⟨n, t, ey⟩
      · exact all f hf
theorem kindW {d : Nat} {B : Int} {vs : List Value} (d1 : 1 ≤ d) (two : 2 ≤ vs.length) (x : TpsOk s.heap d B vs) (r : Value → Int) (hr : ∀ v ∈ vs, ∀ ns, TS.TupInts s.heap v ns → r v = rk B ns) (Q : SortKind → Shared → Prop)
    (h : ∀ κ, TS.Cmp P w A s κ (pairsOf vs) r → Q κ s) : wpAny (model P w) A (keyKind' vs.toArray) Q E s := by
  obtain ⟨fs, kt, len, all⟩ := heads_of d1 vs x
  refine PySem.W.kat_kind (T := Value.type "int") kt (by omega) (fun f hf => ?_) rfl (h _ fun p q mp mq Q2 E2 goal => ?_)
  · obtain ⟨n, t, rfl⟩ := all f hf
    exact PySem.W.Looks.of_pure rfl
  · rw [pairsOf_toList] at mp mq
    have m1 := (mem_zip_self mp).2
    have m2 := (mem_zip_self mq).2
    obtain ⟨ns, t1, l1, w1⟩ := x _ m1
    obtain ⟨ms, t2, l2, w2⟩ := x _ m2
    have g : Q2 (decide (rk B ns < rk B ms)) s := by
      rw [← hr _ m1 _ t1, ← hr _ m2 _ t2]
      exact goal
    obtain ⟨a1, i1, e1, ⟨o1, p1, c1, n1, y1⟩, z1⟩ := t1
    obtain ⟨a2, i2, e2, ⟨o2, p2, c2, n2, y2⟩, z2⟩ := t2
    rw [e1, e2]
    refine PySem.W.kat_lt p1 y1 p2 y2 ?_
    have k1 := z1.length
    have k2 := z2.length
    rw [Array.length_toList] at k1 k2
    rw [show decide (i1.size < i2.size) = false from decide_eq_false (by omega)]
    exact lexW 0 z1 z2 (by omega) w1 w2 g
theorem sortW {a : Addr} {vs : List Value} {n d : Nat} {B : Int} {R : PySem.Fin → Shared → Prop} (at_ : s.heap.get? a = some (seqObj "list" vs.toArray n)) (few : vs.length < 64) (d1 : 1 ≤ d) (x : TpsOk s.heap d B vs)
    (r : Value → Int) (hr : ∀ v ∈ vs, ∀ ns, TS.TupInts s.heap v ns → r v = rk B ns)
    (h : ∀ out : Array Value, out.toList.Perm vs → out.toList.Pairwise (fun u v => r u ≤ r v) → R (.done (.ret .none)) { s with heap := sortedHeap s.heap a vs out }) : wpAny (model P w) A (Builtin.«list.sort» ⟨[.ref a], []⟩) R E s := by
  have stay : ∀ b o, s.heap.get? b = some o → o.cls = .type "tuple" → (TS.midHeap s.heap a vs).get? b = some o := fun b o e hc => by
    refine TS.midHeap_old (fun z => ?_) e
    rw [z, at_] at e
    cases e
    have y : Value.type "list" = Value.type "tuple" := hc
    injection y with y
    exact absurd y (by decide)
  refine SK.plain_sort (r := r) at_ few (fun two Q hQ => ?_) fun ps out q1 q2 q3 => ?_
  · refine kindW (s := { s with heap := TS.midHeap s.heap a vs }) d1 two (x.keeps stay) r (fun v hv ns t => ?_) Q hQ
    obtain ⟨ms, t0, _⟩ := x v hv
    rw [t.ints.symm.trans (t0.keeps stay).ints]
    exact hr v hv ms t0
  · obtain ⟨z1, z2⟩ := TS.out_rank q1 q2 q3
    exact h out z1 z2
/-- sorted(xs) of a list -/
theorem sortedW {l : Addr} {vs : List Value} {d : Nat} {B : Int} {Q : Value → Shared → Prop} (hl : s.heap.IsList l vs.toArray) (few : vs.length < 64) (d1 : 1 ≤ d) (x : TpsOk s.heap d B vs)
    (h : ∀ out : Array Value, out.toList.Perm vs → out.toList.Pairwise (fun u v => rk B (TS.intsOf s.heap u) ≤ rk B (TS.intsOf s.heap v)) → Q (.ref (s.heap.objs.size + 1)) { s with heap := sortedAll s.heap vs out }) :
    wpAny (model P w) A (call (.builtin "sorted") [.ref l]) Q E s := by
  have big : vs.length ≤ sizeLine := by rw [sizeLine_eq]; omega
  refine Calls.call_function_entry kind_sorted PyProof.Rows.plain_sorted entry_sorted (args_sorted1 _) ?_
  unfold Builtin.«sorted»
  refine wpAny_bind (m := checkCount "sorted" 1 1 _) (wpAny_pure (wpAny_bind (collect_list hl ?_ big)))
  refine wpAny_bind (wpAny_newList ?_ big)
  let h1 : Heap := (s.heap.push (seqObj "list" #[] 0)).update s.heap.objs.size (Obj.mapSeq (· ++ vs.toArray))
  have z1 : h1.objs.size = s.heap.objs.size + 1 := by
    show ((s.heap.push (seqObj "list" #[] 0)).update s.heap.objs.size (Obj.mapSeq (· ++ vs.toArray))).objs.size = _
    rw [Heap.size_update, size_push']
  have at_ : (h1.push (seqObj "list" vs.toArray 0)).get? (s.heap.objs.size + 1) = some (seqObj "list" vs.toArray 0) := by
    rw [← z1]
    exact Heap.get?_push_size _ rfl
  have stay : ∀ b o, s.heap.get? b = some o → o.cls = .type "tuple" → (h1.push (seqObj "list" vs.toArray 0)).get? b = some o := fun b o e _ => by
    have lt := Heap.lt_size e
    rw [Heap.get?_push_ne _ _ _ (by rw [z1]; exact Nat.ne_of_lt (Nat.lt_succ_of_lt lt))]
    exact (Heap.get?_update_ne _ _ _ _ (Nat.ne_of_lt lt)).trans ((Heap.get?_push_ne _ _ _ (Nat.ne_of_lt lt)).trans e)
  show wpAny _ _ _ _ _ { s with heap := h1.push (seqObj "list" vs.toArray 0) }
  have z2 : ({ s with heap := h1 } : Shared).heap.objs.size = s.heap.objs.size + 1 := z1
  refine wpAny_bind (wpAny_holding ?_)
  show wpAny (model P w) A.in1 (call (.builtin "list.sort") [.ref h1.objs.size]) _ _ { s with heap := h1.push (seqObj "list" vs.toArray 0) }
  rw [z1]
  refine wpAny_call_entry slot_list_sort ⟨_, at_, rfl⟩ entry_list_sort (sortW at_ few d1 (x.keeps stay) (fun v => rk B (TS.intsOf s.heap v)) (fun v hv ns t => ?_) fun out a1 a2 => ⟨_, rfl, ?_⟩) (args_list_sort _)
  · obtain ⟨ms, t0, _⟩ := x v hv
    show rk B (TS.intsOf s.heap v) = rk B ns
    rw [t0.ints, ← (t0.keeps stay).ints, t.ints]
  · show wpAny _ _ (pure _) _ _ _
    exact wpAny_pure ⟨_, rfl, h out a1 a2⟩
end
/-! ### as rules -/
theorem perm_back {α β : Type} {f : α → β} {l m : List β} (h : l.Perm m) : ∀ ks : List α, m = ks.map f → ∃ L : List α, L.Perm ks ∧ l = L.map f := by
  induction h with
  | nil => exact fun ks e => ⟨ks, .refl _, e⟩
  | cons x _ ih =>
    intro ks e
    cases ks with
    | nil => cases e
    | cons k ks =>
      rw [List.map_cons] at e
      injection e with e1 e2
      obtain ⟨L, p, q⟩ := ih ks e2
      exact ⟨k :: L, p.cons k, by rw [List.map_cons, ← q, e1]⟩
  | swap x y l =>
    intro ks e
    match ks, e with
    | k1 :: k2 :: ks, e =>
      rw [List.map_cons, List.map_cons] at e
      injection e with e1 e2
      injection e2 with e2 e3
      exact ⟨k2 :: k1 :: ks, .swap .., by rw [List.map_cons, List.map_cons, ← e1, ← e2, ← e3]⟩
  | trans _ _ i1 i2 =>
    intro ks e
    obtain ⟨L, p, q⟩ := i2 ks e
    obtain ⟨M, p2, q2⟩ := i1 L q
    exact ⟨M, p2.trans p, q2⟩
/-- addresses of tuples of d ints -/
def Tps (K : PySem.W.Frag) (H : Hp) (d : Nat) (B : Int) (ks : List (Addr × List Int)) : Prop := ∀ p ∈ ks, SqT K H p.1 (p.2.map V.int) ∧ p.2.length = d ∧ Wi B p.2
def rSortW (K : PySem.W.Frag) (d : Nat) (B : Int) : List V → Hp → VK → Prop := fun vs H Q => ∃ (a : Addr) (ks : List (Addr × List Int)), vs = [.ref a] ∧ SqL K H a (ks.map fun p => V.ref p.1) ∧ ks.length < 64 ∧ Tps K H d B ks ∧
  ∀ (L : List (Addr × List Int)) (p : Addr), L.Perm ks → L.Pairwise (fun q r => rk B q.2 ≤ rk B r.2) → H p = none → Q (.ref p) (upd H p (.lst (L.map fun q => V.ref q.1)))
theorem ranks {B : Int} {h : Heap} {L ks : List (Addr × List Int)} {out : List Value} (e : out = L.map fun q => Value.ref q.1) (pm : L.Perm ks) (tk : ∀ q ∈ ks, TS.TupInts h (.ref q.1) q.2)
    (pw : out.Pairwise (fun u v => rk B (TS.intsOf h u) ≤ rk B (TS.intsOf h v))) : L.Pairwise (fun q r => rk B q.2 ≤ rk B r.2) := by
  subst e
  refine List.Pairwise.imp_of_mem (fun {q r} hq hr z => ?_) (List.pairwise_map.mp pw)
  rw [(tk q (pm.mem_iff.mp hq)).ints, (tk r (pm.mem_iff.mp hr)).ints] at z
  exact z
theorem cr_sortW {X : Cx} {d : Nat} {B : Int} (d1 : 1 ≤ d) : CallR X (.builtin "sorted") (rSortW X.K d B) := by
  intro pins s σ H vs us Q I r h
  obtain ⟨a, ks, rfl, hs, few, tp, q⟩ := h
  obtain ⟨its, rv, pl, _⟩ := I.list hs
  rw [Vals.ref1 r]
  have ei : its = ks.map fun p => Value.ref p.1 := refs_of_vals rv
  have tk : ∀ p ∈ ks, TS.TupInts s.heap (.ref p.1) p.2 := fun p hp => tupI_raw I (tp p hp).1
  refine sortedW (d := d) (B := B) pl.isList (by rw [ei, List.length_map]; exact few) d1 (fun v hv => ?_) fun out a1 a2 => ?_
  · rw [ei] at hv
    obtain ⟨p, hp, rfl⟩ := List.mem_map.mp hv
    exact ⟨p.2, tk p hp, (tp p hp).2⟩
  · obtain ⟨L, pm, e⟩ := perm_back a1 ks ei
    obtain ⟨ep, at_⟩ := PyProof.Rows.sortedAll_at s.heap its out
    refine ⟨.ref _, upd H (s.heap.objs.size + 1) (.lst (L.map fun q => V.ref q.1)), I.laid (t' := s.toks) (fun _ _ => PyProof.Rows.sortedAll_old) (Nat.le_succ _) ⟨?_, out.toList, ep, ?_, at_⟩, rfl, q L _ pm (ranks e pm tk a2) (I.hok.fresh (Nat.le_succ _))⟩
    · rw [List.length_map, pm.length_eq, sizeLine_eq]
      omega
    · rw [e]
      exact vals_of_refs L
/-- sorted of a set -/
def rSortWS (K : PySem.W.Frag) (P : Program) (w : World) (d : Nat) (B : Int) : List V → Hp → VK → Prop := fun vs H Q => ∃ (a : Addr) (ks : List (Addr × List Int)), vs = [.ref a] ∧ H a = some (SetTO P w a ks) ∧ Tps K H d B ks ∧
  ∀ (L : List (Addr × List Int)) (p : Addr), L.Perm ks → (L.map (·.2)).Nodup → L.length < 64 → L.Pairwise (fun q r => rk B q.2 ≤ rk B r.2) → H p = none → Q (.ref p) (upd H p (.lst (L.map fun q => V.ref q.1)))
theorem sortedWS {P : Program} {w : World} {A : Around} {E : Value → Shared → Prop} {s : Shared} {a : Addr} {ks : List (Addr × List Int)} {es : Array (Int × Value)} {ep : Nat} {t : SetTable} {Q : Value → Shared → Prop} {d : Nat} {B : Int} (R : SetTR P w s.heap a ks es ep t) (hh : A.handled = none)
    (d1 : 1 ≤ d) (hB : ∀ p ∈ ks, p.2.length = d ∧ Wi B p.2)
    (q : ∀ s2 p (out : Array Value) (c : Nat) (L : List (Addr × List Int)), (∀ b o, s.heap.get? b = some o → s2.heap.get? b = some o) → s2.gens = s.gens → s2.os = s.os → s.heap.objs.size ≤ p →
      s2.heap.get? p = some (seqObj "list" out c) → out.toList = L.map (fun z => Value.ref z.1) → L.Perm ks → L.Pairwise (fun y z => rk B y.2 ≤ rk B z.2) → Q (.ref p) s2) : wpAny (model P w) A (call (.builtin "sorted") [.ref a]) Q E s := by
  obtain ⟨o, g1, g2, g3⟩ := R.ob
  have few := R.few
  have sz := R.size
  refine Calls.call_function_entry kind_sorted PyProof.Rows.plain_sorted entry_sorted (args_sorted1 _) ?_
  unfold Builtin.«sorted»
  refine wpAny_bind (m := checkCount "sorted" 1 1 _) (wpAny_pure (wpAny_bind (collect_set (A := A.in1) hh ⟨o, g1, g2.1, g3⟩ R.fits (by unfold scanBound; omega) R.tab.ris R.led fun s1 vs k1 up gg oo pm => ?_)))
  have vals : es.toList.map (·.2) = ks.map fun z => Value.ref z.1 := by
    rw [R.rows]
    unfold rowsOf
    rw [List.map_map]
    rfl
  rw [vals] at pm
  obtain ⟨M, pM, eM⟩ := perm_back pm ks rfl
  have lM : vs.length < 64 := by rw [eM, List.length_map, pM.length_eq]; exact few
  refine wpAny_bind (wpAny_newList ?_ (by rw [sizeLine_eq]; omega))
  have at_ : (s1.heap.push (seqObj "list" vs.toArray 0)).get? s1.heap.objs.size = some (seqObj "list" vs.toArray 0) := Heap.get?_push_size _ rfl
  have tk : ∀ z ∈ ks, TS.TupInts (s1.heap.push (seqObj "list" vs.toArray 0)) (.ref z.1) z.2 := fun z hz => tupInts_of (P := P) (w := w) (isT_keep (R.tup z hz) fun b u e => Heap.get?_push_of_some _ (k1 b u e))
  have okM : TpsOk (s1.heap.push (seqObj "list" vs.toArray 0)) d B vs := fun v hv => by
    rw [eM] at hv
    obtain ⟨z, hz, rfl⟩ := List.mem_map.mp hv
    have hk := pM.mem_iff.mp hz
    exact ⟨z.2, tk z hk, hB z hk⟩
  refine wpAny_bind (wpAny_holding (wpAny_call_entry slot_list_sort ⟨_, at_, rfl⟩ entry_list_sort (sortW (s := { s1 with heap := s1.heap.push (seqObj "list" vs.toArray 0) }) at_ lM d1 okM (fun v => rk B (TS.intsOf (s1.heap.push (seqObj "list" vs.toArray 0)) v)) (fun v hv ns t => by
    show rk B (TS.intsOf (s1.heap.push (seqObj "list" vs.toArray 0)) v) = rk B ns
    rw [t.ints]) fun out a1 a2 => ⟨_, rfl, ?_⟩) (args_list_sort _)))
  obtain ⟨c, hc⟩ := sortedHeap_at (vs := vs) (out := out) at_
  obtain ⟨L, pL, eL⟩ := perm_back a1 M eM
  refine wpAny_pure ⟨_, rfl, q _ s1.heap.objs.size out c L (fun b u e => ?_) gg oo up hc eL (pL.trans pM) (ranks eL (pL.trans pM) tk a2)⟩
  have e1 := k1 b u e
  have lt := Heap.lt_size e1
  show (sortedHeap (s1.heap.push (seqObj "list" vs.toArray 0)) s1.heap.objs.size vs out).get? b = some u
  rw [sortedHeap_old (Nat.ne_of_lt lt) (by rw [size_push']; exact Nat.lt_succ_of_lt lt)]
  exact Heap.get?_push_of_some _ e1
theorem cr_sortWS {X : Cx} {d : Nat} {B : Int} (hc : X.calm = true) (d1 : 1 ≤ d) : CallR X (.builtin "sorted") (rSortWS X.K X.prog X.w d B) := by
  intro pins s σ H vs us Q I r h
  obtain ⟨a, ks, rfl, ha, tp, q⟩ := h
  have R0 : SetT0 X.prog X.w s.heap a ks := (I.hok a _ ha).1
  obtain ⟨es, ep, t, R⟩ := R0.full fun p hp => I.isT (tp p hp).1
  rw [Vals.ref1 r]
  refine sortedWS R (I.ok.hd hc) d1 (fun p hp => (tp p hp).2) fun s2 p out c L k gg oo up at_ eo pm pw => ?_
  have few : L.length < 64 := pm.length_eq ▸ R.few
  have nw : H p = none := I.hok.fresh up
  have len : (L.map fun z => V.ref z.1).length ≤ sizeLine := by
    rw [List.length_map, sizeLine_eq]
    omega
  have vl : Vals (L.map fun z => V.ref z.1) out.toList := eo ▸ vals_of_refs L
  have es2 : s2 = { s with heap := s2.heap, gens := s2.gens, drawn := s2.drawn, toks := s2.toks } := by
    obtain ⟨_, _, _, _, _⟩ := s2
    obtain ⟨_, _, _, _, _⟩ := s
    cases oo
    rfl
  have J : Inv X pins σ (upd H p (.lst (L.map fun z => V.ref z.1))) { s with heap := s2.heap, gens := s2.gens, drawn := s2.drawn, toks := s2.toks } :=
    I.call (ch := []) (Un.laid k up nw) (I.hok.laid k up ⟨len, out.toList, c, vl, at_⟩) (by rw [gg]; exact I.bare) (fun _ z => nomatch z)
  rw [es2]
  exact ⟨.ref p, _, J, rfl, q L p pm ((pm.map (·.2)).nodup_iff.mpr R.nd) few pw nw⟩
end L2.Tb
set_option Elab.async false
set_option linter.all false
set_option maxRecDepth 100000
set_option maxHeartbeats 4000000
/-! {e for x in ..}, e a tuple of ints -/
namespace L2.Tb
open PySem PySem.Spec PySem.Calls PyProof.Rows PpSet
section
variable {P : Program} {w : World} {A : Around} {E : Value → Shared → Prop} {s : Shared} {a x : Addr} {k : List Int} {L : List (Addr × List Int)}
/-- what L becomes by k at x -/
def Added (L L2 : List (Addr × List Int)) (x : Addr) (k : List Int) : Prop := (k ∈ L.map (·.2) → L2 = L) ∧ (k ∉ L.map (·.2) → L2.Perm ((x, k) :: L))
theorem setT_add {es : Array (Int × Value)} {ep : Nat} {t : SetTable} {Q : Value → Shared → Prop} (R : SetTR P w s.heap a L es ep t) (kx : IsT P w s.heap k x) (hu : A.units + 3 < cLine) (few : L.length + 1 < 64)
    (q : ∀ h2 tk L2 es2 ep2 t2, Heap.SameBut a s.heap h2 → SetTR P w h2 a L2 es2 ep2 t2 → Added L L2 x k → Q .none { s with heap := h2, toks := tk }) : wpAny (model P w) A (call (.builtin "set.add") [.ref a, .ref x]) Q E s := by
  obtain ⟨o, g1, g2, g3⟩ := R.ob
  refine wpAny_call_entry F.slot_set_add ⟨o, g1, g2.1⟩ F.entry_set_add ?_ (F.args_set_add_2 _ _)
  unfold Builtin.«set.add» Builtin.Frozenset.oneOther
  simp only [List.isEmpty_nil, bind_assoc]
  unfold Builtin.Frozenset.addrOf setAdd
  refine wpAny_bind (wpAny_pure ?_)
  try dsimp only
  refine wpAny_bind (wpAny_pure ?_)
  try dsimp only
  refine wpAny_bind (wpAny_holding (wpAny_bind (wpAny_pyHash_tuple (by first | exact Nat.lt_of_le_of_lt (Nat.le_add_right _ 3) hu | (show A.units + 1 < cLine; omega) | (show A.units + 2 < cLine; omega)) kx ?_)))
  refine add_at (s := { s with toks := s.toks + (k.length + 1) }) R kx (by first | exact Nat.lt_of_le_of_lt (Nat.le_add_right _ 3) hu | (show A.units + 1 < cLine; omega) | (show A.units + 2 < cLine; omega)) few fun b h2 L2 es2 ep2 t2 sb R2 c1 c2 => ?_
  show wpAny _ _ (ret Value.none) _ _ _
  exact wpAny_pure ⟨_, rfl, q h2 _ L2 es2 ep2 t2 sb R2 ⟨c1, c2⟩⟩
end
section
variable {X : Cx}
theorem addT_ok {pins : List (Addr × Obj)} {σ : L2.St} {H : Hp} {s : Shared} {E : Value → Shared → Prop} {D x : Addr} {k : List Int} {L : List (Addr × List Int)} {Q : Value → Shared → Prop} (I : Inv X pins σ H s) (hD : H D = some (SetTO X.prog X.w D L))
    (tp : ∀ p ∈ L, SqT X.K H p.1 (p.2.map V.int)) (hx : SqT X.K H x (k.map V.int)) (hu : X.A.units + 64 < cLine) (few : L.length + 1 < 64)
    (q : ∀ s2 L2, Added L L2 x k → Inv X pins σ (upd H D (SetTO X.prog X.w D L2)) s2 → Q .none s2) : wpAny (model X.prog X.w) X.A (call (.builtin "set.add") [.ref D, .ref x]) Q E s := by
  have R0 : SetT0 X.prog X.w s.heap D L := (I.hok D _ hD).1
  obtain ⟨es, ep, t, R⟩ := R0.full fun p hp => I.isT (tp p hp)
  refine setT_add R (I.isT hx) (by omega) few fun h2 tk L2 es2 ep2 t2 sb R2 ad => ?_
  have there : ∃ u, h2.get? D = some u := by
    obtain ⟨u, e, _⟩ := R2.ob
    exact ⟨u, e⟩
  exact q _ L2 ad (I.write (e := D) (t' := tk) (by rw [hD]; trivial) (.inl rfl) (fun b u hb hu => (sb.2 b hb).trans hu) there (setTO_new R2.t0))
/-- one turn's wish: the new element joins -/
def joins (P : Program) (w : World) (K : PySem.W.Frag) (D : Addr) (Nx : Hp → Prop) : V → Hp → Prop := fun y H => ∃ (x : Addr) (k : List Int) (L : List (Addr × List Int)), y = .ref x ∧ SqT K H x (k.map V.int) ∧ H D = some (SetTO P w D L) ∧ (∀ p ∈ L, SqT K H p.1 (p.2.map V.int)) ∧ L.length + 1 < 64 ∧
  ∀ L2, Added L L2 x k → Nx (upd H D (SetTO P w D L2))
def tScT (P : Program) (w : World) (K : PySem.W.Frag) (wi : TI) (g : TG) (tt : TT) (te : TE) (vs : List Nat) : TE := fun σ H Q => wi σ H fun J H1 => ∀ D, H1 D = none → ∃ W : Nat → Nat → Hp → Prop, (∃ m, W 0 m (upd H1 D (SetTO P w D []))) ∧ ∀ i m G, W i m G →
  (J.stop i G ∧ Q (.ref D) G) ∨ (J.go i G ∧ ∃ Nx : Hp → Prop, (∀ G2, Nx G2 → ∃ m2, m2 < m ∧ W (i + 1) m2 G2) ∧ ∀ x G2, J.yld i G x G2 → g x (wipe σ vs) G2 fun σ2 G3 => wipe σ2 vs = wipe σ vs ∧ tt σ2 G3 fun b G4 => if b = true then te σ2 G4 (joins P w K D Nx) else Nx G4)
theorem pe_scT {elt tg iter : Expr} {ifs : List Expr} {scope : Scope} {own : List (PySem.Str × Nat)} {pos : Pos} {wi : TI} {g : TG} {tt : TT} {te : TE} (calm : X.calm = true) (nd : X.N.Nodup) (hu : X.A.units + 64 < cLine) (walk : PI X tg iter wi) (ok : BlkOk X.N X.env.scope scope own)
    (hg : ∀ (s : Shared) (H : Hp) (C : Addr) (cl : List (PySem.Str × Addr)) (fp : List Addr), PG (X.blk s H scope (compEnvC scope cl C X.env) fp) tg g) (ht : ∀ (s : Shared) (H : Hp) (C : Addr) (cl : List (PySem.Str × Addr)) (fp : List Addr), PTs (X.blk s H scope (compEnvC scope cl C X.env) fp) ifs tt)
    (he : ∀ (s : Shared) (H : Hp) (C : Addr) (cl : List (PySem.Str × Addr)) (fp : List Addr), PE (X.blk s H scope (compEnvC scope cl C X.env) fp) elt te) (fs : ∀ x, foldedSetIterable iter X.env x = pure x := by intro _; rfl) :
    PE X (.SetComp elt [⟨tg, iter, ifs, 0⟩] scope pos) (tScT X.prog X.w X.K wi g tt te (own.map (·.2))) := by
  refine ⟨fun pins s σ H Q I h => ?_⟩
  rw [eval_SetComp]
  have caps : ∀ y ∈ scope.names, y.2 = .free → ∃ c, X.env.cells.lookup y.1 = some c := fun y my ey =>
    (ok.free y my ey).elim (fun z => I.ok.has _ (.inl z)) fun z => I.ok.has _ (.inr z)
  refine wpAny_comprehension_free (use := none) rfl fs (closure_ok caps) ok.kind (fun y my ey => by rw [ok.uniq y my, ey]) (thn (walk.run pins s σ H _ I h) fun xv sa ha => thn ha fun itv sb hb => ?_)
  obtain ⟨it, fp, tn, J, Hb, e0, Ib, T, stb, fpb, q⟩ := hb
  subst e0
  refine newSet_ok (newEnv_comp ?_)
  generalize dD : sb.heap.objs.size = D
  have newD : Hb D = none := Ib.hok.fresh (Nat.le_of_eq dD)
  obtain ⟨W, ⟨m0, w0⟩, turn⟩ := q D newD
  let emp : Obj := { cls := .type "set", dict := none, data := .set #[] 0 (.fresh 0 0 (!X.w.params.followText "set-order")) }
  generalize dsc : ({ sb with heap := sb.heap.push emp } : Shared) = sc
  have hsc : sc.heap = sb.heap.push emp := by rw [← dsc]
  have Ic : Inv X pins σ (upd Hb D (SetTO X.prog X.w D [])) sc := by
    rw [← dsc, ← dD]
    refine Ib.laid (t' := sb.toks) (fun b o e => Heap.get?_push_of_some _ e) (Nat.le_refl _) (setTO_new (SetTR.t0 (setTR_fresh (Heap.get?_push_size _ rfl))))
  have small : ∀ b ∈ fp, b < sb.heap.objs.size := fun b mb => by
    obtain ⟨o, e, _⟩ := T.obj _ _ stb b mb
    exact Heap.lt_size e
  have fpc : ∀ b ∈ fp, FpOk X pins (upd Hb D (SetTO X.prog X.w D [])) b ∧ b < sc.heap.objs.size := fun b mb => by
    have lt := small b mb
    have nb : b ≠ D := by rw [← dD]; exact Nat.ne_of_lt lt
    exact ⟨⟨(upd_ne nb).trans (fpb b mb).1, (fpb b mb).2⟩, by rw [hsc, Heap.size_push]; exact Nat.lt_succ_of_lt lt⟩
  have stc : tn 0 sc.heap := T.keep _ _ _ stb fun b _ o e => by rw [hsc]; exact Heap.get?_push_of_some _ e
  have Id := block_start Ic ok nd fpc
  let cl := cellsFrom (sc.heap.objs.size + 1) scope.names (cloFrom X.env.cells scope.names [])
  have pg := hg sc (upd Hb D (SetTO X.prog X.w D [])) sc.heap.objs.size cl fp
  have pt := ht sc (upd Hb D (SetTO X.prog X.w D [])) sc.heap.objs.size cl fp
  have pe := he sc (upd Hb D (SetTO X.prog X.w D [])) sc.heap.objs.size cl fp
  show codeAny _ _ (.compStart (.SetComp elt [⟨tg, iter, ifs, 0⟩] scope pos) 0 (.ref it) (.ref D) (compEnvC scope cl sc.heap.objs.size X.env)) (compPost (model X.prog X.w) X.A X.xe none _ (.ref D) sc.heap.objs.size) { sc with heap := pushCells (sc.heap.push { cls := .type "dict", data := .dict #[] }) scope.names }
  have fpn : ∀ b ∈ fp, (upd Hb D (SetTO X.prog X.w D [])) b = none := fun b mb => (fpc b mb).1.1
  generalize dce : compEnvC scope cl sc.heap.objs.size X.env = ce at Id pg pt pe ⊢
  have loc : ce.locals = sc.heap.objs.size := by rw [← dce]; rfl
  generalize dHc : upd Hb D (SetTO X.prog X.w D []) = Hc at Ic Id pg pt pe w0 fpn fpc
  generalize dsd : ({ sc with heap := pushCells (sc.heap.push { cls := .type "dict", data := .dict #[] }) scope.names } : Shared) = sd at Id ⊢
  have std : tn 0 sd.heap := T.keep _ _ _ stc fun b _ o e => by rw [← dsd]; exact pushCells_keeps _ _ _ _ (Heap.get?_push_of_some _ e)
  have stays : ∀ {σ2 : L2.St} {G : Hp} {z : Shared}, Inv (X.blk sc Hc scope ce fp) [] σ2 G z → (∀ b ∈ fp, G b = none) → ∀ b ∈ fp, FpOk (X.blk sc Hc scope ce fp) [] G b := fun {σ2 G z} Iz nz b mb =>
    ⟨nz b mb, (Iz.ok.exf b mb).1, Iz.ok.exfs b mb, .inl mb, fun x c e => (Iz.ok.exf b mb).2 x c e, fun p mp => by cases mp⟩
  refine codeAny_compStart_set ?loop (T.self X.A 0 _ _ _ std ?loop)
  case loop =>
    refine compLoopS_any (fun n z => ∃ i G, Inv (X.blk sc Hc scope ce fp) [] (wipe σ (own.map (·.2))) G z ∧ tn i z.heap ∧ (∀ b ∈ fp, G b = none) ∧ W i n G) ?_ m0 ⟨0, Hc, Id, std, fpn, w0⟩
    rintro n se ⟨i, He, Ie, ste, fpe, we⟩
    rcases turn i n He we with ⟨halt, fin⟩ | ⟨goes, Nx, nxt, body⟩
    · refine thnF (T.done (X.blk sc Hc scope ce fp) rfl rfl rfl calm i [] se _ He (fun _ _ => False) Ie (stays Ie fpe) ste halt) fun r sf ⟨er, If⟩ => ?_
      subst er
      have Ig : Inv X pins σ He sf := Ic.call' (ch := fp) If.os If.base If.hok If.bare fun b mb => ⟨(fpc b mb).1.2.2.2.1, (fpc b mb).1.2.1, (fpc b mb).1.2.2.2.2.1, (fpc b mb).1.2.2.2.2.2⟩
      have nC : He sc.heap.objs.size = none := loc ▸ (show He ce.locals = none from If.free)
      obtain ⟨mm, hn, _⟩ := If.loc
      have hn : sf.heap.Ns sc.heap.objs.size mm := loc ▸ (show sf.heap.Ns ce.locals mm from hn)
      obtain ⟨y0, y1, y2, y3, y4, y5⟩ := Ic.fpOk (Nat.le_refl _) nC
      exact ⟨mm, hn, fun h3 sm => ⟨.ref D, He, Ig.turned (t' := sf.toks) (fun b o nb e => (sm.2 b nb).trans e) y0 y1 y3 y4 y5, rfl, fin⟩⟩
    · refine thnF (T.item (X.blk sc Hc scope ce fp) rfl rfl rfl calm i [] se _ He (fun _ _ => False) Ie (stays Ie fpe) ste goes) fun r sf ⟨u, er, hf⟩ => ?_
      subst er
      refine thnF hf fun _ sg ⟨x, Hg, Ig, rg, yg, stg, ng⟩ => ?_
      have Ip := Ig.pinned (stays Ig ng) (T.obj _ _ stg)
      refine thnF (pg.run _ sg _ Hg x u _ Ip rg (body x Hg yg)) fun _ sh ⟨σh, Hh, Ih, wh, qh⟩ => ?_
      refine thnF (pt.run _ sh σh Hh _ Ih qh) fun b si ⟨Hi, Ii, qi⟩ => ?_
      have close : ∀ {z : Shared} {G : Hp}, Inv (X.blk sc Hc scope ce fp) ([] ++ pinsAt fp sg.heap) σh G z → Nx G → ∃ m, m < n ∧ ∃ i G, Inv (X.blk sc Hc scope ce fp) [] (wipe σ (own.map (·.2))) G z ∧ tn i z.heap ∧ (∀ b ∈ fp, G b = none) ∧ W i m G := fun {z G} Iz nx => by
        obtain ⟨m2, lm, w2⟩ := nxt G nx
        have pin : ∀ b ∈ fp, ∀ o, sg.heap.get? b = some o → z.heap.get? b = some o ∧ G b = none := fun b mb o e => by
          have y := Iz.pin (b, o) (List.mem_append_right _ (List.mem_append_right _ (mem_pinsAt mb e)))
          exact ⟨y.1, y.2.1⟩
        refine ⟨m2, lm, i + 1, G, (Iz.unpinned (pins := [])).weak (by rw [← wh, wipe_length]) (fun j v e => ?_), T.keep _ _ _ stg fun b mb o e => (pin b mb o e).1, fun b mb => ?_, w2⟩
        · rw [← wh] at e
          exact (wipe_some e).1
        · obtain ⟨o, e, _⟩ := T.obj _ _ stg b mb
          exact (pin b mb o e).2
      cases b with
      | false =>
        simp only [Bool.false_eq_true, if_false] at qi ⊢
        exact close Ii qi
      | true =>
        simp only [if_true] at qi ⊢
        refine thnF (pe.run _ si σh Hi _ Ii qi) fun z sj ⟨yv, Hj, Ij, rj, xa, kk, L, ey, hx, hD, tp, few, nx⟩ => ?_
        subst ey
        cases (show z = Value.ref xa from rj)
        exact addT_ok (X := X.blk sc Hc scope ce fp) Ij hD tp hx hu few fun sk L2 ad Ik => close Ik (nx L2 ad)
end
/-- over a tuple that stands -/
theorem scT_tup {P : Program} {w : World} {K : PySem.W.Frag} {a : Addr} {xs : List V} {g : TG} {tt : TT} {te : TE} {vs : List Nat} {σ : L2.St} {H1 : Hp} {D : Addr} {Qd : Hp → Prop} (Pv : Nat → Hp → Prop) (h0 : Pv 0 (upd H1 D (SetTO P w D []))) (hl : ∀ i H, i ≤ xs.length → Pv i H → SqT K H a xs)
    (hs : ∀ i x H, xs[i]? = some x → Pv i H → g x (wipe σ vs) H fun σ2 H2 => wipe σ2 vs = wipe σ vs ∧ tt σ2 H2 fun b H3 => if b = true then te σ2 H3 (joins P w K D (Pv (i + 1))) else Pv (i + 1) H3) (hd : ∀ H, Pv xs.length H → Qd H) :
    ∃ W : Nat → Nat → Hp → Prop, (∃ m, W 0 m (upd H1 D (SetTO P w D []))) ∧ ∀ i m G, W i m G →
      ((Itt K a).stop i G ∧ Qd G) ∨ ((Itt K a).go i G ∧ ∃ Nx : Hp → Prop, (∀ G2, Nx G2 → ∃ m2, m2 < m ∧ W (i + 1) m2 G2) ∧ ∀ x G2, (Itt K a).yld i G x G2 → g x (wipe σ vs) G2 fun σ2 G3 => wipe σ2 vs = wipe σ vs ∧ tt σ2 G3 fun b G4 => if b = true then te σ2 G4 (joins P w K D Nx) else Nx G4) := by
  refine ⟨fun i m G => m + i = xs.length ∧ Pv i G, ⟨xs.length, rfl, h0⟩, fun i m G ⟨em, p⟩ => ?_⟩
  have st := hl i G (by omega) p
  rcases Nat.lt_or_ge i xs.length with lt | ge
  · refine .inr ⟨⟨xs, xs[i], st, List.getElem?_eq_getElem lt⟩, Pv (i + 1), fun G2 p2 => ⟨m - 1, by omega, by omega, p2⟩, fun x G2 y => ?_⟩
    obtain ⟨e, y⟩ := y
    subst e
    exact hs i x _ (y xs st) p
  · have e : i = xs.length := by omega
    exact .inl ⟨⟨xs, st, by omega⟩, hd G (e ▸ p)⟩
end L2.Tb
set_option Elab.async false
set_option linter.all false
set_option maxRecDepth 100000
set_option maxHeartbeats 4000000
/-! calls of defs that ask for an unguarded stack; o.m(k = v) -/
namespace L2.Tb
open PySem PySem.Spec PyProof.Rows
/-- a def that keeps its promise where nothing is guarded (repr of lists and tuples asks that) -/
structure CalG (P : Program) (w : World) (K : PySem.W.Frag) (mg : Str → Option Value) (base : Heap) (k : Nat) (x : Str) (sp : Sp) : Prop where
  ex : ∃ (f : Addr) (fd : FuncData) (ps : List Str), (∀ vs H Q E, sp vs H Q E → vs.length = ps.length) ∧ (∀ A, Room k A → A.guards = some [] → RunsAt P w K mg base f fd ps sp A) ∧ mg x = some (.ref f) ∧ PySem.W.keepIn K (.ref f) = true ∧ Binds K fd ps []
section
variable {P : Program} {w : World} {K : PySem.W.Frag} {mg : Str → Option Value} {base : Heap} {x : Str} {st : Stmt} {f : Addr} {fd : FuncData} {N ps : List Str} {k : Nat} {sp : Sp}
theorem Cal.g (c : Cal P w K mg base k x sp) : CalG P w K mg base k x sp := by
  obtain ⟨f, fd, ps, F, a, b, d⟩ := c.ex
  exact ⟨f, fd, ps, F.len, fun A hr _ outer s H args us vs Q E e0 hb r _ h => F.run A outer s H args us vs Q E hr e0 hb r h, a, b, d⟩
theorem calG_mk (F : FnP K x st f fd) (hm : mg x = some (.ref f)) (S : FnScope N ps (defScope st))
    (hb : ∀ (kV doc pm : Value) (an : Option Addr) (cdv ct : Value) (us : List Value), us.length = ps.length → bindArgs (PySem.W.fnOf x x (defArgs st) (defBody st) (defScope st) .none kV doc pm an cdv ct) ⟨us, []⟩ = pure (ps.zip us))
    (len : ∀ vs H Q E, sp vs H Q E → vs.length = ps.length)
    (hbody : ∀ (cdv : Value) (A : Around) (outer : List Env) (s : Shared) (H : Hp) (vs : List V) (Q : VK) (E : XK), (A.deeper (envOfC x (defScope st) s.heap.objs.size f cdv)).guards = some [] → Room k (A.deeper (envOfC x (defScope st) s.heap.objs.size f cdv)) → sp vs H Q E →
      ∃ t, PSs (cxOf L2.CX0 P w K mg base N x (defScope st) f cdv A outer s H E).nox (defBody st) t ∧ t { nx := fun _ H' => Q .non H', rt := Q } (start N vs) H) : CalG P w K mg base (k + 1) x sp :=
  ⟨f, fd, ps, len, fun A hr hg => runs_body F S hr fun cdv outer s H vs Q E hr2 h => let ⟨t, a, b⟩ := hbody cdv A outer s H vs Q E hg hr2 h; ⟨t, a.nox, b⟩, hm, F.kp, F.bindsN hb⟩
/-- .. its code object known -/
theorem calG_mkC {at_ : Str × Option Str} (F : FnP K x st (He.fAd K at_) fd) (hm : mg x = some (.ref (He.fAd K at_))) (S : FnScope N ps (defScope st))
    (hb : ∀ (kV doc pm : Value) (an : Option Addr) (cdv ct : Value) (us : List Value), us.length = ps.length → bindArgs (PySem.W.fnOf x x (defArgs st) (defBody st) (defScope st) .none kV doc pm an cdv ct) ⟨us, []⟩ = pure (ps.zip us))
    (len : ∀ vs H Q E, sp vs H Q E → vs.length = ps.length)
    (hbody : ∀ (cdv : Value) (A : Around) (outer : List Env) (s : Shared) (H : Hp) (vs : List V) (Q : VK) (E : XK), cdv = .ref (He.codeOf K at_) → (A.deeper (envOfC x (defScope st) s.heap.objs.size (He.fAd K at_) cdv)).guards = some [] → Room k (A.deeper (envOfC x (defScope st) s.heap.objs.size (He.fAd K at_) cdv)) → sp vs H Q E →
      ∃ t, PSs (cxOf L2.CX0 P w K mg base N x (defScope st) (He.fAd K at_) cdv A outer s H E).nox (defBody st) t ∧ t { nx := fun _ H' => Q .non H', rt := Q } (start N vs) H) : CalG P w K mg base (k + 1) x sp := by
  refine ⟨_, fd, ps, len, fun A hr hg => ?_, hm, F.kp, F.bindsN hb⟩
  obtain ⟨oc, od, dV, kV, doc, pm, an, cdv, ct, osl, rfl, lk, hcd, _, _⟩ := id F.ex
  obtain ⟨c, rfl⟩ := He.codeIn_ref hcd
  have hc : (Value.ref c) = .ref (He.codeOf K at_) := by rw [He.codeOf_eq lk rfl]
  intro outer s H args us vs Q E e0 hbd r hl hsp
  refine LamX.run_ofS (CX := L2.CX0) (Q := Q) (E := E) (N := N) lk hcd S hr e0 hbd r hl fun hr2 => ?_
  obtain ⟨t, a, b⟩ := hbody _ A outer s H vs Q E hc hg hr2 hsp
  exact ⟨t, a.nox, b⟩
end
section
variable {X : Cx} {k j : Nat} {x : Str} {sp : Sp} {p pos : Pos} {e : Expr} {es : List Expr} {t : TA}
theorem pe_calG (c : CalG X.prog X.w X.K X.mg X.base k x sp) (hr : Room j X.A) (hk : k ≤ j) (free : X.A.guards = some []) (hg : Gl X x) (ha : PA X (e :: es) t)
    (hdb : (x == ("__debug__" : Str)) = false := by decide) (he : starEach (e :: es) X.env = (false, eval e X.env) :: starEach es X.env := by rfl) (hpl : (backTo pos (starEach es X.env)).any (·.1) = false := by rfl) :
    PE X (.Call (.Name x p) (e :: es) [] pos) (tCall sp [] E0 t) := by
  obtain ⟨f, fd, ps, len, R, hm, kp, b⟩ := c.ex
  refine ⟨fun pins s σ H Q I h => wpAny_Call_Name_kw (ld_glob I hg hm (PySem.W.callWith_K (h₀ := X.base) I.ok.mod.kin kp (thn (ha.run pos pins s σ H _ I h) fun us s1 hh => ?_) he hpl) hdb)⟩
  obtain ⟨vs, H1, I1, r, q⟩ := hh
  rw [List.append_nil] at q
  have hl := len _ _ _ _ q
  refine ⟨I1.kIn, wpAny_call (codeAny_mono (R X.A (hr.mono hk) free X.stack s1 H1 ⟨us, []⟩ us vs Q E0 I1.env0 ?_ r hl q) fun r2 s2 z => ?_)⟩
  · have y := b s1 us I1.kIn (by rw [List.append_nil, ← r.length]; exact hl)
    rw [List.append_nil] at y
    exact y
  · match r2, z with
    | .error e, z => exact pass0 pins σ H1 s1 e s2 I1 z
    | .ok (.ret u), z => exact I1.after z
end
section
variable {X : Cx} {CX : CXT} {k : Nat} {C f : Addr} {fd : FuncData} {ps ks : List Str} {sp : Sp} {E : XK} {o : Expr} {kws : List Keyword} {m : Str} {pos apos : Pos} {ta : TE} {tk : TA} {pl : Sem Bool}
def tMethK (C : Addr) (m : Str) (sp : Sp) (E : XK) (ta : TE) (tk : TA) : TE := fun σ H Q => ta σ H fun x H1 => ∃ a dx fs, x = .ref a ∧ H1 a = some (.ins C dx fs) ∧ fs.lookup m = none ∧ tk σ H1 fun zs H2 => sp (.ref a :: zs) H2 Q E
/-- o.m(k = v, ..), all of m's parameters by name -/
theorem pe_methK (he : PE X o ta) (c : Cls X.K C) (hm : Meth X.K C m f) (F : FnOk X.prog X.w X.K X.mg X.base CX k f fd ps sp) (hr : Room k X.A) (hx : Passes CX X E) (hkw : PK X kws tk) (hl : ps.length = ks.length + 1)
    (hb : ∀ (sh : Shared) (a : Addr) (zs : List Value), zs.length = ks.length → BindsTo sh fd ⟨[.ref a], ks.zip zs⟩ (ps.zip (Value.ref a :: zs)))
    (hall : (backToKw pos (keywordEach kws X.env)).all (·.1.isSome) = true := by rfl) (hks : (backToKw pos (keywordEach kws X.env)).filterMap (·.1) = ks := by rfl)
    (hpl : ((backTo pos (starEach [] X.env)).any (·.1) || (backToKw pos (keywordEach kws X.env)).any (·.1.isNone)) = false := by rfl)
    (ht : eval (.Call (.Attribute o m apos) [] kws pos) X.env = (do
      let ov ← eval o X.env
      standAt apos.atName
      let (f, first) ← holding [ov] (getMethod ov m pl)
      callWith pos f first (backTo pos (starEach [] X.env)) (backToKw pos (keywordEach kws X.env))) := by rfl) :
    PE X (.Call (.Attribute o m apos) [] kws pos) (tMethK C m sp E ta tk) := by
  refine ⟨fun pins s σ H Q I h => PySem.W.methodCall_KW (pl := pl) (thn (he.run pins s σ H _ I h) fun u s1 hh => ?_) ht⟩
  obtain ⟨x, H1, I1, rx, a, dx, fs, ex, ea, lk, q⟩ := hh
  subst ex
  obtain rfl : u = Value.ref a := rx
  refine getmeth_ok I1 ea c hm lk (PySem.W.callWith_KW0 (h₀ := X.base) (first := [.ref a]) I.ok.mod.kin hm.kp hall (thn (hkw.run pos _ s1 σ H1 _ I1 q) fun ws s2 hh => ?_) hpl)
  obtain ⟨zs, H2, I2, rz, q2⟩ := hh
  refine ⟨I2.kIn, ?_⟩
  rw [hks]
  have hw : ws.length = ks.length := by
    have z := F.len _ _ _ _ q2
    rw [List.length_cons, hl] at z
    rw [← rz.length]
    omega
  refine wpAny_call (codeAny_mono (F.run X.A X.stack s2 H2 ⟨[.ref a], ks.zip ws⟩ (.ref a :: ws) (.ref a :: zs) Q E hr I2.env0 (hb s2 a ws hw) (.cons rfl rz) q2) fun r s3 z => ?_)
  match r, z with
  | .error e, z => exact hx pins σ H2 s2 e s3 I2 z
  | .ok (.ret u2), z => exact I2.after z
end
end L2.Tb
set_option Elab.async false
set_option linter.all false
set_option maxRecDepth 100000
set_option maxHeartbeats 4000000
/-! x in t, x not in t: t a tuple of data of any depth -/
namespace L2.Tb
open PySem PySem.Spec PyProof.Rows
variable {X : Cx}
def rInDT (K : PySem.W.Frag) (neg : Bool) : R2 := fun x y H Q => ∃ d ds, Dp K H x d ∧ Dp K H y (.tuple ds) ∧ SeqAt.shaped d = true ∧ SeqAt.shaped (.tuple ds) = true ∧ Q (.bl (if neg = true then !(ds.any fun z => PyData.eqv z d) else ds.any fun z => PyData.eqv z d)) H
theorem room_inDT {A : Around} {ds : List PyData} {d : PyData} (sd : SeqAt.shaped d = true) (hu : A.units + 65 < cLine) : A.units + 1 + min (PyData.depthAll ds) d.depth < cLine := by
  have h := SeqAt.depth_of_shaped sd
  have h2 := Nat.min_le_right (PyData.depthAll ds) d.depth
  omega
theorem op_inDT (hu : X.A.units + 65 < cLine) : OpR X (compareOp .In) (rInDT X.K false) := by
  intro pins s σ H x y v u Q I rx ry h
  obtain ⟨d, ds, hd, he, sd, se, q⟩ := h
  obtain ⟨as, r1⟩ := Dp.reads I d x v hd rx
  obtain ⟨bs, r2⟩ := Dp.reads I (.tuple ds) y u he ry
  exact SeqAt.in_tuple_reads r2 r1 (by simpa only [PyData.canLay0] using SeqAt.canLay_of_shaped se) (SeqAt.canLay_of_shaped sd) (room_inDT sd hu) ⟨.bl _, H, I, rfl, q⟩
theorem op_notInDT (hu : X.A.units + 65 < cLine) : OpR X (compareOp .NotIn) (rInDT X.K true) := by
  intro pins s σ H x y v u Q I rx ry h
  obtain ⟨d, ds, hd, he, sd, se, q⟩ := h
  obtain ⟨as, r1⟩ := Dp.reads I d x v hd rx
  obtain ⟨bs, r2⟩ := Dp.reads I (.tuple ds) y u he ry
  exact SeqAt.notIn_tuple_reads r2 r1 (by simpa only [PyData.canLay0] using SeqAt.canLay_of_shaped se) (SeqAt.canLay_of_shaped sd) (room_inDT sd hu) ⟨.bl _, H, I, rfl, q⟩
end L2.Tb
set_option Elab.async false
set_option linter.all false
set_option maxRecDepth 100000
set_option maxHeartbeats 4000000
/-! for z in d: d a dict of the head with text keys -/
namespace L2.Tb
open PySem PySem.Spec PyProof.Rows RZ
def Ikd (ks : List Str) : It := ⟨fun i _ => i < ks.length, fun i H x H' => H' = H ∧ ∃ z, ks[i]? = some z ∧ x = .str z, fun i _ => ks.length ≤ i⟩
structure KeysAt (K : PySem.W.Frag) (w : World) (d : Addr) (ks : List Str) : Prop where
  ex : ∃ es n, KDict K w d es n ∧ es.toList.map keyS = ks.map some
theorem keys_at {K : PySem.W.Frag} {w : World} {d : Addr} {ks : List Str} {es : Array DictEntry} {n : Nat} (h : keysB K d ks = true) (D : KDict K w d es n) : KeysAt K w d ks := by
  refine ⟨es, n, D, ?_⟩
  unfold keysB at h
  rw [D.at_] at h
  exact of_decide_eq_true h
section
variable {P : Program} {w : World} {K : PySem.W.Frag} {tg : Expr} {d : Addr} {es : Array DictEntry} {n : Nat} {ks : List Str}
theorem turn_kd (it : Addr) (D : KDict K w d es n) (hk : es.toList.map keyS = ks.map some) : Turn P w K tg (Ikd ks) [it] it (fun i h => h.IsKeyIter it d i ks.length n) where
  mem := by simp
  obj := fun i h st b hb => by
    have e : b = it := by simpa using hb
    subst e
    obtain ⟨oi, e, c, dd⟩ := st
    exact ⟨oi, e, fun v z => by rw [dd] at z; cases z⟩
  keep := fun i h h' st k => st.at fun oi e => k it (by simp) oi e
  item := by
    intro X hP hw hK hc i pins s σ H E I hf st hi
    subst hP hw hK
    obtain ⟨f0, f1, f2, f3, f4, f5⟩ := hf it (by simp)
    have hgd := I.kIn _ _ D.at_
    have hsz : es.size = ks.length := by
      have := congrArg List.length hk
      simpa using this
    have hi2 : i < ks.length := hi
    obtain ⟨en, hen, z, t, ek, ez⟩ : ∃ en, es[i]? = some en ∧ ∃ z t, en.key = .str z t ∧ ks[i]? = some z := by
      have hi3 : i < es.size := by omega
      refine ⟨es[i], Array.getElem?_eq_getElem hi3, ?_⟩
      have h := congrArg (fun l : List (Option Str) => l[i]?) hk
      rw [List.getElem?_map, List.getElem?_map, Array.getElem?_toList, Array.getElem?_eq_getElem hi3, List.getElem?_eq_getElem hi2] at h
      simp only [Option.map_some, Option.some.injEq] at h
      unfold keyS at h
      split at h
      · rename_i z t e
        injection h with h
        exact ⟨z, t, e, by rw [List.getElem?_eq_getElem hi2, h]⟩
      · cases h
    refine next_key_item st hgd rfl hsz hen fun h' st' sb => ?_
    have I1 : Inv X pins σ H { s with heap := h' } := I.turned (t' := s.toks) (fun b ob hb e => (sb.2 b hb).trans e) f0 f1 f3 f4 f5
    obtain ⟨oi, e, c, dd⟩ := id st'
    exact ⟨en.key, rfl, go_of (s := { s with heap := h' }) e c dd (by decide) ⟨.str z, H, I1, ⟨t, ek⟩, ⟨rfl, z, ez, rfl⟩, st', fun b hb => (hf b hb).1⟩⟩
  done := by
    intro X hP hw hK hc i pins s σ H E I hf st hi
    subst hP hw hK
    obtain ⟨f0, f1, f2, f3, f4, f5⟩ := hf it (by simp)
    have hgd := I.kIn _ _ D.at_
    have hsz : es.size = ks.length := by
      have := congrArg List.length hk
      simpa using this
    exact next_key_end (I.ok.hd hc) st hgd rfl hsz hi fun h' eb => ⟨rfl, I.turned (t' := s.toks) (fun b ob hb e => eb b ob hb e) f0 f1 f3 f4 f5⟩
  self := fun A i s Q E st h => wpAny_pyIter_keyiter st h
end
def iKd (ks : List Str) (d : Addr) (td : TE) : TI := fun σ H R => td σ H fun x H1 => x = .ref d ∧ R (Ikd ks) H1
theorem pi_kd {X : Cx} {tg e : Expr} {td : TE} {d : Addr} {ks : List Str} (A : KeysAt X.K X.w d ks) (he : PE X e td) : PI X tg e (iKd ks d td) := by
  obtain ⟨es, n, D, hk⟩ := A.ex
  refine ⟨fun pins s σ H R I h => ?_⟩
  refine thn (he.run pins s σ H _ I h) fun u s1 ⟨x, H1, I1, rx, ex, q⟩ => ?_
  subst ex
  obtain rfl : u = Value.ref d := rx
  have hsz : es.size = ks.length := by
    have := congrArg List.length hk
    simpa using this
  refine iter_keys D.low (I1.kIn _ _ D.at_) ⟨rfl, rfl, rfl⟩ rfl (pi_one (tk := s1.toks) I1 _ (turn_kd _ D hk) ⟨_, Heap.get?_push_size _ rfl, rfl, ?_⟩ q)
  rw [hsz] <;> rfl
/-- a walk over its keys -/
theorem walk_kd {ks : List Str} : Walk (Ikd ks) ks.length (fun _ => True) (fun i H v H' => H' = H ∧ ∃ z, ks[i]? = some z ∧ v = .str z) := by
  refine ⟨fun i _ hi _ => hi, fun _ _ => Nat.le_refl _, fun i H v H' _ _ y => y⟩
end L2.Tb
set_option Elab.async false
set_option linter.all false
set_option maxRecDepth 100000
set_option maxHeartbeats 4000000
/-! x op y by the own method of x's class, y of the same class -/
namespace L2.Tb
open PySem PySem.Spec PyProof.Rows
section
variable {X : Cx} {CX : CXT} {C f : Addr} {fd : FuncData} {ps : List Str} {sp : Sp} {k : Nat} {op : Operator}
def rOwnBin (C : Addr) (sp : Sp) : R2 := fun x y H Q => ∃ (a dx : Addr) (fs : List (Str × V)) (c dy : Addr) (gs : List (Str × V)), x = .ref a ∧ y = .ref c ∧ H a = some (.ins C dx fs) ∧ H c = some (.ins C dy gs) ∧ sp [.ref a, .ref c] H Q E0
theorem op_ownBin (F : FnOk X.prog X.w X.K X.mg X.base CX k f fd ps sp) (hr : Room k X.A) (hc : PySem.W.selfFirst X.K C = true) (hs : PySem.W.findIn X.K (.ref C) (PySem.dunder op.info.2) = some (some (.ref f))) (hf : PySem.W.isFn X.K (.ref f) = true) (hb : Binds X.K fd ps []) (hx : Passes CX X E0) :
    OpR X (binaryOp op) (rOwnBin C sp) := by
  intro pins s σ H x y v u Q I rx ry h
  obtain ⟨a, dx, fs, c, dy, gs, rfl, rfl, ea, ec, h⟩ := h
  obtain rfl : v = Value.ref a := rx
  obtain rfl : u = Value.ref c := ry
  obtain ⟨mA, O, _⟩ := ins_get I.hok ea
  obtain ⟨od, J, _⟩ := O.look
  obtain ⟨mC, O2, _⟩ := ins_get I.hok ec
  obtain ⟨od2, J2, _⟩ := O2.look
  obtain ⟨m, hF⟩ := I.fr
  have hl := F.len _ _ _ _ h
  refine PySem.W.binop_K hF I.ok.mod.kin J J2.type hc hs hf (wpAny_call (codeAny_mono (F.run X.A X.stack s H ⟨[.ref a, .ref c], []⟩ [.ref a, .ref c] [.ref a, .ref c] _ E0 hr I.env0 (by
    have z := hb s [.ref a, .ref c] I.kIn (by simpa using hl)
    simpa using z) (.cons rfl (.cons rfl .nil)) h) fun r s' hq => ?_))
  match r, hq with
  | .error e, hq => exact hx pins σ H s e s' I hq
  | .ok (.ret u2), hq =>
    obtain ⟨v2, H', I', rv, q⟩ := I.after hq
    exact cmp_back rv ⟨v2, H', I', rv, q⟩
end
end L2.Tb
set_option Elab.async false
set_option linter.all false
set_option maxRecDepth 100000
set_option maxHeartbeats 4000000
/-! y in x by an own __contains__; bool(x) by an own __bool__; o.f as a target among others; s * n -/
namespace L2.Tb
open PySem PySem.Spec PyProof.Rows
section
variable {X : Cx} {C f : Addr} {fd : FuncData} {ps : List Str} {sp : Sp} {k : Nat}
def rOwnIn (C : Addr) (sp : Sp) : R2 := fun v y H Q => ∃ (a dx : Addr) (fs : List (Str × V)), y = .ref a ∧ H a = some (.ins C dx fs) ∧ sp [.ref a, v] H (fun r H' => ∃ b, r = .bl b ∧ Q (.bl b) H') E0
theorem op_ownIn (F : FnOk X.prog X.w X.K X.mg X.base L2.CX0 k f fd ps sp) (hr : Room k X.A) (hs : PySem.W.findIn X.K (.ref C) "__contains__" = some (some (.ref f))) (hf : PySem.W.isFn X.K (.ref f) = true) (hb : Binds X.K fd ps []) : OpR X (compareOp .In) (rOwnIn C sp) := by
  intro pins s σ H x y v u Q I rx ry h
  obtain ⟨a, dx, fs, rfl, ea, h⟩ := h
  obtain rfl : u = Value.ref a := ry
  obtain ⟨mA, O, _⟩ := ins_get I.hok ea
  obtain ⟨od, J, _⟩ := O.look
  obtain ⟨m, hF⟩ := I.fr
  have hl := F.len _ _ _ _ h
  refine PySem.W.in_K hF I.ok.mod.kin J hs hf (wpAny_call (codeAny_mono (F.run X.A X.stack s H ⟨[.ref a, v], []⟩ [.ref a, v] [.ref a, x] _ E0 hr I.env0 (by
    have z := hb s [.ref a, v] I.kIn (by simpa using hl)
    simpa using z) (.cons rfl (.cons rx .nil)) h) fun r s' hq => ?_))
  match r, hq with
  | .error e, hq => exact hq.elim
  | .ok (.ret u), hq =>
    obtain ⟨v2, H', I', rv, b, ev, q⟩ := I.after hq
    rw [ev] at rv
    obtain rfl : u = Value.bool b := rv
    exact wpAny_truthy_bool ⟨.bl b, H', I', rfl, q⟩
def rBoolOwn (C : Addr) (sp : Sp) : List V → Hp → VK → Prop := fun xs H Q => ∃ (a dx : Addr) (fs : List (Str × V)), xs = [.ref a] ∧ H a = some (.ins C dx fs) ∧ sp [.ref a] H (fun v H' => ∃ b, v = .bl b ∧ Q (.bl b) H') E0
end
section
variable {prog : Program} {w : World} {A : Around} {E : Value → Shared → Prop} {s : Shared} {K : PySem.W.Frag} {x C L f : Addr} {h₀ : Heap} {m : Str → Option Value} {ox : Obj} {od : Option Obj}
theorem kbo_call {Q : Value → Shared → Prop} (F : PyProof.Rows.Fr h₀ L s.heap m) (X₀ : K.In h₀) (I : PySem.W.InstAt s.heap x ox C od) (hs : PySem.W.findIn K (.ref C) "__bool__" = some (some (.ref f))) (hf : PySem.W.isFn K (.ref f) = true)
    (h : wpAny (model prog w) A.in1.in1 (call (.ref f) [.ref x]) (PySem.W.BoolBack fun b s' => Q (.bool b) s') E s) : wpAny (model prog w) A (call (.type "bool") [.ref x]) Q E s := by
  refine callType_codes (T := "bool") (Bi := Builtin.«object.__init__») (Q₁ := fun r s₁ => ∃ b, r = .bool b ∧ Q r s₁) PySem.F.called_bool (PySem.F.typeCall_bool_1 _) PySem.F.entry_object_init ?_ ?_
  · refine codeAny_of_tree ?_
    show wpAny _ A.in1.in1 (do checkBuiltinCall "bool.__new__" ⟨[.type "bool", .ref x], []⟩; again (.builtin "bool.__new__" ⟨[.type "bool", .ref x], []⟩)) _ _ s
    refine wpAny_bind (wpAny_of_eq (PySem.F.newCall_bool_1 _) (wpAny_pure ⟨plainId_quiet (by decide +kernel) _, codeAny_builtin PySem.F.entry_bool_new ?_⟩))
    rw [Around.under_plainId (by decide +kernel) _]
    have key := PySem.W.truthy_K (M := model prog w) (A := A.in1.in1) (E := E) (Q := fun b s' => ∃ b', Value.bool b = .bool b' ∧ Q (.bool b) s') F X₀ I hs hf (wpAny_mono h (fun r s1 hr => by cases r <;> first | exact hr.elim | exact ⟨_, rfl, hr⟩) fun _ _ y => y)
    obtain ⟨hp, g, dr, tk, os⟩ := s
    have f1 := PySem.F.conv_sub_bool
    repeat (any_goals (first | assumption | (with_reducible refine wpAny_mono key (fun b s1 hb => ?_) (fun e s1 he => ?_)) | wp_step))
    all_goals first | exact hb | exact he | skip
  · rintro obj s₁ ⟨b, rfl, hq⟩
    exact ⟨PySem.typeIs_bool _ _, PySem.F.args_object_init_2 _ _, object_init_meets PySem.F.called_bool.init.lookup PySem.F.called_bool.made (by decide) prog w A.in1 _ s₁ ⟨PySem.typeIs_bool _ _, rfl, hq⟩⟩
end
section
variable {X : Cx}
/-- o.f = .., as a target among others -/
def gFld (K : PySem.W.Frag) (to : TE) (f : Str) : TG := fun v σ H Q => to σ H fun x H1 => ∃ a C dx fs, x = .ref a ∧ H1 a = some (.ins C dx fs) ∧ Cls K C ∧ NoAttr K C f ∧ fs.length < 1000 ∧ Q σ (upd H1 a (.ins C dx (putF f v fs)))
theorem pg_fld {o : Expr} {to : TE} {f : Str} {pos : Pos} (ho : PE X o to) (ha : ∀ v, assign (.Attribute o f pos) X.env v = (do
      let ov ← holding [v] (eval o X.env)
      standAt pos.atName
      holding [v, ov] (setAttr ov f v)
      release [v, ov] []) := by intro _; rfl) : PG X (.Attribute o f pos) (gFld X.K to f) := by
  refine ⟨fun pins s σ H v u Q I r h => ?_⟩
  rw [ha]
  refine wpAny_bind (wpAny_holding (thn (ho.run pins s σ H _ I h) fun ov s1 ⟨x, H1, I1, r1, a, C, dx, fs, ex, ea, c, n, l, q⟩ => ?_))
  subst ex
  obtain rfl : ov = Value.ref a := r1
  exact wpAny_bind (wpAny_standAt (wpAny_bind (wpAny_holding (setattr_ok I1 ea c n l r fun s3 I3 => wpAny_release ⟨σ, _, I3, q⟩))))
def rMulS : R2 := fun x y H Q => ∃ (z : Str) (n : Nat), x = .str z ∧ y = .int (n : Int) ∧ 1 ≤ n ∧ z.length ≠ 0 ∧ n ≤ 1000 ∧ z.length ≤ 1000 ∧ Q (.str ⟨((List.replicate n z.cps.toList).flatten).toArray⟩) H
theorem rep_arr (z : Array Nat) : ∀ (n : Nat) (a : Array Nat), ((List.replicate n z).foldl (· ++ ·) a).toList = a.toList ++ (List.replicate n z.toList).flatten
  | 0, a => by simp
  | n + 1, a => by
    rw [List.replicate_succ, List.foldl_cons, rep_arr z n (a ++ z), List.replicate_succ, List.flatten_cons, Array.toList_append, List.append_assoc]
theorem op_mulS : OpR X (binaryOp .Mult) rMulS := by
  intro pins s σ H x y v u Q I rx ry h
  obtain ⟨z, n, rfl, rfl, n1, z1, nb, zb, q⟩ := h
  obtain ⟨t, rfl⟩ := (show ∃ t, v = Value.str z t from rx)
  obtain ⟨t', rfl⟩ := (show ∃ t', u = Value.int (n : Int) t' from ry)
  have hlt : ¬ (n : Int) < 1 := by omega
  have mul : z.length * n ≤ 1000 * 1000 := Nat.mul_le_mul zb nb
  have eq1 : (⟨(List.replicate n z.cps).foldl (· ++ ·) #[]⟩ : Str) = ⟨((List.replicate n z.cps.toList).flatten).toArray⟩ := by
    congr 1
    apply Array.toList_inj.mp
    rw [rep_arr]
    simp
  refine P.mul_str ?_ (fun _ _ => ?_) (fun _ _ => ?_) ?_
  · rw [decide_eq_false (by omega), decide_eq_false (by omega)]
    rfl
  · have d : (1000 : Int) ≤ (2 ^ 63 - 1) / (n : Int) := by
      refine Int.le_ediv_of_mul_le (by omega) ?_
      omega
    omega
  · rw [Int.toNat_natCast]
    have : sizeLine = 16777216 := sizeLine_eq
    simp only [Builtin.Str.tooLong, decide_eq_false_iff_not]
    omega
  · rw [if_neg hlt]
    by_cases c : ((n : Int) == 1 || z.length == 0) = true
    · rw [if_pos c]
      have n1' : n = 1 := by
        rcases (Bool.or_eq_true _ _).mp c with c | c
        · have := beq_iff_eq.mp c
          omega
        · exact absurd (beq_iff_eq.mp c) z1
      subst n1'
      refine ⟨.str z, H, I, ⟨_, rfl⟩, ?_⟩
      simpa using q
    · rw [if_neg c]
      refine ⟨?_, ?_⟩
      · rw [Int.toNat_natCast, eq1]
        have e : (⟨((List.replicate n z.cps.toList).flatten).toArray⟩ : Str).length = n * z.length := by
          show ((List.replicate n z.cps.toList).flatten).toArray.size = _
          rw [List.size_toArray, List.length_flatten, List.map_replicate, List.sum_replicate_nat]
          rfl
        rw [e, Nat.mul_comm, sizeLine_eq]
        omega
      · rw [Int.toNat_natCast, eq1]
        exact ⟨.str _, H, I.tok _, ⟨_, rfl⟩, q⟩
/-- bool(x) -/
theorem call_boolOwn {C f : Addr} {fd : FuncData} {ps : List Str} {sp : Sp} {k : Nat} (F : FnOk X.prog X.w X.K X.mg X.base L2.CX0 k f fd ps sp) (hr : Room (k + 2) X.A) (hs : PySem.W.findIn X.K (.ref C) "__bool__" = some (some (.ref f))) (hf : PySem.W.isFn X.K (.ref f) = true) (hb : Binds X.K fd ps []) : CallR X (.type "bool") (rBoolOwn C sp) := by
  intro pins s σ H xs us Q I r h
  obtain ⟨a, dx, fs, rfl, ea, h⟩ := h
  rw [Vals.ref1 r]
  obtain ⟨mA, O, _⟩ := ins_get I.hok ea
  obtain ⟨od, J, _⟩ := O.look
  obtain ⟨m, hF⟩ := I.fr
  have r2 : Room k X.A.in1.in1 := hr.in1.in1
  have hl := F.len _ _ _ _ h
  refine kbo_call hF I.ok.mod.kin J hs hf (wpAny_call (codeAny_mono (F.run X.A.in1.in1 X.stack s H ⟨[.ref a], []⟩ [.ref a] [.ref a] _ E0 r2 I.env0.in1.in1 (by
    have z := hb s [.ref a] I.kIn (by simpa using hl)
    simpa using z) (.cons rfl .nil) h) fun r s' hq => ?_))
  match r, hq with
  | .error e, hq => exact hq.elim
  | .ok (.ret u), hq =>
    obtain ⟨v, H', I', rv, b, ev, q⟩ := I.after hq
    rw [ev] at rv
    obtain rfl : u = Value.bool b := rv
    exact ⟨.bl b, H', I', rfl, q⟩
end
end L2.Tb
set_option Elab.async false
set_option linter.all false
set_option maxRecDepth 100000
set_option maxHeartbeats 8000000
namespace L2.K33
open PySem PySem.Spec PyProof.Rows L2.Tb
open SX (S)
/-! ### the text by places -/
def top (i : Nat) : Stmt := PySem.Challenge.pw_thirdback_k33_whole_ways_to_each_index.main.body.getD i (.Pass ⟨0, 0, 0, 0⟩)
/-- the built-ins' names -/
structure Bt (mg : Str → Option Value) : Prop where
  m_len : mg "len" = none
  m_int : mg "int" = none
  m_abs : mg "abs" = none
  m_divmod : mg "divmod" = none
  m_isinstance : mg "isinstance" = none
  m_tuple : mg "tuple" = none
  m_list : mg "list" = none
  m_bool : mg "bool" = none
  m_all : mg "all" = none
  m_zip : mg "zip" = none
  m_range : mg "range" = none
  m_max : mg "max" = none
  m_min : mg "min" = none
  m_enumerate : mg "enumerate" = none
  m_repr : mg "repr" = none
  m_sorted : mg "sorted" = none
  m_ValueError : mg "ValueError" = none
  m_LookupError : mg "LookupError" = none
  m_ArithmeticError : mg "ArithmeticError" = none
abbrev s_cell : Stmt := top 47
abbrev N_cell : List Str := ["_law_cells", "_law_k", "_law_seed", "_law_cell_here"]
theorem sc_cell : FnScope N_cell ["_law_cells", "_law_k"] (defScope s_cell) := ⟨rfl, rfl, rfl, by decide +kernel, rfl, by decide +kernel, by decide +kernel⟩
abbrev s_purse : Stmt := top 48
abbrev N_purse : List Str := ["_law_cell_here", "_law_digits"]
theorem sc_purse : FnScope N_purse ["_law_cell_here"] (defScope s_purse) := ⟨rfl, rfl, rfl, by decide +kernel, rfl, by decide +kernel, by decide +kernel⟩
abbrev s_draw : Stmt := top 49
abbrev N_draw : List Str := ["_law_purse_here", "_law_many", "_law_state", "_law_digit"]
theorem sc_draw : FnScope N_draw ["_law_purse_here", "_law_many"] (defScope s_draw) := ⟨rfl, rfl, rfl, by decide +kernel, rfl, by decide +kernel, by decide +kernel⟩
/-! ### promises -/
abbrev iBits := Builtin.Int.intBits
def spCell (K : PySem.W.Frag) : Sp := fun vs H Q _ => ∃ (a : Addr) (ns : List Int) (k : Nat), vs = [.ref a, .int (k : Int)] ∧ SqL K H a (ns.map V.int) ∧ (∀ n ∈ ns, iBits n ≤ 1048576) ∧ k ≤ 64 ∧
  ∀ (z : Int) (H' : Hp), Same H H' → iBits z ≤ 1048576 → Q (.int z) H'
def spPurse : Sp := fun vs H Q _ => ∃ z : Int, vs = [.int z] ∧ iBits z ≤ 1048576 ∧ ∀ (p : Addr) (H' : Hp), Same H H' → H p = none → Purse H' p → Q (.ref p) H'
def spDraw : Sp := fun vs H Q _ => ∃ (p : Addr) (m : Int), vs = [.ref p, .int m] ∧ Purse H p ∧ 0 < m ∧ m < 2 ^ 200 ∧ ∀ (d : Int) (H' : Hp), 0 ≤ d → d < m → SameB p H H' → Purse H' p → Q (.int d) H'
section
variable {P : Program} {w : World} {K : PySem.W.Frag} {mg : Str → Option Value} {base : Heap} {f : Addr} {fd : FuncData}
theorem bits31 {z : Int} (h0 : 0 ≤ z) (h1 : z < 2147483648) : iBits z ≤ 1048576 := Nat.le_trans (PyProof.Rows.intBits_le (k := 31) (by omega)) (by decide)
theorem mem_map_int {ns : List Int} {i : Nat} {y : V} (h : (ns.map V.int)[i]? = some y) : ∃ u, y = V.int u ∧ u ∈ ns := by
  rw [List.getElem?_map] at h
  cases e : ns[i]? with
  | none =>
    rw [e] at h
    cases h
  | some u =>
    rw [e] at h
    exact ⟨u, (Option.some.inj h).symm, List.mem_of_getElem? e⟩
theorem c_cell (T : Bt mg) (F : FnP K "_law_cell" s_cell f fd) (hm : mg "_law_cell" = some (.ref f)) : Cal P w K mg base 1 "_law_cell" (spCell K) := by
  have hnd := sc_cell.nd
  refine cal_mk F hm sc_cell (fun _ _ _ _ _ _ us hl => match us, hl with | [_, _], _ => rfl) (fun vs H Q E h => ?_) (fun cdv A outer s H vs Q E hr h => ?_)
  · obtain ⟨a, ns, k, rfl, _⟩ := h
    rfl
  · obtain ⟨a, ns, k, rfl, hS, hb, hk, q⟩ := h
    refine ⟨_, (pss_cons (ps_if (pt_cmpR op_lt (pv 1) (pe_callB call_len_seq (by rfl) T.m_len (by decide +kernel) (pa_cons (pv 0) pa_nil)) (nomark _))
      (pss_one (ps_ret (pe_ix (show IxR _ (rIxL K) from ix_list) (pv 0) (pv 1) (fun _ _ => rfl))))
      pss_nil)
      (pss_cons (ps_set (i := 2) hnd rfl (by first | exact Or.inl rfl | exact Or.inr rfl) (pe_op op_add pe_int (pe_op op_mul (pe_op op_mul pe_int (pv 1)) (pv 1))))
      (pss_cons (ps_for PassesOwn.never (by rfl) (pi_list (pe_slice sl_list (pv 0) po_none (po_some pe_int))) (pg_name (i := 3) hnd rfl (by first | exact Or.inl rfl | exact Or.inr rfl))
      (pss_one (ps_set (i := 2) hnd rfl (by first | exact Or.inl rfl | exact Or.inr rfl) (pe_op op_mod (pe_callTy call_int1 (by rfl) T.m_int (by decide +kernel) (pa_cons (pe_op op_add (pe_op op_mul (pv 2) pe_int) (pv 3)) pa_nil)) pe_int))))
      (pss_one (ps_ret (pv 2)))))), ?_⟩
    refine ⟨_, rfl, _, rfl, a, _, rfl, .inl hS, _, _, rfl, rfl, _, rfl, ite2 (fun hlt => ?_) (fun hge => ?_)⟩
    · have hl : k < ns.length := by
        have z := of_decide_eq_true hlt
        rw [List.length_map] at z
        omega
      refine ⟨_, rfl, _, rfl, a, _, _, .int (ns[k]), rfl, rfl, hS, atI_nat (by simp [hl]), ?_⟩
      exact q _ _ (Same.refl _) (hb _ (List.getElem_mem ..))
    · refine ⟨_, rfl, _, _, rfl, rfl, .inl ⟨by decide, by decide⟩, _, rfl, _, _, rfl, rfl, .inr ⟨by omega, by omega⟩, _, _, rfl, rfl, ?_⟩
      refine ⟨_, rfl, _, rfl, a, _, rfl, hS, fun p np => ?_⟩
      refine ⟨p, rfl, ⟨_, SqL.of upd_same⟩, for_list (K := K) (a := p) (xs := cutV (ns.map V.int) none (some 3)) (fun i σ H' => ∃ (z : Int) (v : Option V), σ = [some (.ref a), some (.int k), some (.int z), v] ∧ H' = upd H p (.lst (cutV (ns.map V.int) none (some 3))) ∧ 0 ≤ z ∧ z < 2147483648)
        ⟨_, none, rfl, rfl, ?_, ?_⟩ (fun i σ H' _ ⟨_, _, _, e, _⟩ => by rw [e]; exact SqL.of upd_same) ?_ ?_⟩
      · have : (0 : Int) ≤ 617 * k * k := Int.mul_nonneg (Int.mul_nonneg (by omega) (by omega)) (by omega)
        omega
      · have h1 : (k : Int) * k ≤ 64 * 64 := Int.mul_le_mul (by omega) (by omega) (by omega) (by omega)
        rw [Int.mul_assoc]
        omega
      · rintro i y σ H' hi ⟨z, v, rfl, rfl, h0, h1⟩
        obtain ⟨u, rfl, hu⟩ : ∃ u, y = V.int u ∧ u ∈ ns := by
          have hm : y ∈ ns.map V.int := List.mem_of_mem_drop (List.mem_of_mem_take (List.mem_of_getElem? hi))
          obtain ⟨u, hu, rfl⟩ := List.mem_map.mp hm
          exact ⟨u, rfl, hu⟩
        refine ⟨_, rfl, _, _, rfl, rfl, .inl ⟨by omega, by omega⟩, _, rfl, _, _, rfl, rfl, .inl ⟨_, rfl, _, _, rfl, rfl, by show (0 : Int) < 2147483563; decide, ?_⟩⟩
        exact ⟨_, _, rfl, rfl, Int.emod_nonneg _ (by decide), Int.lt_trans (Int.emod_lt_of_pos _ (by decide)) (by decide)⟩
      · rintro σ H' ⟨z, v, rfl, rfl, h0, h1⟩
        exact ⟨_, rfl, q _ _ (same_new np) (bits31 h0 h1)⟩
theorem c_purse (T : Bt mg) (F : FnP K "_law_purse" s_purse f fd) (hm : mg "_law_purse" = some (.ref f)) : Cal P w K mg base 1 "_law_purse" spPurse := by
  have hnd := sc_purse.nd
  refine cal_mk F hm sc_purse (fun _ _ _ _ _ _ us hl => match us, hl with | [_], _ => rfl) (fun vs H Q E h => ?_) (fun cdv A outer s H vs Q E hr h => ?_)
  · obtain ⟨z, rfl, _⟩ := h
    rfl
  · obtain ⟨z, rfl, hb, q⟩ := h
    have fin : ∀ dg : Int, 0 ≤ dg → ∀ (σ : St), σ = [some (.int z), some (.int dg)] → tRet (tLst (tCons (tOp (rI (fun _ j => 0 < j) fun i j => .int (i % j)) (tCB (fun xs H Q => (∃ i, xs = [.int i] ∧ Q (.int i) H) ∨ ∃ k, xs = [.bl k] ∧ Q (.int (if k then 1 else 0)) H) (tCons (tOp (rI0 fun i j => .int (i + j)) (tOp (rI CMulX fun i j => .int (i * j)) (tVar 0) (tC (.int 950706376))) (tC (.int 918273))) tNil)) (tC (.int 2147483563))) (tCons (tVar 1) (tCons (tC (.int 0)) tNil)))) { nx := fun _ H' => Q .non H', rt := Q } σ H := fun dg hd σ e => by
      subst e
      refine ⟨_, rfl, _, _, rfl, rfl, ?_, _, _, rfl, rfl, .inl ⟨_, rfl, _, _, rfl, rfl, by show (0 : Int) < 2147483563; decide, ?_⟩⟩
      · have h2 : iBits 950706376 ≤ 30 := PyProof.Rows.intBits_le (k := 30) (by decide)
        show (iBits z : Int) + (iBits 950706376 : Int) ≤ 134217728
        omega
      · refine ⟨_, rfl, by show 3 ≤ sizeLine; decide, fun p np => ?_⟩
        exact q _ _ (same_new np) np ⟨_, _, _, upd_same, Int.emod_nonneg _ (by decide), Int.emod_lt_of_pos _ (by decide), hd⟩
    refine ⟨_, (pss_cons (ps_set (i := 1) hnd rfl (by first | exact Or.inl rfl | exact Or.inr rfl) (pe_ifExp (PW.pt (pw_or (pt_cmpR op_lt (pv 0) pe_int (nomark _)) (pw_or1 (pt_cmpR op_ge (pv 0) (pe_op op_pow pe_int pe_int) (nomark _))))) (pe_callB call_abs (by rfl) T.m_abs (by decide +kernel) (pa_cons (pv 0) pa_nil)) pe_int))
      (pss_one (ps_ret (pe_lst (pa_cons (pe_op op_mod (pe_callTy call_int1 (by rfl) T.m_int (by decide +kernel) (pa_cons (pe_op op_add (pe_op op_mulX (pv 0) pe_int) pe_int) pa_nil)) pe_int) (pa_cons (pv 1) (pa_cons pe_int pa_nil))))))), ?_⟩
    refine ⟨_, rfl, _, _, rfl, rfl, _, rfl, ite2 (fun hlt => ?_) (fun hge => ?_)⟩
    · refine ⟨_, rfl, _, rfl, fin _ ?_ _ rfl⟩
      split <;> omega
    · refine ⟨_, rfl, _, _, rfl, rfl, ⟨by decide, by decide, by decide⟩, _, _, rfl, rfl, _, rfl, ite2 (fun hlt => ?_) (fun hge => ?_)⟩
      · refine ⟨_, rfl, _, rfl, fin _ ?_ _ rfl⟩
        split <;> omega
      · exact fin 0 (by decide) _ rfl
theorem c_draw (T : Bt mg) (F : FnP K "_law_draw" s_draw f fd) (hm : mg "_law_draw" = some (.ref f)) : Cal P w K mg base 1 "_law_draw" spDraw := by
  have hnd := sc_draw.nd
  refine cal_mk F hm sc_draw (fun _ _ _ _ _ _ us hl => match us, hl with | [_, _], _ => rfl) (fun vs H Q E h => ?_) (fun cdv A outer s H vs Q E hr h => ?_)
  · obtain ⟨p, m, rfl, _⟩ := h
    rfl
  · obtain ⟨p, m, rfl, hp, m0, m1, q⟩ := h
    obtain ⟨st, dg, c, e, h0, h1, hd⟩ := hp.ex
    have ix : ∀ {σ : St} {o : Hp} {a b d : Int} (i : Nat) (v : Int), o p = some (.lst [.int a, .int b, .int d]) → [V.int a, .int b, .int d][i]? = some (.int v) → ∀ Q : VK, Q (.int v) o → rIxL K (.ref p) (.int (i : Int)) o Q := fun i v ho hv Q hq => ⟨p, _, _, _, rfl, rfl, SqL.of ho, atI_nat hv, hq⟩
    refine ⟨_, (pss_cons (ps_asg (pe_op op_add (pe_ix (show IxR _ (rIxL K) from ix_list) (pv 0) pe_int (fun _ _ => rfl)) pe_int) (pg_sub (pv 0) pe_int set_list))
      (pss_cons (ps_set (i := 2) hnd rfl (by first | exact Or.inl rfl | exact Or.inr rfl) (pe_callTy call_int1 (by rfl) T.m_int (by decide +kernel) (pa_cons (pe_ix (show IxR _ (rIxL K) from ix_list) (pv 0) pe_int (fun _ _ => rfl)) pa_nil)))
      (pss_cons (ps_asg (pe_op op_mod (pe_callTy call_int1 (by rfl) T.m_int (by decide +kernel) (pa_cons (pe_op op_add (pe_op op_add (pe_op op_mul (pv 2) (pv 2)) (pe_op op_fdiv (pv 2) pe_int)) (pe_op op_mul pe_int (pe_ix (show IxR _ (rIxL K) from ix_list) (pv 0) pe_int (fun _ _ => rfl)))) pa_nil)) pe_int) (pg_sub (pv 0) pe_int set_list))
      (pss_cons (ps_if (pt_cmpR op_gt (pe_ix (show IxR _ (rIxL K) from ix_list) (pv 0) pe_int (fun _ _ => rfl)) pe_int (nomark _))
      (pss_cons (ps_asg (pe_callB call_divmodW (by rfl) T.m_divmod (by decide +kernel) (pa_cons (pe_ix (show IxR _ (rIxL K) from ix_list) (pv 0) pe_int (fun _ _ => rfl)) (pa_cons (pv 1) pa_nil))) (pg_tup (by rfl) (pgs_cons (pg_sub (pv 0) pe_int set_list) (pgs_cons (pg_name (i := 3) hnd rfl (by first | exact Or.inl rfl | exact Or.inr rfl)) pgs_nil))))
      (pss_one (ps_ret (pv 3))))
      pss_nil)
      (pss_one (ps_ret (pe_op op_mod (pe_callTy call_int1 (by rfl) T.m_int (by decide +kernel) (pa_cons (pe_op op_fdiv (pe_ix (show IxR _ (rIxL K) from ix_list) (pv 0) pe_int (fun _ _ => rfl)) pe_int) pa_nil)) (pv 1)))))))), ?_⟩
    refine ⟨_, rfl, p, _, _, _, rfl, rfl, SqL.of e, rfl, _, _, rfl, rfl, _, rfl, p, _, _, 2, rfl, rfl, e, rfl, ?_⟩
    have e1 : (upd H p (.lst ([V.int st, .int dg, .int c].set 2 (.int (c + 1))))) p = some (.lst [.int st, .int dg, .int (c + 1)]) := upd_same
    refine ⟨_, rfl, p, _, _, _, rfl, rfl, SqL.of e1, rfl, .inl ⟨_, rfl, ?_⟩⟩
    refine ⟨_, rfl, _, rfl, _, _, rfl, rfl, .inl ⟨by omega, by omega⟩, _, rfl, _, _, rfl, rfl, ⟨by decide, by decide⟩, _, _, rfl, rfl, _, rfl, p, _, _, _, rfl, rfl, SqL.of e1, rfl, _, _, rfl, rfl, .inl ⟨by decide, by decide⟩, _, _, rfl, rfl, .inl ⟨_, rfl, _, _, rfl, rfl, by show (0 : Int) < 2147483563; decide, _, rfl, p, _, _, 0, rfl, rfl, e1, rfl, ?_⟩⟩
    have z0 : 0 ≤ (st * st + st / 7 + 48611 * (c + 1)) % 2147483563 := Int.emod_nonneg _ (by decide)
    have z1 : (st * st + st / 7 + 48611 * (c + 1)) % 2147483563 < 2147483563 := Int.emod_lt_of_pos _ (by decide)
    have e2 : (upd (upd H p (.lst ([V.int st, .int dg, .int c].set 2 (.int (c + 1))))) p (.lst ([V.int st, .int dg, .int (c + 1)].set 0 (.int ((st * st + st / 7 + 48611 * (c + 1)) % 2147483563))))) p = some (.lst [.int ((st * st + st / 7 + 48611 * (c + 1)) % 2147483563), .int dg, .int (c + 1)]) := upd_same
    have s2 : SameB p H (upd (upd H p (.lst ([V.int st, .int dg, .int c].set 2 (.int (c + 1))))) p (.lst ([V.int st, .int dg, .int (c + 1)].set 0 (.int ((st * st + st / 7 + 48611 * (c + 1)) % 2147483563))))) := SameB.set.put
    refine ⟨_, rfl, p, _, _, _, rfl, rfl, SqL.of e2, rfl, _, _, rfl, rfl, _, rfl, ite2 (fun hgt => ?_) (fun hle => ?_)⟩
    · refine ⟨_, rfl, p, _, _, _, rfl, rfl, SqL.of e2, rfl, _, rfl, _, _, rfl, divp_small m0 m1, fun t nt => ?_⟩
      have npt : p ≠ t := ne_of_none e2 nt
      have e3 := Eq.trans (upd_ne (o := .tup [.int (dg / m), .int (dg % m)]) npt) e2
      refine ⟨t, _, rfl, SqT.of upd_same, rfl, _, _, rfl, ⟨_, rfl, p, _, _, 1, rfl, rfl, e3, rfl, _, _, rfl, rfl, _, rfl, ?_⟩⟩
      refine q _ _ (Int.emod_nonneg _ (by omega)) (Int.emod_lt_of_pos _ m0) (SameB.put fun b o n h => ?_) ⟨_, _, _, upd_same, z0, z1, Int.ediv_nonneg hd (by omega)⟩
      exact same_new nt _ _ (s2 b o n h)
    · refine ⟨_, rfl, p, _, _, _, rfl, rfl, SqL.of e2, rfl, _, _, rfl, rfl, ⟨by decide, by decide⟩, .inl ⟨_, rfl, _, rfl, _, _, rfl, rfl, m0, ?_⟩⟩
      exact q _ _ (Int.emod_nonneg _ (by omega)) (Int.emod_lt_of_pos _ m0) s2 ⟨_, _, _, e2, z0, z1, hd⟩
end
end L2.K33
set_option Elab.async false
set_option linter.all false
set_option maxRecDepth 100000
set_option maxHeartbeats 8000000
namespace L2.K33
open PySem PySem.Spec PyProof.Rows L2.Tb
open SX (S)
abbrev s_name : Stmt := top 54
abbrev N_name : List Str := ["_law_purse_here", "_law_way", "_law_word", "_law_k"]
theorem sc_name : FnScope N_name ["_law_purse_here"] (defScope s_name) := ⟨rfl, rfl, rfl, by decide +kernel, rfl, by decide +kernel, by decide +kernel⟩
/-! ### drawn names -/
def lowB (c : Nat) : Bool := Nat.ble 97 c && Nat.ble c 122
def signB (c : Nat) : Bool := lowB c || (Nat.ble 48 c && Nat.ble c 57)
/-- a right name -/
def nameB : List Nat → Bool
  | [] => false
  | c :: r => lowB c && (Nat.ble r.length 7 && r.all signB)
theorem nameB_snoc {l : List Nat} {c : Nat} (h : nameB l = true) (hl : l.length ≤ 7) (hc : signB c = true) : nameB (l ++ [c]) = true := by
  cases l with
  | nil => cases h
  | cons a r =>
    simp only [nameB, Bool.and_eq_true, Nat.ble_eq] at h
    simp only [List.cons_append, nameB, Bool.and_eq_true, Nat.ble_eq, List.length_append, List.length_singleton, List.all_append, List.all_cons, List.all_nil, Bool.and_true]
    have : (a :: r).length = r.length + 1 := rfl
    exact ⟨h.1, by omega, h.2.2, hc⟩
theorem nameB_len {l : List Nat} (h : nameB l = true) : 1 ≤ l.length ∧ l.length ≤ 8 := by
  cases l with
  | nil => cases h
  | cons a r =>
    simp only [nameB, Bool.and_eq_true, Nat.ble_eq] at h
    have : (a :: r).length = r.length + 1 := rfl
    omega
def spName : Sp := fun vs H Q _ => ∃ p : Addr, vs = [.ref p] ∧ Purse H p ∧ ∀ (l : List Nat) (H' : Hp), nameB l = true → SameB p H H' → Purse H' p → Q (.str (S l)) H'
theorem low_at : ∀ k : Nat, k < 26 → (Str.ofString "abcdefghijklmnopqrstuvwxyz").cps.toList[k]? = some (97 + k) := by decide +kernel
def signAt (k : Nat) : Nat := if k < 26 then 97 + k else 22 + k
theorem sign_at : ∀ k : Nat, k < 36 → (Str.ofString "abcdefghijklmnopqrstuvwxyz0123456789").cps.toList[k]? = some (signAt k) ∧ signB (signAt k) = true := by decide +kernel
def wordL : List V := [.str (Str.ofString "same"), .str (Str.ofString "unlike"), .str (Str.ofString "go"), .str (Str.ofString "plain"), .str (Str.ofString "calm"), .str (Str.ofString "all"), .str (Str.ofString "n"), .str (Str.ofString "a")]
theorem word_at : ∀ k : Nat, k < 8 → ∃ z : Str, wordL[k]? = some (.str z) ∧ nameB z.cps.toList = true := by
  intro k hk
  rcases (show k = 0 ∨ k = 1 ∨ k = 2 ∨ k = 3 ∨ k = 4 ∨ k = 5 ∨ k = 6 ∨ k = 7 by omega) with rfl | rfl | rfl | rfl | rfl | rfl | rfl | rfl
  all_goals exact ⟨_, rfl, by decide +kernel⟩
def manyL : List V := [.int 0, .int 0, .int 0, .int 1, .int 1, .int 2, .int 3, .int 5, .int 7, .int 7]
theorem many_at : ∀ k : Nat, k < 10 → ∃ m : Nat, manyL[k]? = some (.int (m : Int)) ∧ m ≤ 7 := by
  intro k hk
  rcases (show k = 0 ∨ k = 1 ∨ k = 2 ∨ k = 3 ∨ k = 4 ∨ k = 5 ∨ k = 6 ∨ k = 7 ∨ k = 8 ∨ k = 9 by omega) with rfl | rfl | rfl | rfl | rfl | rfl | rfl | rfl | rfl | rfl
  · exact ⟨0, rfl, by decide⟩
  · exact ⟨0, rfl, by decide⟩
  · exact ⟨0, rfl, by decide⟩
  · exact ⟨1, rfl, by decide⟩
  · exact ⟨1, rfl, by decide⟩
  · exact ⟨2, rfl, by decide⟩
  · exact ⟨3, rfl, by decide⟩
  · exact ⟨5, rfl, by decide⟩
  · exact ⟨7, rfl, by decide⟩
  · exact ⟨7, rfl, by decide⟩
theorem str_S (z : Str) : z = S z.cps.toList := by
  obtain ⟨a⟩ := z
  simp
section
variable {P : Program} {w : World} {K : PySem.W.Frag} {mg : Str → Option Value} {base : Heap} {f : Addr} {fd : FuncData}
theorem gname_go {i : Nat} {x : V} {σ : St} {H : Hp} {k : St → Hp → Prop} (h : k (σ.set i (some x)) H) : gName i x σ H k := h
theorem c_name (T : Bt mg) (F : FnP K "_law_name" s_name f fd) (hm : mg "_law_name" = some (.ref f)) (k_draw : Cal P w K mg base 1 "_law_draw" spDraw) : Cal P w K mg base 2 "_law_name" spName := by
  have hnd := sc_name.nd
  refine cal_mk F hm sc_name (fun _ _ _ _ _ _ us hl => match us, hl with | [_], _ => rfl) (fun vs H Q E h => ?_) (fun cdv A outer s H vs Q E hr h => ?_)
  · obtain ⟨p, rfl, _⟩ := h
    rfl
  · obtain ⟨p, rfl, hp, q⟩ := h
    refine ⟨_, (pss_cons (ps_set (i := 1) hnd rfl (by first | exact Or.inl rfl | exact Or.inr rfl) (pe_cal k_draw hr (by omega) (by rfl) (pa_cons (pv 0) (pa_cons pe_int pa_nil))))
      (pss_cons (ps_if (pt_cmpR op_lt (pv 1) pe_int (nomark _))
      (pss_one (ps_ret (pe_ix (show IxR _ (rIxL K) from ix_list) (pe_lst (pa_cons pe_str (pa_cons pe_str (pa_cons pe_str (pa_cons pe_str (pa_cons pe_str (pa_cons pe_str (pa_cons pe_str (pa_cons pe_str pa_nil))))))))) (pe_cal k_draw hr (by omega) (by rfl) (pa_cons (pv 0) (pa_cons pe_int pa_nil))) (fun _ _ => rfl))))
      pss_nil)
      (pss_cons (ps_set (i := 2) hnd rfl (by first | exact Or.inl rfl | exact Or.inr rfl) (pe_ix ix_str pe_str (pe_cal k_draw hr (by omega) (by rfl) (pa_cons (pv 0) (pa_cons pe_int pa_nil))) (fun _ _ => rfl)))
      (pss_cons (ps_for PassesOwn.never (by rfl) (pi_range1 (by rfl) T.m_range (pa_cons (pe_ix (show IxR _ (rIxL K) from ix_list) (pe_lst (pa_cons pe_int (pa_cons pe_int (pa_cons pe_int (pa_cons pe_int (pa_cons pe_int (pa_cons pe_int (pa_cons pe_int (pa_cons pe_int (pa_cons pe_int (pa_cons pe_int pa_nil))))))))))) (pe_op op_sub (pv 1) pe_int) (fun _ _ => rfl)) pa_nil)) (pg_name (i := 3) hnd rfl (by first | exact Or.inl rfl | exact Or.inr rfl))
      (pss_one (ps_set (i := 2) hnd rfl (by first | exact Or.inl rfl | exact Or.inr rfl) (pe_op op_add_str (pv 2) (pe_ix ix_str pe_str (pe_cal k_draw hr (by omega) (by rfl) (pa_cons (pv 0) (pa_cons pe_int pa_nil))) (fun _ _ => rfl))))))
      (pss_one (ps_ret (pv 2))))))), ?_⟩
    refine ⟨_, rfl, p, 12, rfl, hp, by decide, by decide, fun d H1 d0 d1 s1 u1 => gname_go ?_⟩
    try dsimp only
    refine ⟨_, rfl, _, _, rfl, rfl, _, rfl, ite2 (fun hlt => ?_) (fun hge => ?_)⟩
    · refine ⟨Nat.le_of_ble_eq_true rfl, fun L nL => ⟨_, rfl, p, 8, rfl, u1.same (same_new nL), by decide, by decide, fun e H2 e0 e1 s2 u2 => ?_⟩⟩
      obtain ⟨k, rfl⟩ := Int.eq_ofNat_of_zero_le e0
      obtain ⟨z, hz, nz⟩ := word_at k (by omega)
      have nLp : L ≠ p := fun z => by
        obtain ⟨st, dg, c, e, r⟩ := u1.ex
        rw [z, e] at nL
        cases nL
      have eL := s2 _ _ nLp (upd_same (H := H1) (a := L) (o := .lst wordL))
      refine ⟨L, wordL, _, .str z, rfl, rfl, SqL.of eL, atI_nat hz, ?_⟩
      rw [str_S z]
      exact q _ _ nz ((s1.trans (SameB.of (same_new nL))).trans s2) u2
    · dsimp only [tNext]
      have l26 : (Str.ofString "abcdefghijklmnopqrstuvwxyz").length ≤ sizeLine := by
        rw [show (Str.ofString "abcdefghijklmnopqrstuvwxyz").length = 26 by decide +kernel, sizeLine_eq]
        decide
      have l36 : (Str.ofString "abcdefghijklmnopqrstuvwxyz0123456789").length ≤ sizeLine := by
        rw [show (Str.ofString "abcdefghijklmnopqrstuvwxyz0123456789").length = 36 by decide +kernel, sizeLine_eq]
        decide
      have hge2 : 2 ≤ d := by
        have z := hge
        simp only [decide_eq_true_eq] at z
        omega
      refine ⟨_, rfl, p, 26, rfl, u1, by decide, by decide, fun e H2 e0 e1 s2 u2 => ?_⟩
      obtain ⟨k, rfl⟩ := Int.eq_ofNat_of_zero_le e0
      refine ⟨_, _, _, rfl, rfl, l26, atI_nat (low_at k (by omega)), gname_go ?_⟩
      try dsimp only
      obtain ⟨j, rfl⟩ := Int.eq_ofNat_of_zero_le d0
      obtain ⟨m, hm, m7⟩ := many_at (j - 2) (by omega)
      refine ⟨Nat.le_of_ble_eq_true rfl, fun Lq nLq => ⟨_, rfl, _, _, rfl, rfl, Lq, manyL, _, .int (m : Int), rfl, rfl, SqL.of upd_same, by rw [show (j : Int) - 2 = ((j - 2 : Nat) : Int) by omega]; exact atI_nat hm, _, rfl, by omega, by omega, ?_⟩⟩
      have u3 := u2.same (same_new (o := .lst manyL) nLq)
      have s3 := (s1.trans s2).trans (SameB.of (same_new (o := .lst manyL) nLq))
      refine for_range (n := ((m : Nat) : Int).toNat) (fun i σ' G => ∃ (l : List Nat) (x3 : Option V), σ' = [some (.ref p), some (.int (j : Int)), some (.str (S l)), x3] ∧ nameB l = true ∧ l.length = 1 + i ∧ SameB p H G ∧ Purse G p) ⟨[97 + k], _, rfl, ?_, rfl, s3, u3⟩ ?_ ?_
      · simp only [nameB, lowB, List.length_nil, List.all_nil, Bool.and_true, Bool.and_eq_true, Nat.ble_eq]
        omega
      · rintro i σ' G hi ⟨l, x3, rfl, hn, hl, sG, uG⟩
        have hi : i < m := by
          rw [Int.toNat_natCast] at hi
          exact hi
        refine gname_go ?_
        try dsimp only
        refine ⟨_, rfl, _, rfl, p, 36, rfl, uG, by decide, by decide, fun e2 H3 f0 f1 s4 u4 => ?_⟩
        obtain ⟨k2, rfl⟩ := Int.eq_ofNat_of_zero_le f0
        obtain ⟨ha, hs⟩ := sign_at k2 (by omega)
        refine ⟨_, _, _, rfl, rfl, l36, atI_nat ha, _, _, rfl, rfl, ?_, gname_go ⟨l ++ [signAt k2], some (.int (0 + (i : Int))), ?_, nameB_snoc hn (by omega) hs, by rw [List.length_append, hl]; rfl, sG.trans s4, u4⟩⟩
        · show (S l).length + 1 ≤ sizeLine
          rw [SX.S_len, sizeLine_eq]
          omega
        · rw [show (S l ++ (⟨#[signAt k2]⟩ : Str)) = S (l ++ [signAt k2]) from SX.S_cat ..]
          rfl
      · rintro σ' G ⟨l, x3, rfl, hn, hl, sG, uG⟩
        exact ⟨_, rfl, q l G hn sG uG⟩
end
end L2.K33
set_option Elab.async false
set_option linter.all false
set_option maxRecDepth 100000
set_option maxHeartbeats 8000000
namespace L2.K33
open PySem PySem.Spec PyProof.Rows L2.Tb
open SX (S)
abbrev s_names : Stmt := top 55
abbrev N_names : List Str := ["_law_purse_here", "_law_many", "_law_found", "_law_k", "_law_word", "_law_way", "_law_at", "_law_each"]
theorem sc_names : FnScope N_names ["_law_purse_here", "_law_many"] (defScope s_names) := ⟨rfl, rfl, rfl, by decide +kernel, rfl, by decide +kernel, by decide +kernel⟩
theorem nodup_sub {α : Type} [DecidableEq α] : ∀ {l m : List α}, l.Nodup → (∀ x ∈ l, x ∈ m) → l.length ≤ m.length
  | [], _, _, _ => Nat.zero_le _
  | a :: l, m, h, s => by
    have ha := s a List.mem_cons_self
    have hn := List.nodup_cons.mp h
    have ih := nodup_sub (m := m.erase a) hn.2 fun x hx => (List.mem_erase_of_ne (fun e => hn.1 (by rw [← e]; exact hx))).mpr (s x (List.mem_cons_of_mem _ hx))
    rw [List.length_erase_of_mem ha] at ih
    have := List.length_pos_of_mem ha
    rw [List.length_cons]
    omega
def nmV (l : List Nat) : V := .str (S l)
def poolL : List (List Nat) := [[98, 48], [98, 49], [98, 50], [98, 51], [98, 52], [98, 53], [98, 54], [98, 55], [98, 56]]
theorem pool_v : [V.str (Str.ofString "b0"), .str (Str.ofString "b1"), .str (Str.ofString "b2"), .str (Str.ofString "b3"), .str (Str.ofString "b4"), .str (Str.ofString "b5"), .str (Str.ofString "b6"), .str (Str.ofString "b7"), .str (Str.ofString "b8")] = poolL.map nmV := by decide +kernel
theorem pool_ok : poolL.Nodup ∧ ∀ l ∈ poolL, nameB l = true := by decide +kernel
theorem nmV_inj {a b : List Nat} (h : nmV a = nmV b) : a = b := by
  unfold nmV at h
  injection h with h
  exact SX.S_inj h
theorem inV_names {a : List Nat} : ∀ {ls : List (List Nat)}, inV (nmV a) (ls.map nmV) = decide (a ∈ ls)
  | [] => by simp [inV]
  | l :: ls => by
    have ih := inV_names (a := a) (ls := ls)
    unfold inV at ih ⊢
    rw [List.map_cons, List.any_cons, ih]
    by_cases c : l = a
    · subst c
      simp [eqV, nmV]
    · have c2 : ¬ a = l := fun e => c e.symm
      have c3 : (S l == S a) = false := beq_eq_false_iff_ne.mpr fun e => c (SX.S_inj e)
      simp [eqV, nmV, c3, c2]
theorem names_flat (ls : List (List Nat)) : (ls.map nmV).all flatV = true := List.all_eq_true.mpr fun x hx => by
  obtain ⟨z, _, rfl⟩ := List.mem_map.mp hx
  rfl
theorem nameB_put {l : List Nat} (h : nameB l = true) {k c : Nat} (hk : k < l.length) (hc : lowB c = true) : nameB ((l.take k ++ [c]) ++ l.drop (k + 1)) = true := by
  cases l with
  | nil => cases h
  | cons a r =>
    simp only [nameB, Bool.and_eq_true, Nat.ble_eq] at h
    obtain ⟨h1, h2, h3⟩ := h
    have h3 := List.all_eq_true.mp h3
    cases k with
    | zero =>
      simp only [List.take_zero, List.nil_append, List.drop_succ_cons, List.drop_zero, List.singleton_append, nameB, Bool.and_eq_true, Nat.ble_eq]
      exact ⟨hc, h2, List.all_eq_true.mpr h3⟩
    | succ k =>
      simp only [List.take_succ_cons, List.drop_succ_cons, List.cons_append, nameB, Bool.and_eq_true, Nat.ble_eq]
      have hk2 : k < r.length := by
        simp only [List.length_cons] at hk
        omega
      refine ⟨h1, ?_, List.all_eq_true.mpr fun x hx => ?_⟩
      · simp only [List.length_append, List.length_take, List.length_drop, List.length_singleton]
        omega
      · rcases List.mem_append.mp hx with hx | hx
        · rcases List.mem_append.mp hx with hx | hx
          · exact h3 x (List.mem_of_mem_take hx)
          · rw [List.mem_singleton.mp hx]
            unfold signB
            rw [hc]
            rfl
        · exact h3 x (List.mem_of_mem_drop hx)
/-- drawn names, each once -/
structure NamesL (ls : List (List Nat)) : Prop where
  ok : ∀ l ∈ ls, nameB l = true
  nd : ls.Nodup
def spNames : Sp := fun vs H Q _ => ∃ (p : Addr) (m : Nat), vs = [.ref p, .int (m : Int)] ∧ Purse H p ∧ m ≤ 9 ∧ ∀ (ls : List (List Nat)) (L : Addr) (H' : Hp), ls.length = m → NamesL ls → SameB p H H' → Purse H' p → L ≠ p → H L = none → H' L = some (.lst (ls.map nmV)) → Q (.ref L) H'
theorem seqx {a b : TS} {D : Ends} {σ : St} {H : Hp} (Pv : St → Hp → Prop) (hb : ∀ σ' H', Pv σ' H' → b D σ' H') (h : (∀ σ' H', Pv σ' H' → ({ D with nx := b D } : Ends).nx σ' H') → a { D with nx := b D } σ H) : tSeq a b D σ H := h hb
theorem slc_from (t : List Nat) (c : Nat) : Txt.slice (S t) (some (c : Int)) none = S (t.drop c) := by
  have := SX.slice_from (a := t) (i := (c : Int)) (by omega)
  rwa [Int.toNat_natCast] at this
theorem slc_to (t : List Nat) (c : Nat) : Txt.slice (S t) none (some (c : Int)) = S (t.take c) := by
  have := SX.slice_to (a := t) (i := (c : Int)) (by omega)
  rwa [Int.toNat_natCast] at this
theorem slen {l : List Nat} (h : l.length ≤ 1000) : (S l).length ≤ sizeLine := by
  rw [SX.S_len, sizeLine_eq]
  omega
theorem same_pt {H0 H : Hp} {D : Addr} {o : HO} (n : H0 D = none) (s : Same H0 H) : Same H0 (upd H D o) := fun b u e => by rw [upd_ne (ne_of_none e n)]; exact s _ _ e
section
variable {P : Program} {w : World} {K : PySem.W.Frag} {mg : Str → Option Value} {base : Heap} {f : Addr} {fd : FuncData}
theorem c_names (T : Bt mg) (F : FnP K "_law_names" s_names f fd) (hm : mg "_law_names" = some (.ref f)) (k_draw : Cal P w K mg base 1 "_law_draw" spDraw) (k_name : Cal P w K mg base 2 "_law_name" spName) : Cal P w K mg base 3 "_law_names" spNames := by
  have hnd := sc_names.nd
  refine cal_mk F hm sc_names (fun _ _ _ _ _ _ us hl => match us, hl with | [_, _], _ => rfl) (fun vs H Q E h => ?_) (fun cdv A outer s H vs Q E hr h => ?_)
  · obtain ⟨p, m, rfl, _⟩ := h
    rfl
  · obtain ⟨p, m, rfl, hp, hm9, q⟩ := h
    refine ⟨_, (pss_cons (ps_set (i := 2) hnd rfl (by first | exact Or.inl rfl | exact Or.inr rfl) (pe_lst pa_nil))
      (pss_cons (ps_for PassesOwn.never (by rfl) (pi_range1 (by rfl) T.m_range (pa_cons (pv 1) pa_nil)) (pg_name (i := 3) hnd rfl (by first | exact Or.inl rfl | exact Or.inr rfl))
      (pss_cons (ps_par (i := 4) (j := 5) (by rfl) hnd rfl rfl (by decide) (by rfl) (by rfl) (pa_cons (pe_cal k_name hr (by omega) (by rfl) (pa_cons (pv 0) pa_nil)) (pa_cons (pe_cal k_draw hr (by omega) (by rfl) (pa_cons (pv 0) (pa_cons pe_int pa_nil))) pa_nil)) (by rfl))
      (pss_cons (ps_if (PW.pt (pw_and (pt_cmpR op_eq (pv 5) pe_int (nomark _)) (pw_and1 (pt_cmpR op_gt (pv 3) pe_int (nomark _)))))
      (pss_cons (ps_set (i := 4) hnd rfl (by first | exact Or.inl rfl | exact Or.inr rfl) (pe_ix (show IxR _ (rIxL K) from ix_list) (pv 2) (pe_cal k_draw hr (by omega) (by rfl) (pa_cons (pv 0) (pa_cons (pv 3) pa_nil))) (fun _ _ => rfl)))
      (pss_cons (ps_set (i := 6) hnd rfl (by first | exact Or.inl rfl | exact Or.inr rfl) (pe_cal k_draw hr (by omega) (by rfl) (pa_cons (pv 0) (pa_cons (pe_callB call_len_str (by rfl) T.m_len (by decide +kernel) (pa_cons (pv 4) pa_nil)) pa_nil))))
      (pss_one (ps_set (i := 4) hnd rfl (by first | exact Or.inl rfl | exact Or.inr rfl) (pe_op op_add_str (pe_op op_add_str (pe_slice C8.sl_txt (pv 4) po_none (po_some (pv 6))) (pe_ix ix_str pe_str (pe_cal k_draw hr (by omega) (by rfl) (pa_cons (pv 0) (pa_cons pe_int pa_nil))) (fun _ _ => rfl))) (pe_slice C8.sl_txt (pv 4) (po_some (pe_op op_add (pv 6) pe_int)) po_none))))))
      pss_nil)
      (pss_cons (ps_if (pt_cmpR (show OpR _ (compareOp .In) (rIn K false) from op_in_seq) (pv 4) (pv 2) (by rfl))
      (pss_one (ps_set (i := 4) hnd rfl (by first | exact Or.inl rfl | exact Or.inr rfl) (pe_ix (show IxR _ (rIxL K) from ix_list) (pe_lc (own := [("_law_each", 7)]) (by rfl) hnd (pi_list (pe_lst (pa_cons pe_str (pa_cons pe_str (pa_cons pe_str (pa_cons pe_str (pa_cons pe_str (pa_cons pe_str (pa_cons pe_str (pa_cons pe_str (pa_cons pe_str pa_nil))))))))))) (blkOk_by (own := [("_law_each", 7)]) (N := N_names) (sc := defScope s_names) (by decide +kernel)) (fun _ _ _ _ _ => (pg_name (i := 7) hnd rfl (by first | exact Or.inl rfl | exact Or.inr rfl))) (fun _ _ _ _ _ => (pts_one (pt_cmpR (show OpR _ (compareOp .NotIn) (rIn K true) from op_notIn_seq) (pv 7) (pv 2) (by rfl)))) (fun _ _ _ _ _ => (pv 7))) pe_int (fun _ _ => rfl))))
      pss_nil)
      (pss_one (ps_expr (pe_bm PySem.F.plainAttrs_list PySem.F.slot_list_append PySem.F.type_list_append mt_append (pv 2) (pa_cons (pv 4) pa_nil))))))))
      (pss_one (ps_ret (pv 2))))), ?_⟩
    refine ⟨Nat.zero_le _, fun L nL => gname_go ?_⟩
    try dsimp only
    have nLp : L ≠ p := fun z => by
      obtain ⟨st, dg, c, e, r⟩ := hp.ex
      rw [z, e] at nL
      cases nL
    have s0 := same_new (o := .lst []) nL
    have e0 := upd_same (H := H) (a := L) (o := .lst [])
    have u0 := hp.same s0
    have l26 : (Str.ofString "abcdefghijklmnopqrstuvwxyz").length ≤ sizeLine := by
      rw [show (Str.ofString "abcdefghijklmnopqrstuvwxyz").length = 26 by decide +kernel, sizeLine_eq]
      decide
    refine ⟨_, rfl, (m : Int), rfl, by omega, by omega, ?_⟩
    refine for_range (n := ((m : Nat) : Int).toNat) (fun i σ' G => ∃ (ls : List (List Nat)) (x3 x4 x5 x6 : Option V), σ' = [some (.ref p), some (.int (m : Int)), some (.ref L), x3, x4, x5, x6, none] ∧ G L = some (.lst (ls.map nmV)) ∧ ls.length = i ∧ NamesL ls ∧ SameB p H G ∧ Purse G p)
      ⟨[], _, _, _, _, rfl, e0, rfl, ⟨fun l h => (by cases h), List.nodup_nil⟩, SameB.of s0, u0⟩ ?_ ?_
    · rintro i σ' G hi ⟨ls, x3, x4, x5, x6, rfl, eL, ll, nl, sG, uG⟩
      have hi : i < m := by
        rw [Int.toNat_natCast] at hi
        exact hi
      refine gname_go ?_
      try dsimp only
      refine ⟨_, rfl, p, rfl, uG, fun l0 G1 n0 s1 u1 => ⟨_, rfl, p, 3, rfl, u1, by decide, by decide, fun d G2 d0 d1 s2 u2 => ⟨_, _, rfl, ?_⟩⟩⟩
      try dsimp only
      have eL2 := s2 _ _ nLp (s1 _ _ nLp eL)
      have s02 := (sG.trans s1).trans s2
      refine seqx (fun σ2 G' => ∃ (l1 : List Nat) (y6 : Option V), σ2 = [some (.ref p), some (.int (m : Int)), some (.ref L), some (.int (0 + (i : Int))), some (.str (S l1)), some (.int d), y6, none] ∧ nameB l1 = true ∧ G' L = some (.lst (ls.map nmV)) ∧ SameB p H G' ∧ Purse G' p) ?_ fun key1 => ?_
      · rintro σ2 G' ⟨l1, y6, rfl, n1, eL3, s3, u3⟩
        refine seqx (fun σ3 G4 => ∃ (l2 : List Nat) (y6 : Option V), σ3 = [some (.ref p), some (.int (m : Int)), some (.ref L), some (.int (0 + (i : Int))), some (.str (S l2)), some (.int d), y6, none] ∧ nameB l2 = true ∧ l2 ∉ ls ∧ G4 L = some (.lst (ls.map nmV)) ∧ SameB p H G4 ∧ Purse G4 p) ?_ fun key2 => ?_
        · rintro σ3 G4 ⟨l2, y6, rfl, n2, nin, eL4, s4, u4⟩
          refine ⟨_, rfl, .inl ⟨rfl, _, SqL.of eL4⟩, _, rfl, L, _, _, rfl, rfl, eL4, by rw [List.length_map, ll, sizeLine_eq]; omega, ?_⟩
          refine ⟨ls ++ [l2], _, _, _, _, rfl, by rw [upd_same, List.map_append]; rfl, by rw [List.length_append, ll]; rfl, ⟨fun l hl => ?_, ?_⟩, fun b o nb e => ?_, ?_⟩
          · rcases List.mem_append.mp hl with hl | hl
            · exact nl.ok l hl
            · rw [List.mem_singleton.mp hl]
              exact n2
          · refine List.nodup_append.mpr ⟨nl.nd, (List.nodup_cons.mpr ⟨fun h => (by cases h), List.nodup_nil⟩), fun a ha b hb => ?_⟩
            rw [List.mem_singleton.mp hb]
            exact fun e => nin (by rw [← e]; exact ha)
          · rw [upd_ne (ne_of_none e nL)]
            exact s4 b o nb e
          · obtain ⟨st, dg, c, e, r⟩ := u4.ex
            exact ⟨st, dg, c, by rw [upd_ne (Ne.symm nLp)]; exact e, r⟩
        · refine ⟨_, rfl, _, rfl, L, _, rfl, .inl (SqL.of eL3), rfl, names_flat ls, _, rfl, ?_⟩
          rw [if_neg Bool.false_ne_true, show inV (.str (S l1)) (ls.map nmV) = decide (l1 ∈ ls) from inV_names]
          by_cases c : l1 ∈ ls
          · rw [decide_eq_true c]
            refine iteT ?_
            refine ⟨Nat.le_of_ble_eq_true rfl, fun Lb nLb => ⟨Lb, rfl, ⟨_, SqL.of upd_same⟩, fun D nD => ?_⟩⟩
            rw [pool_v] at nD ⊢
            have sb := same_new (o := .lst (poolL.map nmV)) nLb
            have eb := upd_same (H := G') (a := Lb) (o := .lst (poolL.map nmV))
            have eLb := sb _ _ eL3
            have ub := u3.same sb
            have sHb := s3.trans (SameB.of sb)
            generalize upd G' Lb (.lst (poolL.map nmV)) = Gb at sb eb eLb ub sHb nD ⊢
            refine lc_list (xs := poolL.map nmV) (fun j G5 => Same Gb G5 ∧ G5 D = some (.lst (((poolL.take j).filter fun l => decide (l ∉ ls)).map nmV))) ⟨same_new nD, upd_same⟩ (fun j G5 _ y => SqL.of (y.1 _ _ eb)) ?_ ?_
            · rintro j y G5 hj ⟨s5, e5⟩
              have hj' : j < poolL.length := by
                have := (List.getElem?_eq_some_iff.mp hj).1
                rwa [List.length_map] at this
              have hy : y = nmV poolL[j] := by
                rw [List.getElem?_map, List.getElem?_eq_getElem hj'] at hj
                exact (Option.some.inj hj).symm
              subst hy
              have tk : poolL.take (j + 1) = poolL.take j ++ [poolL[j]] := by
                rw [List.take_add_one, List.getElem?_eq_getElem hj']
                rfl
              refine ⟨rfl, _, rfl, _, rfl, L, _, rfl, .inl (SqL.of (s5 _ _ eLb)), rfl, names_flat ls, _, rfl, ?_⟩
              rw [if_pos rfl, inV_names]
              by_cases c2 : poolL[j] ∈ ls
              · rw [decide_eq_true c2]
                refine iteF ⟨s5, ?_⟩
                rw [tk, List.filter_append, List.filter_cons_of_neg (by simpa using c2), List.filter_nil, List.append_nil]
                exact e5
              · rw [decide_eq_false c2]
                refine iteT ⟨_, rfl, _, e5, ?_, same_pt nD s5, ?_⟩
                · rw [List.length_map, sizeLine_eq]
                  have := List.length_filter_le (fun l => decide (l ∉ ls)) (poolL.take j)
                  have h9 : poolL.length = 9 := rfl
                  rw [List.length_take] at this
                  omega
                · rw [upd_same, tk, List.filter_append, List.filter_cons_of_pos (by simpa using c2), List.filter_nil, List.map_append]
                  rfl
            · rintro G5 ⟨s5, e5⟩
              rw [List.length_map, List.take_length] at e5
              obtain ⟨l2, rest, hf⟩ : ∃ l2 rest, poolL.filter (fun l => decide (l ∉ ls)) = l2 :: rest := by
                cases hf : poolL.filter (fun l => decide (l ∉ ls)) with
                | cons a r => exact ⟨a, r, rfl⟩
                | nil =>
                  have all : ∀ x ∈ poolL, x ∈ ls := fun x hx => by
                    by_cases cx : x ∈ ls
                    · exact cx
                    · have := (List.mem_filter (p := fun l => decide (l ∉ ls))).mpr ⟨hx, (decide_eq_true cx : decide (x ∉ ls) = true)⟩
                      rw [hf] at this
                      cases this
                  have := nodup_sub pool_ok.1 all
                  have h9 : poolL.length = 9 := rfl
                  omega
              have hmem : l2 ∈ poolL ∧ decide (l2 ∉ ls) = true := List.mem_filter.mp (by rw [hf]; exact List.mem_cons_self)
              rw [hf] at e5
              refine ⟨D, _, 0, nmV l2, rfl, rfl, SqL.of e5, atI_nat (j := 0) rfl, gname_go (key2 _ _ ⟨l2, _, rfl, pool_ok.2 l2 hmem.1, of_decide_eq_true hmem.2, s5 _ _ eLb, sHb.trans (SameB.of s5), ub.same s5⟩)⟩
          · rw [decide_eq_false c]
            exact iteF (key2 _ _ ⟨l1, _, rfl, n1, c, eL3, s3, u3⟩)
      · refine ⟨_, rfl, rfl, _, rfl, ?_⟩
        by_cases c : d = 0
        · rw [decide_eq_true (show V.int d = V.int 0 by rw [c])]
          refine iteT ⟨_, rfl, _, _, rfl, rfl, _, rfl, ?_⟩
          by_cases c2 : 0 < i
          · rw [decide_eq_true (show (0 : Int) < 0 + (i : Int) by omega)]
            refine iteT ⟨_, rfl, _, rfl, _, rfl, p, _, rfl, u2, by omega, by omega, fun e G3 e0 e1 s3 u3 => ?_⟩
            obtain ⟨k, rfl⟩ := Int.eq_ofNat_of_zero_le e0
            have hk : k < ls.length := by omega
            have eL3 := s3 _ _ nLp eL2
            refine ⟨L, _, _, nmV ls[k], rfl, rfl, SqL.of eL3, atI_nat (by rw [List.getElem?_map, List.getElem?_eq_getElem hk]; rfl), gname_go ?_⟩
            try dsimp only
            have nk := nl.ok _ (List.getElem_mem hk)
            generalize ls[k] = l at nk ⊢
            obtain ⟨k1, k8⟩ := nameB_len nk
            have sl := slen (l := l) (by omega)
            refine ⟨_, rfl, _, rfl, _, rfl, sl, p, _, rfl, u3, by rw [SX.S_len]; omega, by rw [SX.S_len]; omega, fun e G4 f0 f1 s4 u4 => gname_go ?_⟩
            obtain ⟨k2, rfl⟩ := Int.eq_ofNat_of_zero_le f0
            rw [SX.S_len] at f1
            have eL4 := s4 _ _ nLp eL3
            try dsimp only
            refine ⟨_, rfl, _, rfl, _, rfl, S l, rfl, sl, _, rfl, p, 26, rfl, u4, by decide, by decide, fun e G5 g0 g1 s5 u5 => ?_⟩
            obtain ⟨k3, rfl⟩ := Int.eq_ofNat_of_zero_le g0
            have eL5 := s5 _ _ nLp eL4
            refine ⟨_, _, _, rfl, rfl, l26, atI_nat (low_at k3 (by omega)), _, _, rfl, rfl, ?_, _, rfl, _, rfl, _, _, rfl, rfl, _, rfl, S l, rfl, sl, _, _, rfl, rfl, ?_, gname_go ?_⟩
            · rw [slc_to, SX.S_len, List.length_take]
              show _ + 1 ≤ sizeLine
              rw [sizeLine_eq]
              omega
            · rw [slc_to, show (k2 : Int) + 1 = ((k2 + 1 : Nat) : Int) by omega, slc_from, show (S (l.take k2) ++ (⟨#[97 + k3]⟩ : Str)) = S (l.take k2 ++ [97 + k3]) from SX.S_cat .., SX.S_len, SX.S_len, sizeLine_eq]
              simp only [List.length_append, List.length_take, List.length_drop, List.length_singleton]
              omega
            · rw [slc_to, show (k2 : Int) + 1 = ((k2 + 1 : Nat) : Int) by omega, slc_from, show (S (l.take k2) ++ (⟨#[97 + k3]⟩ : Str)) = S (l.take k2 ++ [97 + k3]) from SX.S_cat .., SX.S_cat]
              refine key1 _ _ ⟨(l.take k2 ++ [97 + k3]) ++ l.drop (k2 + 1), _, rfl, nameB_put nk (by omega) ?_, eL5, ((s02.trans s3).trans s4).trans s5, u5⟩
              simp only [lowB, Bool.and_eq_true, Nat.ble_eq]
              omega
          · rw [decide_eq_false (show ¬ (0 : Int) < 0 + (i : Int) by omega)]
            exact iteF (key1 _ _ ⟨l0, _, rfl, n0, eL2, s02, u2⟩)
        · rw [decide_eq_false (show ¬ V.int d = V.int 0 from fun z => c (by injection z))]
          exact iteF (iteF (key1 _ _ ⟨l0, _, rfl, n0, eL2, s02, u2⟩))
    · rintro σ' G ⟨ls, x3, x4, x5, x6, rfl, eL, ll, nl, sG, uG⟩
      rw [Int.toNat_natCast] at ll
      exact ⟨_, rfl, q ls L G ll nl sG uG nLp nL eL⟩
end
end L2.K33
set_option Elab.async false
set_option linter.all false
set_option maxRecDepth 100000
set_option maxHeartbeats 8000000
namespace L2.K33
open PySem PySem.Spec PyProof.Rows L2.Tb
open SX (S)
abbrev s_lots : Stmt := top 52
abbrev N_lots : List Str := ["_law_lots_here"]
theorem sc_lots : FnScope N_lots [] (defScope s_lots) := ⟨rfl, rfl, rfl, by decide +kernel, rfl, by decide +kernel, by decide +kernel⟩
abbrev s_pairs : Stmt := top 53
abbrev N_pairs : List Str := ["_law_words", "_law_word"]
theorem sc_pairs : FnScope N_pairs [] (defScope s_pairs) := ⟨rfl, rfl, rfl, by decide +kernel, rfl, by decide +kernel, by decide +kernel⟩
/-- the lots, as the law writes them -/
abbrev Turn := Int × Int × Int
def turnV (t : Turn) : List V := [.int t.1, .int t.2.1, .int t.2.2]
def lotD : List (Str × List Turn) := [("plain", [(0, 1, 2)]), ("sides", [(0, 1, 2), (1, 0, 2)]), ("front", [(0, 1, 2), (2, 1, 0)]), ("back", [(0, 1, 2), (0, 2, 1)]), ("round", [(0, 1, 2), (1, 2, 0), (2, 0, 1)]), ("all", [(0, 1, 2), (0, 2, 1), (1, 0, 2), (1, 2, 0), (2, 0, 1), (2, 1, 0)])]
def LotL (H : Hp) (l : Addr) (lot : List Turn) : Prop := ∃ ts : List Addr, H l = some (.lst (ts.map V.ref)) ∧ Paired (fun t u => H t = some (.tup (turnV u))) ts lot
theorem paired_imp {α β : Type} {R S : α → β → Prop} (h : ∀ a b, R a b → S a b) : ∀ {xs : List α} {ys : List β}, Paired R xs ys → Paired S xs ys
  | _, _, .nil => .nil
  | _, _, .cons r t => .cons (h _ _ r) (paired_imp h t)
theorem LotL.same {H H' : Hp} {l : Addr} {lot : List Turn} (h : LotL H l lot) (s : Same H H') : LotL H' l lot := by
  obtain ⟨ts, h1, h2⟩ := h
  exact ⟨ts, s _ _ h1, paired_imp (fun _ _ e => s _ _ e) h2⟩
theorem LotL.keep {H H' : Hp} {p l : Addr} {kvs : List (Key × V)} {lot : List Turn} (h : LotL H l lot) (hp : H p = some (.dK kvs)) (s : SameB p H H') : LotL H' l lot := by
  obtain ⟨ts, h1, h2⟩ := h
  refine ⟨ts, s _ _ (fun z => ?_) h1, paired_imp (fun t u e => s _ _ (fun z => ?_) e) h2⟩
  · rw [z, hp] at h1
    cases h1
  · rw [z, hp] at e
    cases e
def tLotT : List Turn → TA
  | [] => tNil
  | t :: r => tCons (tTup (tCons (tC (.int t.1)) (tCons (tC (.int t.2.1)) (tCons (tC (.int t.2.2)) tNil)))) (tLotT r)
theorem lot_args : ∀ (lot : List Turn) {σ : St} {H : Hp} {R : List V → Hp → Prop}, (∀ (ts : List Addr) (H' : Hp), Same H H' → Paired (fun t u => H' t = some (.tup (turnV u))) ts lot → R (ts.map V.ref) H') → tLotT lot σ H R
  | [], σ, H, R, h => h [] H (fun _ _ e => e) .nil
  | t :: r, σ, H, R, h => ⟨Nat.le_of_ble_eq_true rfl, fun p np => lot_args r fun ts H' s hp => h (p :: ts) H' ((same_new np).trans s) (.cons (s _ _ upd_same) hp)⟩
theorem lot_run (lot : List Turn) (hz : lot.length ≤ 100) {σ : St} {H : Hp} {Q : VK} (h : ∀ (l : Addr) (H' : Hp), Same H H' → LotL H' l lot → Q (.ref l) H') : tLst (tLotT lot) σ H Q := by
  refine lot_args lot fun ts H' s hp => ⟨?_, fun l n => ?_⟩
  · rw [List.length_map, Paired.length hp, sizeLine_eq]
    omega
  · have s2 := same_new (o := .lst (ts.map V.ref)) n
    exact h l _ (s.trans s2) ⟨ts, upd_same, paired_imp (fun _ _ e => s2 _ _ e) hp⟩
theorem pair_step {k : Str} {tv : TE} {r : List (TE × TE)} {σ : St} {H : Hp} {Q : List (V × V) → Hp → Prop} (h : tv σ H fun y H2 => tPairs r σ H2 fun ps H3 => Q ((.str k, y) :: ps) H3) : tPairs ((tC (.str k), tv) :: r) σ H Q := h
theorem asg_step {te : TE} {g : TG} {b : TS} {D : Ends} {σ : St} {H : Hp} (h : te σ H fun x H1 => g x σ H1 (b D)) : tSeq (tAsg te g) b D σ H := h
/-- the law's dict of the lots -/
def LotsAt (H : Hp) (kvs : List (Key × V)) : Prop := Paired (fun kv d => kv.1 = Sum.inr d.1 ∧ ∃ l, kv.2 = V.ref l ∧ LotL H l d.2) kvs lotD
theorem LotsAt.same {H H' : Hp} {kvs : List (Key × V)} (h : LotsAt H kvs) (s : Same H H') : LotsAt H' kvs := paired_imp (fun _ _ ⟨e, l, e2, q⟩ => ⟨e, l, e2, q.same s⟩) h
def spLots : Sp := fun vs H Q _ => vs = [] ∧ ∀ (d : Addr) (H' : Hp) (kvs : List (Key × V)), Same H H' → H' d = some (.dK kvs) → LotsAt H' kvs → Q (.ref d) H'
section
variable {P : Program} {w : World} {K : PySem.W.Frag} {mg : Str → Option Value} {base : Heap} {f : Addr} {fd : FuncData}
theorem c_lots (F : FnP K "_law_lots" s_lots f fd) (hm : mg "_law_lots" = some (.ref f)) : Cal P w K mg base 1 "_law_lots" spLots := by
  have hnd := sc_lots.nd
  refine cal_mk F hm sc_lots (fun _ _ _ _ _ _ us hl => match us, hl with | [], _ => rfl) (fun vs H Q E h => ?_) (fun cdv A outer s H vs Q E hr h => ?_)
  · rw [h.1]
    rfl
  · obtain ⟨rfl, q⟩ := h
    refine ⟨_, (pss_cons (ps_set (i := 0) hnd rfl (by first | exact Or.inl rfl | exact Or.inr rfl) (pe_disp (pps_cons pe_str (pe_lst (pa_cons (pe_tup (pa_cons pe_int (pa_cons pe_int (pa_cons pe_int pa_nil)))) pa_nil)) (pps_cons pe_str (pe_lst (pa_cons (pe_tup (pa_cons pe_int (pa_cons pe_int (pa_cons pe_int pa_nil)))) (pa_cons (pe_tup (pa_cons pe_int (pa_cons pe_int (pa_cons pe_int pa_nil)))) pa_nil))) (pps_cons pe_str (pe_lst (pa_cons (pe_tup (pa_cons pe_int (pa_cons pe_int (pa_cons pe_int pa_nil)))) (pa_cons (pe_tup (pa_cons pe_int (pa_cons pe_int (pa_cons pe_int pa_nil)))) pa_nil))) pps_nil))) (by rfl) (by rfl) (fun z => by cases z) (by decide)))
      (pss_cons (ps_asg (pe_lst (pa_cons (pe_tup (pa_cons pe_int (pa_cons pe_int (pa_cons pe_int pa_nil)))) (pa_cons (pe_tup (pa_cons pe_int (pa_cons pe_int (pa_cons pe_int pa_nil)))) pa_nil))) (pg_sub (pv 0) pe_str (set_dict (Nat.lt_of_le_of_lt (Nat.add_le_add_left (by decide) _) hr.units))))
      (pss_cons (ps_asg (pe_lst (pa_cons (pe_tup (pa_cons pe_int (pa_cons pe_int (pa_cons pe_int pa_nil)))) (pa_cons (pe_tup (pa_cons pe_int (pa_cons pe_int (pa_cons pe_int pa_nil)))) (pa_cons (pe_tup (pa_cons pe_int (pa_cons pe_int (pa_cons pe_int pa_nil)))) pa_nil)))) (pg_sub (pv 0) pe_str (set_dict (Nat.lt_of_le_of_lt (Nat.add_le_add_left (by decide) _) hr.units))))
      (pss_cons (ps_asg (pe_lst (pa_cons (pe_tup (pa_cons pe_int (pa_cons pe_int (pa_cons pe_int pa_nil)))) (pa_cons (pe_tup (pa_cons pe_int (pa_cons pe_int (pa_cons pe_int pa_nil)))) (pa_cons (pe_tup (pa_cons pe_int (pa_cons pe_int (pa_cons pe_int pa_nil)))) (pa_cons (pe_tup (pa_cons pe_int (pa_cons pe_int (pa_cons pe_int pa_nil)))) (pa_cons (pe_tup (pa_cons pe_int (pa_cons pe_int (pa_cons pe_int pa_nil)))) (pa_cons (pe_tup (pa_cons pe_int (pa_cons pe_int (pa_cons pe_int pa_nil)))) pa_nil))))))) (pg_sub (pv 0) pe_str (set_dict (Nat.lt_of_le_of_lt (Nat.add_le_add_left (by decide) _) hr.units))))
      (pss_one (ps_ret (pv 0))))))), ?_⟩
    refine fun p np => ?_
    have y0 := same_new (o := .dK []) np
    have f0 := upd_same (H := H) (a := p) (o := .dK [])
    generalize upd H p (.dK []) = G0 at y0 f0 ⊢
    refine pair_step (lot_run [(0, 1, 2)] (by decide) fun l0 G1 s1 q0 => pair_step (lot_run [(0, 1, 2), (1, 0, 2)] (by decide) fun l1 G2 s2 q1 => pair_step (lot_run [(0, 1, 2), (2, 1, 0)] (by decide) fun l2 G3 s3 q2 => ?_)))
    have f3 := s3 _ _ (s2 _ _ (s1 _ _ f0))
    refine ⟨f3, [(.inr ("plain" : Str), .ref l0), (.inr ("sides" : Str), .ref l1), (.inr ("front" : Str), .ref l2)], rfl, Nat.le_of_ble_eq_true rfl, ?_⟩
    have b3 : SameB p G3 (upd G3 p (.dK (mergeK [] [(.inr ("plain" : Str), .ref l0), (.inr ("sides" : Str), .ref l1), (.inr ("front" : Str), .ref l2)]))) := SameB.set
    have e3 : upd G3 p (.dK (mergeK [] [(.inr ("plain" : Str), .ref l0), (.inr ("sides" : Str), .ref l1), (.inr ("front" : Str), .ref l2)])) p = some (.dK [(.inr ("plain" : Str), .ref l0), (.inr ("sides" : Str), .ref l1), (.inr ("front" : Str), .ref l2)]) := upd_same
    generalize upd G3 p (.dK (mergeK [] [(.inr ("plain" : Str), .ref l0), (.inr ("sides" : Str), .ref l1), (.inr ("front" : Str), .ref l2)])) = K3 at b3 e3 ⊢
    have B3 : SameB p H K3 := (SameB.of (y0.trans (s1.trans (s2.trans s3)))).trans b3
    have q0 := ((q0.same s2).same s3).keep f3 b3
    have q1 := (q1.same s3).keep f3 b3
    have q2 := q2.keep f3 b3
    refine asg_step (lot_run [(0, 1, 2), (0, 2, 1)] (by decide) fun l3 G4 s4 q3 => ?_)
    have f4 := s4 _ _ e3
    refine ⟨_, rfl, p, _, rfl, DPut.k (k := .inr ("back" : Str)) f4 (by rw [sizeLine_eq]; exact Nat.le_of_ble_eq_true rfl), ?_⟩
    have b4 : SameB p G4 (upd G4 p (.dK (putK [(.inr ("plain" : Str), .ref l0), (.inr ("sides" : Str), .ref l1), (.inr ("front" : Str), .ref l2)] (.inr ("back" : Str)) (.ref l3)))) := SameB.set
    have e4 : upd G4 p (.dK (putK [(.inr ("plain" : Str), .ref l0), (.inr ("sides" : Str), .ref l1), (.inr ("front" : Str), .ref l2)] (.inr ("back" : Str)) (.ref l3))) p = some (.dK [(.inr ("plain" : Str), .ref l0), (.inr ("sides" : Str), .ref l1), (.inr ("front" : Str), .ref l2), (.inr ("back" : Str), .ref l3)]) := upd_same
    show tSeq _ _ _ _ (upd G4 p (.dK (putK [(.inr ("plain" : Str), .ref l0), (.inr ("sides" : Str), .ref l1), (.inr ("front" : Str), .ref l2)] (.inr ("back" : Str)) (.ref l3))))
    generalize upd G4 p (.dK (putK [(.inr ("plain" : Str), .ref l0), (.inr ("sides" : Str), .ref l1), (.inr ("front" : Str), .ref l2)] (.inr ("back" : Str)) (.ref l3))) = K4 at b4 e4 ⊢
    have B4 := (B3.trans (SameB.of s4)).trans b4
    have q0 := (q0.same s4).keep f4 b4
    have q1 := (q1.same s4).keep f4 b4
    have q2 := (q2.same s4).keep f4 b4
    have q3 := q3.keep f4 b4
    refine asg_step (lot_run [(0, 1, 2), (1, 2, 0), (2, 0, 1)] (by decide) fun l4 G5 s5 q4 => ?_)
    have f5 := s5 _ _ e4
    refine ⟨_, rfl, p, _, rfl, DPut.k (k := .inr ("round" : Str)) f5 (by rw [sizeLine_eq]; exact Nat.le_of_ble_eq_true rfl), ?_⟩
    have b5 : SameB p G5 (upd G5 p (.dK (putK [(.inr ("plain" : Str), .ref l0), (.inr ("sides" : Str), .ref l1), (.inr ("front" : Str), .ref l2), (.inr ("back" : Str), .ref l3)] (.inr ("round" : Str)) (.ref l4)))) := SameB.set
    have e5 : upd G5 p (.dK (putK [(.inr ("plain" : Str), .ref l0), (.inr ("sides" : Str), .ref l1), (.inr ("front" : Str), .ref l2), (.inr ("back" : Str), .ref l3)] (.inr ("round" : Str)) (.ref l4))) p = some (.dK [(.inr ("plain" : Str), .ref l0), (.inr ("sides" : Str), .ref l1), (.inr ("front" : Str), .ref l2), (.inr ("back" : Str), .ref l3), (.inr ("round" : Str), .ref l4)]) := upd_same
    show tSeq _ _ _ _ (upd G5 p (.dK (putK [(.inr ("plain" : Str), .ref l0), (.inr ("sides" : Str), .ref l1), (.inr ("front" : Str), .ref l2), (.inr ("back" : Str), .ref l3)] (.inr ("round" : Str)) (.ref l4))))
    generalize upd G5 p (.dK (putK [(.inr ("plain" : Str), .ref l0), (.inr ("sides" : Str), .ref l1), (.inr ("front" : Str), .ref l2), (.inr ("back" : Str), .ref l3)] (.inr ("round" : Str)) (.ref l4))) = K5 at b5 e5 ⊢
    have B5 := (B4.trans (SameB.of s5)).trans b5
    have q0 := (q0.same s5).keep f5 b5
    have q1 := (q1.same s5).keep f5 b5
    have q2 := (q2.same s5).keep f5 b5
    have q3 := (q3.same s5).keep f5 b5
    have q4 := q4.keep f5 b5
    refine asg_step (lot_run [(0, 1, 2), (0, 2, 1), (1, 0, 2), (1, 2, 0), (2, 0, 1), (2, 1, 0)] (by decide) fun l5 G6 s6 q5 => ?_)
    have f6 := s6 _ _ e5
    refine ⟨_, rfl, p, _, rfl, DPut.k (k := .inr ("all" : Str)) f6 (by rw [sizeLine_eq]; exact Nat.le_of_ble_eq_true rfl), ?_⟩
    have b6 : SameB p G6 (upd G6 p (.dK (putK [(.inr ("plain" : Str), .ref l0), (.inr ("sides" : Str), .ref l1), (.inr ("front" : Str), .ref l2), (.inr ("back" : Str), .ref l3), (.inr ("round" : Str), .ref l4)] (.inr ("all" : Str)) (.ref l5)))) := SameB.set
    have e6 : upd G6 p (.dK (putK [(.inr ("plain" : Str), .ref l0), (.inr ("sides" : Str), .ref l1), (.inr ("front" : Str), .ref l2), (.inr ("back" : Str), .ref l3), (.inr ("round" : Str), .ref l4)] (.inr ("all" : Str)) (.ref l5))) p = some (.dK [(.inr ("plain" : Str), .ref l0), (.inr ("sides" : Str), .ref l1), (.inr ("front" : Str), .ref l2), (.inr ("back" : Str), .ref l3), (.inr ("round" : Str), .ref l4), (.inr ("all" : Str), .ref l5)]) := upd_same
    show tRet _ _ _ (upd G6 p (.dK (putK [(.inr ("plain" : Str), .ref l0), (.inr ("sides" : Str), .ref l1), (.inr ("front" : Str), .ref l2), (.inr ("back" : Str), .ref l3), (.inr ("round" : Str), .ref l4)] (.inr ("all" : Str)) (.ref l5))))
    generalize upd G6 p (.dK (putK [(.inr ("plain" : Str), .ref l0), (.inr ("sides" : Str), .ref l1), (.inr ("front" : Str), .ref l2), (.inr ("back" : Str), .ref l3), (.inr ("round" : Str), .ref l4)] (.inr ("all" : Str)) (.ref l5))) = K6 at b6 e6 ⊢
    have B6 := (B5.trans (SameB.of s6)).trans b6
    have q0 := (q0.same s6).keep f6 b6
    have q1 := (q1.same s6).keep f6 b6
    have q2 := (q2.same s6).keep f6 b6
    have q3 := (q3.same s6).keep f6 b6
    have q4 := (q4.same s6).keep f6 b6
    have q5 := q5.keep f6 b6
    refine ⟨_, rfl, q p K6 _ (fun b o e => B6 b o (ne_of_none e np) e) e6 ?_⟩
    exact .cons ⟨rfl, l0, rfl, q0⟩ (.cons ⟨rfl, l1, rfl, q1⟩ (.cons ⟨rfl, l2, rfl, q2⟩ (.cons ⟨rfl, l3, rfl, q3⟩ (.cons ⟨rfl, l4, rfl, q4⟩ (.cons ⟨rfl, l5, rfl, q5⟩ .nil)))))
end
theorem same_put {H0 H : Hp} {D : Addr} {o : HO} (n : H0 D = none) (s : Same H0 H) : Same H0 (upd H D o) := fun b u e => by rw [upd_ne (ne_of_none e n)]; exact s _ _ e
theorem retop_step {r : R2} {ta tb : TE} {D : Ends} {σ : St} {H : Hp} (h : ta σ H fun x H1 => tb σ H1 fun y H2 => r x y H2 D.rt) : tRet (tOp r ta tb) D σ H := h
def wordsD : List Str := lotD.map (·.1)
def pairD : List (Str × Bool) := wordsD.map (fun x => (x, false)) ++ wordsD.map (fun x => (x, true))
theorem LotsAt.keys {H : Hp} {kvs : List (Key × V)} (h : LotsAt H kvs) : (kvs.map fun kv => kV kv.1) = wordsD.map V.str := by
  unfold LotsAt at h
  unfold wordsD
  generalize lotD = ds at h
  induction h with
  | nil => rfl
  | cons r _ ih =>
    rw [List.map_cons, List.map_cons, List.map_cons, ih, r.1]
    rfl
def PairAt (H : Hp) (t : Addr) (d : Str × Bool) : Prop := H t = some (.tup [.str d.1, .bl d.2])
def spPairs : Sp := fun vs H Q _ => vs = [] ∧ ∀ (l : Addr) (H' : Hp) (ts : List Addr), Same H H' → H' l = some (.lst (ts.map V.ref)) → Paired (PairAt H') ts pairD → Q (.ref l) H'
theorem paired_app {α β : Type} {R : α → β → Prop} : ∀ {xs xs' : List α} {ys ys' : List β}, Paired R xs ys → Paired R xs' ys' → Paired R (xs ++ xs') (ys ++ ys')
  | _, _, _, _, .nil, h => h
  | _, _, _, _, .cons r t, h => .cons r (paired_app t h)
theorem pairs_run {K : PySem.W.Frag} (b : Bool) {w : Addr} {H : Hp} {Q : VK} (hw : H w = some (.lst (wordsD.map V.str))) (q : ∀ (D : Addr) (H' : Hp) (ts : List Addr), Same H H' → H' D = some (.lst (ts.map V.ref)) → Paired (PairAt H') ts (wordsD.map fun x => (x, b)) → Q (.ref D) H') :
    tLc (iList K (tVar 0)) (gName 1) tYes (tTup (tCons (tVar 1) (tCons (tC (.bl b)) tNil))) [1] [some (.ref w), none] H Q := by
  refine ⟨_, rfl, w, rfl, ⟨_, SqL.of hw⟩, fun D nD => ?_⟩
  refine lc_list (xs := wordsD.map V.str) (fun n H' => Same H H' ∧ ∃ ts : List Addr, H' D = some (.lst (ts.map V.ref)) ∧ ts.length = n ∧ Paired (PairAt H') ts ((wordsD.take n).map fun x => (x, b))) ⟨same_new nD, [], upd_same, rfl, .nil⟩ (fun n H' _ h => SqL.of (h.1 _ _ hw)) ?_ ?_
  · rintro n x H1 hx ⟨s1, ts, e1, hl, p1⟩
    have hn : n < wordsD.length := by
      have := (List.getElem?_eq_some_iff.mp hx).1
      rwa [List.length_map] at this
    have ex : x = .str wordsD[n] := by
      rw [List.getElem?_map, List.getElem?_eq_getElem hn] at hx
      exact (Option.some.inj hx).symm
    refine ⟨rfl, ?_⟩
    unfold tYes
    dsimp only
    rw [if_pos rfl]
    refine ⟨_, rfl, Nat.le_of_ble_eq_true rfl, fun t nt => ?_⟩
    have st := same_new (o := .tup [x, .bl b]) nt
    have hD : t ≠ D := fun z => by
      rw [z, e1] at nt
      cases nt
    have eD := st _ _ e1
    refine ⟨_, eD, ?_, same_put nD (s1.trans st), ts ++ [t], ?_, ?_, ?_⟩
    · rw [List.length_map, hl, sizeLine_eq]
      have : wordsD.length = 6 := rfl
      omega
    · rw [upd_same, List.map_append]
      rfl
    · rw [List.length_append, hl]
      rfl
    · have up : ∀ {c : Addr} {o : HO}, H1 c = some o → (∀ xs, o ≠ .lst xs) → upd (upd H1 t (.tup [x, .bl b])) D (.lst (ts.map V.ref ++ [.ref t])) c = some o := fun {c o} e ne => by
        rw [upd_ne (fun z => by rw [z, e1] at e; exact ne _ (Option.some.inj e).symm)]
        exact st _ _ e
      rw [List.take_succ, List.getElem?_eq_getElem hn, List.map_append]
      refine paired_app (paired_imp (fun u d e => up e fun xs z => by cases z) p1) (.cons ?_ .nil)
      show upd _ _ _ t = some (.tup [.str wordsD[n], .bl b])
      rw [upd_ne hD, upd_same, ex]
  · rintro H1 ⟨s1, ts, e1, hl, p1⟩
    refine q D H1 ts s1 e1 ?_
    rw [List.length_map, List.take_length] at p1
    exact p1
section
variable {P : Program} {w : World} {K : PySem.W.Frag} {mg : Str → Option Value} {base : Heap} {f : Addr} {fd : FuncData}
theorem c_pairs (T : Bt mg) (F : FnP K "_law_pairs" s_pairs f fd) (hm : mg "_law_pairs" = some (.ref f)) (k_lots : Cal P w K mg base 1 "_law_lots" spLots) : Cal P w K mg base 2 "_law_pairs" spPairs := by
  have hnd := sc_pairs.nd
  refine cal_mk F hm sc_pairs (fun _ _ _ _ _ _ us hl => match us, hl with | [], _ => rfl) (fun vs H Q E h => ?_) (fun cdv A outer s H vs Q E hr h => ?_)
  · rw [h.1]
    rfl
  · obtain ⟨rfl, q⟩ := h
    refine ⟨_, (pss_cons (ps_set (i := 0) hnd rfl (by first | exact Or.inl rfl | exact Or.inr rfl) (pe_callTy (call_list_dK (by rfl)) (by rfl) T.m_list (by decide +kernel) (pa_cons (pe_cal0 k_lots hr (by omega) (by rfl)) pa_nil)))
      (pss_one (ps_ret (pe_op op_cat (pe_lc (own := [("_law_word", 1)]) (tt := tYes) (by rfl) hnd (pi_list (pv 0)) (blkOk_by (own := [("_law_word", 1)]) (N := N_pairs) (sc := defScope s_pairs) (by decide +kernel)) (fun _ _ _ _ _ => (pg_name (i := 1) hnd rfl (by first | exact Or.inl rfl | exact Or.inr rfl))) (fun _ _ _ _ _ => pts_nil) (fun _ _ _ _ _ => (pe_tup (pa_cons (pv 1) (pa_cons pe_bl pa_nil))))) (pe_lc (own := [("_law_word", 1)]) (tt := tYes) (by rfl) hnd (pi_list (pv 0)) (blkOk_by (own := [("_law_word", 1)]) (N := N_pairs) (sc := defScope s_pairs) (by decide +kernel)) (fun _ _ _ _ _ => (pg_name (i := 1) hnd rfl (by first | exact Or.inl rfl | exact Or.inr rfl))) (fun _ _ _ _ _ => pts_nil) (fun _ _ _ _ _ => (pe_tup (pa_cons (pv 1) (pa_cons pe_bl pa_nil))))))))), ?_⟩
    refine ⟨rfl, fun d H1 kvs s1 e1 L1 => ⟨d, kvs, rfl, e1, fun w nw => ?_⟩⟩
    rw [L1.keys]
    have s2 := same_new (o := .lst (wordsD.map V.str)) nw
    unfold gName
    dsimp only
    refine retop_step ?_
    refine pairs_run false upd_same fun D1 H2 ts1 s3 f1 p1 => ?_
    refine pairs_run true (s3 _ _ upd_same) fun D2 H3 ts2 s4 f2 p2 => ?_
    refine ⟨D1, D2, _, _, rfl, rfl, s4 _ _ f1, f2, ?_, fun l nl => ?_⟩
    · rw [List.length_map, List.length_map, Paired.length p1, Paired.length p2, sizeLine_eq]
      exact Nat.le_of_ble_eq_true rfl
    · have s5 := same_new (o := .lst (ts1.map V.ref ++ ts2.map V.ref)) nl
      refine q l _ (ts1 ++ ts2) ((((s1.trans s2).trans s3).trans s4).trans s5) (by rw [upd_same, List.map_append]) ?_
      exact paired_app (paired_imp (fun _ _ e => s5 _ _ (s4 _ _ e)) p1) (paired_imp (fun _ _ e => s5 _ _ e) p2)
end
/-! ### the kinds -/
theorem op_isnotB {X : Cx} : OpR X (compareOp .IsNot) (fun x y H Q => ∃ b, y = .bl b ∧ Q (.bl (!decide (x = .bl b))) H) := by
  intro pins s σ H x y v u Q I rx ry h
  obtain ⟨b, rfl, q⟩ := h
  cases (show u = Value.bool b from ry)
  by_cases e : x = .bl b
  · subst e
    cases (show v = Value.bool b from rx)
    exact wpAny_isNot_self rfl ⟨.bl false, H, I, rfl, by simpa using q⟩
  · have q2 : Q (.bl true) H := by simpa [e] using q
    have fin : ∀ {w : Value}, v = w → w ≠ .bool b → (plainIs w (.bool b) = true) → wpAny (model X.prog X.w) X.A (compareOp .IsNot v (.bool b)) (EP X pins σ Q) X.xe s := fun e1 e2 e3 => by
      rw [e1]
      exact wpAny_isNot_other e3 e2 ⟨.bl true, H, I, rfl, q2⟩
    cases x with
    | bl c =>
      cases (show v = Value.bool c from rx)
      exact fin rfl (fun z => e (by injection z with z; rw [z])) rfl
    | non => exact fin rx (fun z => nomatch z) rfl
    | ref a => exact fin rx (fun z => nomatch z) rfl
    | ty n => exact fin rx (fun z => nomatch z) rfl
    | int i =>
      obtain ⟨t, e1⟩ := rx
      exact fin e1 (fun z => nomatch z) rfl
    | str i =>
      obtain ⟨t, e1⟩ := rx
      exact fin e1 (fun z => nomatch z) rfl
    | byt i =>
      obtain ⟨t, e1⟩ := rx
      exact fin e1 (fun z => nomatch z) rfl
    | flt i =>
      obtain ⟨t, e1⟩ := rx
      exact fin e1 (fun z => nomatch z) rfl
abbrev s_kinit : Stmt := inClass (top 29) 0
abbrev N_kinit : List Str := ["self", "turns", "calm"]
theorem sc_kinit : FnScope N_kinit ["self", "turns", "calm"] (defScope s_kinit) := ⟨rfl, rfl, rfl, by decide +kernel, rfl, by decide +kernel, by decide +kernel⟩
/-- not a text -/
structure NoS (K : PySem.W.Frag) (H : Hp) (x : V) : Prop where
  ex : ∃ t, TyX K H x t ∧ PySem.W.kitOne K t (.type "str") = some false
theorem str_ty {K : PySem.W.Frag} {H : Hp} {z : Str} : TyX K H (.str z) (.type "str") := .base (.str z)
theorem str_kit {K : PySem.W.Frag} : PySem.W.kitOne K (.type "str") (.type "str") = some true := rfl
theorem iteT2 {c : Bool} {A B : Prop} (hc : c = true) (h : A) : if c = true then A else B := by rw [if_pos hc]; exact h
theorem iteN2 {c : Bool} {A B : Prop} (hc : c = false) (h : B) : if c = true then A else B := by rw [if_neg (by rw [hc]; decide)]; exact h
structure KiF (P : Program) (w : World) (K : PySem.W.Frag) (mg : Str → Option Value) (base : Heap) (C dL CT CF : Addr) (es : Array DictEntry) (n : Nat) : Prop where
  mgC : mg "Kind" = some (.ref C)
  cls : Cls K C
  noT : NoAttr K C "_turns"
  noC : NoAttr K C "_calm"
  mgL : mg "LOTS" = some (.ref dL)
  tab : KDict K w dL es n
  inL : ∀ z, ∃ r, PySem.W.nsIn K dL z = some r ∧ r.isSome = wordsD.contains z
  eT : ErC P w K mg base "InvalidTurns" "given" bVE CT
  eF : ErC P w K mg base "InvalidFlag" "given" bVE CF
  tyT : PySem.W.typeIn K (.ref CT) = some (.type "type")
  tyF : PySem.W.typeIn K (.ref CF) = some (.type "type")
def kindF (z : Str) (b : Bool) : List (Str × V) := [("_turns", .str z), ("_calm", .bl b)]
def spKinit (K : PySem.W.Frag) (C CT CF : Addr) : Sp := fun vs H Q E => ∃ (a dx : Addr) (t c : V), vs = [.ref a, t, c] ∧ H a = some (.ins C dx []) ∧
  ((∃ z b, t = .str z ∧ wordsD.contains z = true ∧ c = .bl b ∧ Q .non (upd (upd H a (.ins C dx [("_turns", .str z)])) a (.ins C dx (kindF z b)))) ∨
   (((∃ z, t = .str z ∧ wordsD.contains z = false) ∨ NoS K H t) ∧ ∀ d H', Same H H' → H d = none → H' d = some (.xd [("given", t)]) → E (.ref CT) (some d) H') ∨
   (∃ z, t = .str z ∧ wordsD.contains z = true ∧ (∀ b, c ≠ .bl b) ∧ ∀ d H', Same H H' → H d = none → H' d = some (.xd [("given", c)]) → E (.ref CF) (some d) H'))
section
variable {P : Program} {w : World} {K : PySem.W.Frag} {mg : Str → Option Value} {base : Heap} {f : Addr} {fd : FuncData} {C dL CT CF : Addr} {es : Array DictEntry} {n : Nat}
theorem c_kinit (T : Bt mg) (mstr : mg "str" = none) (KF : KiF P w K mg base C dL CT CF es n) (F : FunD K "__init__" "Kind.__init__" (defArgs s_kinit) (defBody s_kinit) (defScope s_kinit) [] [("calm", .bl false)] f fd) : FnOk P w K mg base (L2.CX P w) 3 f fd ["self", "turns", "calm"] (spKinit K C CT CF) := by
  have hnd := sc_kinit.nd
  refine F.ok sc_kinit (fun vs H Q E h => ?_) (fun cdv A outer s H vs Q E hr h => ?_)
  · obtain ⟨a, dx, t, c, rfl, _⟩ := h
    rfl
  · obtain ⟨a, dx, t, c, rfl, ha, h⟩ := h
    refine ⟨_, (pss_cons (ps_if (PW.pt (pw_or (pt_not (pt_val (pe_callB call_isi (by rfl) T.m_isinstance (by decide +kernel) (pa_cons (pv 1) (pa_cons (pe_bltn (v := .ty "str") (by rfl) mstr (by decide +kernel) rfl) pa_nil))))) (pw_or1 (pt_cmpR (op_notIn_kd KF.tab) (pv 1) (pe_glob (v := .ref dL) (by rfl) KF.mgL rfl) (by rfl)))))
      (pss_one (ps_raise (by rfl) (takes_of rfl rfl rfl rfl) (pmk_er KF.eT KF.tyT hr (by omega) (by rfl) (pv 1))))
      pss_nil)
      (pss_cons (ps_if (PW.pt (pw_and (pt_cmpR op_isnotB (pv 2) pe_bl (nomark _)) (pw_and1 (pt_cmpR op_isnotB (pv 2) pe_bl (nomark _)))))
      (pss_one (ps_raise (by rfl) (takes_of rfl rfl rfl rfl) (pmk_er KF.eF KF.tyF hr (by omega) (by rfl) (pv 2))))
      pss_nil)
      (pss_cons (ps_fld (pv 0) (pv 1) (by rfl))
      (pss_one (ps_fld (pv 0) (pv 2) (by rfl)))))), ?_⟩
    rcases h with ⟨z, b, rfl, hz, rfl, q⟩ | ⟨hb, q⟩ | ⟨z, rfl, hz, hc, q⟩
    · obtain ⟨r, e, hr2⟩ := KF.inL z
      refine ⟨_, rfl, _, _, _, _, _, rfl, .ty _, str_ty, str_kit, _, rfl, iteF ⟨_, rfl, z, r, rfl, rfl, e, ?_⟩⟩
      rw [hr2, hz]
      refine ⟨_, rfl, iteF ?_⟩
      refine ⟨_, rfl, true, rfl, _, rfl, ?_⟩
      cases b with
      | true =>
        refine iteN2 (by decide +kernel) (iteF ?_)
        refine ⟨_, rfl, _, rfl, a, C, dx, [], rfl, ha, KF.cls, KF.noT, by decide, ?_⟩
        refine ⟨_, rfl, _, rfl, a, C, dx, _, rfl, upd_same, KF.cls, KF.noC, Nat.le_of_ble_eq_true rfl, ?_⟩
        exact q
      | false =>
        refine iteT2 (by decide +kernel) ⟨_, rfl, false, rfl, _, rfl, iteN2 (by decide +kernel) ?_⟩
        refine ⟨_, rfl, _, rfl, a, C, dx, [], rfl, ha, KF.cls, KF.noT, by decide, ?_⟩
        refine ⟨_, rfl, _, rfl, a, C, dx, _, rfl, upd_same, KF.cls, KF.noC, Nat.le_of_ble_eq_true rfl, ?_⟩
        exact q
    · rcases hb with ⟨z, rfl, hz⟩ | hb
      · obtain ⟨r, e, hr2⟩ := KF.inL z
        refine ⟨_, rfl, _, _, _, _, _, rfl, .ty _, str_ty, str_kit, _, rfl, iteF ⟨_, rfl, z, r, rfl, rfl, e, ?_⟩⟩
        rw [hr2, hz]
        exact ⟨_, rfl, iteT ⟨_, rfl, fun d H' s n x => q d H' s n x⟩⟩
      · obtain ⟨T0, ty, k⟩ := hb.ex
        exact ⟨_, rfl, _, _, _, _, _, rfl, .ty _, ty, k, _, rfl, iteT (iteT ⟨_, rfl, fun d H' s n x => q d H' s n x⟩)⟩
    · obtain ⟨r, e, hr2⟩ := KF.inL z
      refine ⟨_, rfl, _, _, _, _, _, rfl, .ty _, str_ty, str_kit, _, rfl, iteF ⟨_, rfl, z, r, rfl, rfl, e, ?_⟩⟩
      rw [hr2, hz]
      refine ⟨_, rfl, iteF ?_⟩
      refine ⟨_, rfl, true, rfl, _, rfl, ?_⟩
      refine iteT2 (by rw [decide_eq_false (hc true)]; rfl) ⟨_, rfl, false, rfl, _, rfl, iteT2 (by rw [decide_eq_false (hc false)]; rfl) ?_⟩
      exact ⟨_, rfl, fun d H' s n x => q d H' s n x⟩
end
abbrev s_kturns : Stmt := inClass (top 29) 2
abbrev N_kturns : List Str := ["self"]
theorem sc_kturns : FnScope N_kturns ["self"] (defScope s_kturns) := ⟨rfl, rfl, rfl, by decide +kernel, rfl, by decide +kernel, by decide +kernel⟩
abbrev s_kcalm : Stmt := inClass (top 29) 3
abbrev N_kcalm : List Str := ["self"]
theorem sc_kcalm : FnScope N_kcalm ["self"] (defScope s_kcalm) := ⟨rfl, rfl, rfl, by decide +kernel, rfl, by decide +kernel, by decide +kernel⟩
abbrev s_klot : Stmt := inClass (top 29) 4
abbrev N_klot : List Str := ["self"]
theorem sc_klot : FnScope N_klot ["self"] (defScope s_klot) := ⟨rfl, rfl, rfl, by decide +kernel, rfl, by decide +kernel, by decide +kernel⟩
abbrev s_kstr : Stmt := inClass (top 29) 10
abbrev N_kstr : List Str := ["self"]
theorem sc_kstr : FnScope N_kstr ["self"] (defScope s_kstr) := ⟨rfl, rfl, rfl, by decide +kernel, rfl, by decide +kernel, by decide +kernel⟩
abbrev s_keq : Stmt := inClass (top 29) 9
abbrev N_keq : List Str := ["self", "other"]
theorem sc_keq : FnScope N_keq ["self", "other"] (defScope s_keq) := ⟨rfl, rfl, rfl, by decide +kernel, rfl, by decide +kernel, by decide +kernel⟩
/-- a kind stands at a -/
def KindAt (C : Addr) (H : Hp) (a : Addr) (z : Str) (b : Bool) : Prop := ∃ dx, H a = some (.ins C dx (kindF z b))
theorem KindAt.same {C : Addr} {H H' : Hp} {a : Addr} {z : Str} {b : Bool} (h : KindAt C H a z b) (s : Same H H') : KindAt C H' a z b := let ⟨dx, e⟩ := h; ⟨dx, s _ _ e⟩
def lotOf (z : Str) : List Turn := (lotD.lookup z).getD []
/-- a lot of the program, a tuple of tuples that stands for good -/
def LotK (K : PySem.W.Frag) (l : Addr) (lot : List Turn) : Prop := ∃ ts : List Addr, (∀ H, SqT K H l (ts.map V.ref)) ∧ Paired (fun t u => ∀ H, SqT K H t (turnV u)) ts lot
def spKturns (C : Addr) : Sp := fun vs H Q _ => ∃ (a : Addr) (z : Str) (b : Bool), vs = [.ref a] ∧ KindAt C H a z b ∧ Q (.str z) H
def spKcalm (C : Addr) : Sp := fun vs H Q _ => ∃ (a : Addr) (z : Str) (b : Bool), vs = [.ref a] ∧ KindAt C H a z b ∧ Q (.bl b) H
def spKlot (K : PySem.W.Frag) (C : Addr) : Sp := fun vs H Q _ => ∃ (a : Addr) (z : Str) (b : Bool), vs = [.ref a] ∧ KindAt C H a z b ∧ wordsD.contains z = true ∧ ∀ l, LotK K l (lotOf z) → Q (.ref l) H
/-- a kind's text -/
def kindS (z : Str) (b : Bool) : Str := cond b (Str.empty ++ ("calm " : Str) ++ z) z
def spKstr (C : Addr) : Sp := fun vs H Q _ => ∃ (a : Addr) (z : Str) (b : Bool), vs = [.ref a] ∧ KindAt C H a z b ∧ z.length ≤ 1000 ∧ Q (.str (kindS z b)) H
def spKeq (K : PySem.W.Frag) (C : Addr) : Sp := fun vs H Q _ => ∃ (a : Addr) (z : Str) (b : Bool) (y : V), vs = [.ref a, y] ∧ KindAt C H a z b ∧
  ((∃ (c : Addr) (z2 : Str) (b2 : Bool), y = .ref c ∧ KindAt C H c z2 b2 ∧ Q (.bl (decide (z = z2) && decide (b = b2))) H) ∨ (∃ t, TyX K H y t ∧ PySem.W.kitOne K t (.ref C) = some false ∧ Q (.bl false) H))
structure KiG (K : PySem.W.Frag) (w : World) (mg : Str → Option Value) (C dL : Addr) : Prop where
  calm : ∃ t, mg "_CALM" = some (.str "calm " t)
  lots : ∀ z, wordsD.contains z = true → ∃ l, KDct K w dL z (.ref l) ∧ LotK K l (lotOf z)
  ex : InsC K C
  self : PySem.W.kitOne K (.ref C) (.ref C) = some true
section
variable {P : Program} {w : World} {K : PySem.W.Frag} {mg : Str → Option Value} {base : Heap} {f : Addr} {fd : FuncData} {C dL CT CF : Addr} {es : Array DictEntry} {n : Nat}
theorem c_kturns (KF : KiF P w K mg base C dL CT CF es n) (F : FunD K "turns" "Kind.turns" (defArgs s_kturns) (defBody s_kturns) (defScope s_kturns) [] [] f fd) : FnOk P w K mg base L2.CX0 1 f fd ["self"] (spKturns C) := by
  have hnd := sc_kturns.nd
  refine F.ok sc_kturns (fun vs H Q E h => ?_) (fun cdv A outer s H vs Q E hr h => ?_)
  · obtain ⟨a, z, b, rfl, _⟩ := h
    rfl
  · obtain ⟨a, z, b, rfl, ⟨dx, e⟩, q⟩ := h
    exact ⟨_, (pss_one (ps_ret (pe_fld (pv 0) (by rfl)))), _, rfl, a, C, dx, _, _, rfl, e, KF.cls, KF.noT, rfl, q⟩
theorem c_kcalm (KF : KiF P w K mg base C dL CT CF es n) (F : FunD K "calm" "Kind.calm" (defArgs s_kcalm) (defBody s_kcalm) (defScope s_kcalm) [] [] f fd) : FnOk P w K mg base L2.CX0 1 f fd ["self"] (spKcalm C) := by
  have hnd := sc_kcalm.nd
  refine F.ok sc_kcalm (fun vs H Q E h => ?_) (fun cdv A outer s H vs Q E hr h => ?_)
  · obtain ⟨a, z, b, rfl, _⟩ := h
    rfl
  · obtain ⟨a, z, b, rfl, ⟨dx, e⟩, q⟩ := h
    exact ⟨_, (pss_one (ps_ret (pe_fld (pv 0) (by rfl)))), _, rfl, a, C, dx, _, _, rfl, e, KF.cls, KF.noC, rfl, q⟩
theorem c_klot (KF : KiF P w K mg base C dL CT CF es n) (KG : KiG K w mg C dL) (F : FunD K "lot" "Kind.lot" (defArgs s_klot) (defBody s_klot) (defScope s_klot) [] [] f fd) : FnOk P w K mg base L2.CX0 1 f fd ["self"] (spKlot K C) := by
  have hnd := sc_klot.nd
  refine F.ok sc_klot (fun vs H Q E h => ?_) (fun cdv A outer s H vs Q E hr h => ?_)
  · obtain ⟨a, z, b, rfl, _⟩ := h
    rfl
  · obtain ⟨a, z, b, rfl, ⟨dx, e⟩, hz, q⟩ := h
    obtain ⟨l, kd, lk⟩ := KG.lots z hz
    exact ⟨_, (pss_one (ps_ret (pe_ix ix_kdict (pe_glob (v := .ref dL) (by rfl) KF.mgL rfl) (pe_fld (pv 0) (by rfl)) (fun _ _ => rfl)))), _, rfl, a, C, dx, _, _, rfl, e, KF.cls, KF.noT, rfl, dL, z, .ref l, rfl, rfl, kd, q l lk⟩
theorem c_kstr (T : Bt mg) (mstr : mg "str" = none) (KF : KiF P w K mg base C dL CT CF es n) (KG : KiG K w mg C dL) (F : FunD K "__str__" "Kind.__str__" (defArgs s_kstr) (defBody s_kstr) (defScope s_kstr) [] [] f fd) : FnOk P w K mg base L2.CX0 1 f fd ["self"] (spKstr C) := by
  have hnd := sc_kstr.nd
  obtain ⟨tc, mc⟩ := KG.calm
  refine F.ok sc_kstr (fun vs H Q E h => ?_) (fun cdv A outer s H vs Q E hr h => ?_)
  · obtain ⟨a, z, b, rfl, _⟩ := h
    rfl
  · obtain ⟨a, z, b, rfl, ⟨dx, e⟩, hz, q⟩ := h
    refine ⟨_, (pss_cons (ps_if (pt_val (pe_fld (pv 0) (by rfl)))
      (pss_one (ps_ret (pe_joined (.cons (pe_fmt (pe_glob (v := .str "calm ") (by rfl) mc ⟨_, rfl⟩)) (.cons (pe_fmt (pe_fld (pv 0) (by rfl))) .nil)))))
      pss_nil)
      (pss_one (ps_ret (pe_callTy SkE.call_str_str (by rfl) mstr (by decide +kernel) (pa_cons (pe_fld (pv 0) (by rfl)) pa_nil))))), ?_⟩
    refine ⟨_, rfl, a, C, dx, _, _, rfl, e, KF.cls, KF.noC, rfl, b, rfl, ?_⟩
    cases b with
    | true =>
      refine iteT2 rfl (.inl ⟨_, rfl, Nat.le_of_ble_eq_true rfl, _, rfl, Nat.le_of_ble_eq_true rfl, ?_⟩)
      refine ⟨_, rfl, a, C, dx, _, _, rfl, e, KF.cls, KF.noT, rfl, .inl ⟨_, rfl, ?_, _, rfl, ?_, q⟩⟩
      · rw [sizeLine_eq]
        omega
      · rw [sizeLine_eq]
        have : (Str.empty ++ ("calm " : Str) ++ z).length = 5 + z.length := by
          rw [Str.length_append]
          rfl
        omega
    | false => exact iteN2 rfl ⟨_, rfl, a, C, dx, _, _, rfl, e, KF.cls, KF.noT, rfl, _, rfl, q⟩
theorem c_keq (T : Bt mg) (KF : KiF P w K mg base C dL CT CF es n) (KG : KiG K w mg C dL) (F : FunD K "__eq__" "Kind.__eq__" (defArgs s_keq) (defBody s_keq) (defScope s_keq) [] [] f fd) : FnOk P w K mg base L2.CX0 1 f fd ["self", "other"] (spKeq K C) := by
  have hnd := sc_keq.nd
  refine F.ok sc_keq (fun vs H Q E h => ?_) (fun cdv A outer s H vs Q E hr h => ?_)
  · obtain ⟨a, z, b, y, rfl, _⟩ := h
    rfl
  · obtain ⟨a, z, b, y, rfl, ⟨dx, e⟩, q⟩ := h
    refine ⟨_, (pss_one (ps_ret (pe_and (pe_callB call_isi (by rfl) T.m_isinstance (by decide +kernel) (pa_cons (pv 1) (pa_cons (pe_glob (v := .ref C) (by rfl) KF.mgC rfl) pa_nil))) (pe_and (pe_cmpR op_eq (pe_fld (pv 0) (by rfl)) (pe_fld (pv 1) (by rfl)) (nomark _)) (pe_one (pe_cmpR op_eq (pe_fld (pv 0) (by rfl)) (pe_fld (pv 1) (by rfl)) (nomark _))))))), ?_⟩
    rcases q with ⟨c, z2, b2, rfl, ⟨dy, e2⟩, q⟩ | ⟨t, ty, kn, q⟩
    · refine ⟨_, rfl, _, _, _, _, _, rfl, .own C, .base (.ins e2 KF.cls KG.ex.ha KG.ex.hn KG.ex.ht KG.ex.hm), KG.self, true, rfl, iteT ?_⟩
      refine ⟨_, rfl, a, C, dx, _, _, rfl, e, KF.cls, KF.noT, rfl, _, rfl, c, C, dy, _, _, rfl, e2, KF.cls, KF.noT, rfl, rfl, _, rfl, ?_⟩
      have hz : decide (V.str z = V.str z2) = decide (z = z2) := decide_eq_decide.mpr ⟨fun h => by injection h, fun h => by rw [h]⟩
      rw [hz]
      cases hd : decide (z = z2) with
      | true =>
        rw [hd, Bool.true_and] at q
        refine iteT ⟨_, rfl, a, C, dx, _, _, rfl, e, KF.cls, KF.noC, rfl, _, rfl, c, C, dy, _, _, rfl, e2, KF.cls, KF.noC, rfl, rfl, ?_⟩
        have hb : decide (V.bl b = V.bl b2) = decide (b = b2) := decide_eq_decide.mpr ⟨fun h => by injection h, fun h => by rw [h]⟩
        rw [hb]
        exact q
      | false =>
        rw [hd, Bool.false_and] at q
        exact iteF q
    · exact ⟨_, rfl, _, _, _, _, _, rfl, .own C, ty, kn, false, rfl, iteF q⟩
end
end L2.K33
set_option Elab.async false
set_option linter.all false
set_option maxRecDepth 100000
set_option maxHeartbeats 8000000
namespace L2.K33
open PySem PySem.Spec PyProof.Rows L2.Tb
open SX (S)
abbrev s_kread : Stmt := inClass (top 29) 1
abbrev N_kread : List Str := ["cls", "text", "turns"]
theorem sc_kread : FnScope N_kread ["cls", "text"] (defScope s_kread) := ⟨rfl, rfl, rfl, by decide +kernel, rfl, by decide +kernel, by decide +kernel⟩
/-- what Kind.read takes off the front -/
def offCalm (y : Str) : Str := Txt.removeprefix y "calm "
def spKread (K : PySem.W.Frag) (C CX : Addr) : Sp := fun vs H Q E => ∃ t : V, vs = [.ref C, t] ∧
  ((∃ y, t = .str y ∧ y.length ≤ 10000 ∧ wordsD.contains (offCalm y) = true ∧ ∀ a H', Same H H' → H a = none → KindAt C H' a (offCalm y) (!decide (V.str (offCalm y) = V.str y)) → Q (.ref a) H') ∨
   (((∃ y, t = .str y ∧ y.length ≤ 10000 ∧ wordsD.contains (offCalm y) = false) ∨ NoS K H t) ∧ ∀ d H', Same H H' → H d = none → H' d = some (.xd [("given", t)]) → E (.ref CX) (some d) H'))
section
variable {P : Program} {w : World} {K : PySem.W.Frag} {mg : Str → Option Value} {base : Heap} {f fi : Addr} {fd fdi : FuncData} {C dL CT CF CX : Addr} {es : Array DictEntry} {n : Nat}
theorem c_kread (T : Bt mg) (mstr : mg "str" = none) (KF : KiF P w K mg base C dL CT CF es n) (KG : KiG K w mg C dL) (eX : ErC P w K mg base "InvalidText" "given" bVE CX) (tyX : PySem.W.typeIn K (.ref CX) = some (.type "type")) (KM : Mk K C fi)
    (Fi : FnOk P w K mg base (L2.CX P w) 3 fi fdi ["self", "turns", "calm"] (spKinit K C CT CF)) (Bi : KBn K fdi ["self", "turns", "calm"] 2 ["calm"] (fun us ws => us ++ ws) (fun us ws => us ++ ws))
    (F : FunD K "read" "Kind.read" (defArgs s_kread) (defBody s_kread) (defScope s_kread) [] [] f fd) : FnOk P w K mg base (L2.CX P w) 5 f fd ["cls", "text"] (spKread K C CX) := by
  have hnd := sc_kread.nd
  obtain ⟨tc, mc⟩ := KG.calm
  refine F.ok sc_kread (fun vs H Q E h => ?_) (fun cdv A outer s H vs Q E hr h => ?_)
  · obtain ⟨t, rfl, _⟩ := h
    rfl
  · obtain ⟨t, rfl, h⟩ := h
    refine ⟨_, (pss_cons (ps_if (pt_not (pt_val (pe_callB call_isi (by rfl) T.m_isinstance (by decide +kernel) (pa_cons (pv 1) (pa_cons (pe_bltn (v := .ty "str") (by rfl) mstr (by decide +kernel) rfl) pa_nil)))))
      (pss_one (ps_raise (by rfl) (takes_of rfl rfl rfl rfl) (pmk_er eX tyX hr (by omega) (by rfl) (pv 1))))
      pss_nil)
      (pss_cons (ps_set (i := 2) hnd rfl (by first | exact Or.inl rfl | exact Or.inr rfl) (pe_bm PySem.F.plainAttrs_str PySem.F.slot_str_removeprefix PySem.F.type_str_removeprefix mt_removeprefix (pv 1) (pa_cons (pe_glob (v := .str "calm ") (by rfl) mc ⟨_, rfl⟩) pa_nil)))
      (pss_cons (ps_if (pt_cmpR (op_notIn_kd KF.tab) (pv 2) (pe_glob (v := .ref dL) (by rfl) KF.mgL rfl) (by rfl))
      (pss_one (ps_raise (by rfl) (takes_of rfl rfl rfl rfl) (pmk_er eX tyX hr (by omega) (by rfl) (pv 1))))
      pss_nil)
      (pss_one (ps_ret (pe_makeVK (i := 0) KM Fi hr (by omega) rfl (by first | exact Or.inl rfl | exact Or.inr rfl) Bi pass_none (pa_cons (pv 2) pa_nil) (pk_cons (pe_cmpR op_ne (pv 2) (pv 1) (nomark _)) pk_nil))))))), ?_⟩
    rcases h with ⟨y, rfl, hl, hz, q⟩ | ⟨⟨y, rfl, hl, hz⟩ | hb, q⟩
    · obtain ⟨r, e, hr2⟩ := KF.inL (offCalm y)
      refine ⟨_, rfl, _, _, _, _, _, rfl, .ty _, str_ty, str_kit, _, rfl, iteF ?_⟩
      refine ⟨_, rfl, ?_, _, _, rfl, rfl, ?_, ?_⟩
      · rfl
      · rw [sizeLine_eq]
        omega
      refine ⟨_, rfl, offCalm y, r, rfl, rfl, e, ?_⟩
      rw [hr2, hz]
      refine ⟨_, rfl, iteF ?_⟩
      refine ⟨rfl, _, rfl, _, rfl, _, rfl, rfl, rfl, rfl, fun x dx hx hdx ne => ?_⟩
      refine ⟨x, dx, .str (offCalm y), _, rfl, upd_same, .inl ⟨offCalm y, _, rfl, hz, rfl, rfl, q x _ (fun b o h => ?_) hx ⟨dx, upd_same⟩⟩⟩
      rw [upd_ne (ne_of_none h hx), upd_ne (ne_of_none h hx), upd_ne (ne_of_none h hx), upd_ne (ne_of_none h hdx)]
      exact h
    · obtain ⟨r, e, hr2⟩ := KF.inL (offCalm y)
      refine ⟨_, rfl, _, _, _, _, _, rfl, .ty _, str_ty, str_kit, _, rfl, iteF ?_⟩
      refine ⟨_, rfl, rfl, _, _, rfl, rfl, by rw [sizeLine_eq]; omega, ?_⟩
      refine ⟨_, rfl, offCalm y, r, rfl, rfl, e, ?_⟩
      rw [hr2, hz]
      exact ⟨_, rfl, iteT ⟨_, rfl, fun d H' s n x => q d H' s n x⟩⟩
    · obtain ⟨T0, ty, k⟩ := hb.ex
      exact ⟨_, rfl, _, _, _, _, _, rfl, .ty _, ty, k, _, rfl, iteT ⟨_, rfl, fun d H' s n x => q d H' s n x⟩⟩
end
end L2.K33
set_option Elab.async false
set_option linter.all false
set_option maxRecDepth 100000
set_option maxHeartbeats 4000000
/-! if and for in a generator's body -/
namespace L2.Tb
open PySem PySem.Spec PyProof.Rows
section
variable {X : Cx} {test : Expr} {body orelse : List Stmt} {pos : Pos} {tc : TT} {tb to : TGn}
def tGIf (c : TT) (tb to : TGn) : TGn := fun D ys σ H => c σ H fun b H1 => if b = true then tb D ys σ H1 else to D ys σ H1
theorem gs_if (hc : PT X test tc) (hb : GSs X body tb) (ho : GSs X orelse to) : GS X (.If test body orelse pos) (tGIf tc tb to) := by
  refine ⟨fun A S ip R n ys s₀ c fs K J gd lv s σ H D g hn k hI ht => ?_⟩
  obtain ⟨acc, cc, r, I⟩ := id hI
  show Seg _ _ _ _ _ _ _ (.at pos fun _ => (isTrue test X.env (eval test X.env) >>= fun b => if b then execs body X.env else execs orelse X.env).wrap K J gd lv) _ _
  refine seg_at (seg_bind_wrap ?_)
  rw [g.over]
  refine wpAny_mono (hc.run _ s σ H _ I ht) (fun b s' hb' => ?_) fun x s' hx => k.exc n s₀ x s' hx
  obtain ⟨H2, I2, q2⟩ := hb'
  cases b with
  | true =>
    rw [if_pos rfl] at q2
    exact hb.run A S ip R n ys s₀ c fs K J gd lv s' σ H2 D g hn k ⟨acc, cc, r, I2⟩ q2
  | false =>
    rw [if_neg Bool.false_ne_true] at q2
    exact ho.run A S ip R n ys s₀ c fs K J gd lv s' σ H2 D g hn k ⟨acc, cc, r, I2⟩ q2
end
section
variable {X : Cx} {tg iter : Expr} {body : List Stmt} {pos : Pos} {wi : TI} {gt : TG} {tb : TGn}
def tGFor (wi : TI) (g : TG) (tb : TGn) : TGn := fun D ys σ H => wi σ H fun J H1 => ∃ W : Nat → Nat → List V → St → Hp → Prop, (∃ m, W 0 m ys σ H1) ∧ ∀ i m ys σ H, W i m ys σ H →
  (J.stop i H ∧ D.nx ys σ H) ∨ (J.go i H ∧ ∃ N : List V → St → Hp → Prop, (∀ ys' σ' H', N ys' σ' H' → ∃ m', m' < m ∧ W (i + 1) m' ys' σ' H') ∧ ∀ x H', J.yld i H x H' → g x σ H' fun σ2 H2 => tb { D with nx := N, ct := N, bk := D.nx } ys σ2 H2)
theorem fp_move {S : Addr} {o o' : Obj} {ip : List (Addr × Obj)} {H H' : Hp} {b : Addr} (h : FpOk X ((S, o) :: ip) H b) (n : H' b = none) : FpOk X ((S, o') :: ip) H' b := by
  obtain ⟨_, f1, f2, f3, f4, f5⟩ := h
  refine ⟨n, f1, f2, f3, f4, fun p hp => ?_⟩
  rcases List.mem_append.mp hp with hp | hp
  · exact f5 p (List.mem_append_left _ hp)
  · rcases List.mem_cons.mp hp with rfl | hp
    · exact f5 (S, o) (List.mem_append_right _ List.mem_cons_self)
    · exact f5 p (List.mem_append_right _ (List.mem_cons_of_mem _ hp))
theorem gs_for (hp : PassesOwn (model X.prog X.w) X.A X.env X.xe) (hc : X.calm = true) (hi : PI X tg iter wi) (hg : PG X tg gt) (hb : GSs X body tb) (hs : ∀ x, foldedSetIterable iter X.env x = pure x := by intro _; rfl) : GS X (.For tg iter body [] pos) (tGFor wi gt tb) := by
  refine ⟨fun A S ip R n ys s₀ c fs K J gd lv s σ H D g hn k hI ht => ?_⟩
  obtain ⟨acc0, cc0, r0, I0⟩ := id hI
  show Seg _ _ _ _ _ _ _ (.at pos fun _ => (eval iter X.env >>= fun v => foldedSetIterable iter X.env v >>= fun x => standAt iter.pos >>= fun _ => holding [x] (pyIter x) >>= fun itv => runOwn (.forLoop tg itv body [] X.env) X.env).wrap K J gd lv) _ _
  refine seg_at (seg_bind_wrap ?_)
  rw [g.over]
  refine wpAny_mono (hi.run _ s σ H _ I0 ht) (fun v s1 h1 => ?_) fun x s' hx => k.exc n s₀ x s' hx
  refine seg_bind_wrap ?_
  rw [g.over]
  refine wpAny_of_eq (hs v) ?_
  refine seg_bind_wrap ?_
  rw [g.over]
  refine wpAny_standAt (seg_bind_wrap ?_)
  rw [g.over]
  refine wpAny_holding (wpAny_mono h1 (fun itv s2 h2 => ?_) fun x s' hx => k.exc n s₀ x s' hx)
  obtain ⟨it, fp, tn, Jt, H2, e, I2, T, st2, f2, W, ⟨m0, w0⟩, turn⟩ := h2
  subst e
  refine seg_call fun p => ?_
  have gl := fun (kk : Result → Sem PySem.Fin) => gc_loop (k := kk) (c' := .forLoop tg (.ref it) body [] X.env) (l := lv []) (kp := []) (p := p) g rfl rfl
  have note : ∀ (n : Nat) (s₀ : Shared) (x : Value) (s' : Shared), X.xe x s' → Seg (model X.prog X.w) A R (GY X S) n s₀ (.forLoop tg (.ref it) body [] X.env)
      ((do noteFrame x X.env; theTreesLotGoes x : Sem Unit).bind fun _ => (.raise x : Sem PySem.Fin))
      (.ret (fun r => ((match r with | .ok f => (.pure f : Sem Flow) | .error e => .raise e).onRaise (cameBack X.env)).wrap K J gd lv) none (gd false) (lv []) c p [] :: fs) s' := fun n s₀ x s' hx => by
    rw [Sem.bind_eq_wrap]
    refine seg_wrap ?_
    rw [(gl _).over]
    refine wpAny_bind (wpAny_mono (hp x s' hx) (fun _ s'' hcb => wpAny_theTreesLotGoes ?_) fun y s'' hcb => ?_)
    · exact seg_leaf (.error x) (seg_cameBack g k hcb)
    · exact seg_leaf (.error y) (seg_cameBack g k hcb)
  have loop : ∀ (m n i : Nat) (ys : List V) (s₀ s : Shared) (σ : St) (H : Hp), n + ys.length = sizeLine → W i m ys σ H → GI X S ip ys σ H s → tn i s.heap → (∀ b ∈ fp, H b = none) →
      Seg (model X.prog X.w) A R (GY X S) n s₀ (.forLoop tg (.ref it) body [] X.env) ((model X.prog X.w).den (.forLoop tg (.ref it) body [] X.env))
        (.ret (fun r => ((match r with | .ok f => (.pure f : Sem Flow) | .error e => .raise e).onRaise (cameBack X.env)).wrap K J gd lv) none (gd false) (lv []) c p [] :: fs) s := by
    intro m
    induction m using Nat.strongRecOn with
    | ind m ih =>
      intro n i ys s₀ s3 σ3 H3 hn w3 hI3 st3 fr3
      obtain ⟨acc, cc, r, I3⟩ := hI3
      have stat : ∀ {acc : Array Value} {cc : Nat} {H' : Hp}, (∀ b ∈ fp, H' b = none) → ∀ b ∈ fp, FpOk X ((S, lstObj acc cc) :: ip) H' b := fun hn b hb => fp_move (f2 b hb) (hn b hb)
      show Seg _ _ _ _ _ _ _ ((forTurn tg (.ref it) body [] X.env).onRaise fun x => do noteFrame x X.env; theTreesLotGoes x) _ _
      unfold forTurn
      rw [Sem.onRaise_eq_wrap]
      refine seg_bind_wrap ?_
      rw [(gl _).over]
      refine wpAny_standAt (seg_bind_wrap ?_)
      rw [(gl _).over]
      refine wpAny_onRaise ?_
      rcases turn i m ys σ3 H3 w3 with ⟨stop, qn⟩ | ⟨go, N, hN, step⟩
      · refine wpAny_mono (T.done X rfl rfl rfl hc i _ s3 σ3 H3 X.xe I3 (stat fr3) st3 stop) (fun r4 s4 hr => ?_) fun x s' hx => wpAny_standAt (note n s₀ x s' hx)
        obtain ⟨hr, I4⟩ := hr
        subst hr
        show Seg _ _ _ _ _ _ _ (.pure (.again (.block [] X.env))) _ _
        refine seg_again rfl ?_
        exact seg_leaf (.ok .next) (k.ok n ys s₀ s4 .next hn ⟨σ3, H3, ⟨acc, cc, r, I4⟩, qn⟩)
      · refine wpAny_mono (T.item X rfl rfl rfl hc i _ s3 σ3 H3 X.xe I3 (stat fr3) st3 go) (fun r4 s4 hr => ?_) fun x s' hx => wpAny_standAt (note n s₀ x s' hx)
        obtain ⟨u, hr, h4⟩ := hr
        subst hr
        show Seg _ _ _ _ _ _ _ (((letOwnedTupleGo tg (.ref it) u) >>= fun _ => assign tg X.env u >>= fun _ => execs body X.env >>= fun f => match f with
          | .next | .cont => again (.forLoop tg (.ref it) body [] X.env)
          | .brk => pure (.done .next)
          | .ret v => pure (.done (.ret v))).wrap _ _ _ _) _ _
        refine seg_bind_wrap ?_
        rw [(gl _).over]
        refine wpAny_mono h4 (fun _ s5 h5 => ?_) fun x s' hx => note n s₀ x s' hx
        obtain ⟨x, H5, I5, r5, y5, st5, fr5⟩ := h5
        have I5' := I5.pinned (stat fr5) (T.obj _ _ st5)
        refine seg_bind_wrap ?_
        rw [(gl _).over]
        refine wpAny_mono (hg.run _ s5 σ3 H5 x u _ I5' r5 (step x H5 y5)) (fun _ s6 h6 => ?_) fun x s' hx => note n s₀ x s' hx
        obtain ⟨σ6, H6, I6, q6⟩ := h6
        rw [Sem.bind_eq_wrap', Sem.wrap_wrap]
        have gip : ∀ q ∈ ip ++ pinsAt fp s5.heap, q.1 ≠ S := fun q hq => (List.mem_append.mp hq).elim (g.ip q) fun z y => by
          obtain ⟨hb, _⟩ := of_pinsAt z
          obtain ⟨_, _, _, _, _, f6⟩ := f2 q.1 hb
          exact f6 _ (List.mem_append_right _ List.mem_cons_self) y.symm
        have unp : ∀ {ys' : List V} {σ7 : St} {H7 : Hp} {s7 : Shared}, GI X S (ip ++ pinsAt fp s5.heap) ys' σ7 H7 s7 → GI X S ip ys' σ7 H7 s7 ∧ tn (i + 1) s7.heap ∧ ∀ b ∈ fp, H7 b = none := fun {ys' σ7 H7 s7} ⟨acc7, cc7, r7, I7⟩ =>
          ⟨⟨acc7, cc7, r7, Inv.unpinned (pins := (S, lstObj acc7 cc7) :: ip) I7⟩,
            T.keep _ _ _ st5 fun b hb o e => (I7.pin (b, o) (List.mem_append_right _ (List.mem_cons_of_mem _ (List.mem_append_right _ (mem_pinsAt hb e))))).1, fun b hb => by
              obtain ⟨o, e, d⟩ := T.obj _ _ st5 b hb
              exact (I7.pin (b, o) (List.mem_append_right _ (List.mem_cons_of_mem _ (List.mem_append_right _ (mem_pinsAt hb e))))).2.1⟩
        refine hb.run A S (ip ++ pinsAt fp s5.heap) R n ys s₀ _ _ _ _ _ _ s6 σ6 H6 { D with nx := N, ct := N, bk := D.nx } ⟨g.pn, gip, g.apart, (gl _).over, (gl _).split, (gl _).guard, rfl⟩ hn ⟨fun n' ys' s₀' s7 f hn' hs' => ?_, fun n' s₀' x s7 hx => note n' s₀' x s7 hx⟩ ⟨acc, cc, r, I6⟩ q6
        cases f with
        | next =>
          obtain ⟨σ7, H7, I7, n7⟩ := hs'
          obtain ⟨u1, u2, u3⟩ := unp I7
          obtain ⟨m', hm, w7⟩ := hN ys' σ7 H7 n7
          exact seg_again rfl (ih m' hm n' (i + 1) ys' s₀' s7 σ7 H7 hn' w7 u1 u2 u3)
        | cont =>
          obtain ⟨σ7, H7, I7, n7⟩ := hs'
          obtain ⟨u1, u2, u3⟩ := unp I7
          obtain ⟨m', hm, w7⟩ := hN ys' σ7 H7 n7
          exact seg_again rfl (ih m' hm n' (i + 1) ys' s₀' s7 σ7 H7 hn' w7 u1 u2 u3)
        | brk =>
          obtain ⟨σ7, H7, I7, n7⟩ := hs'
          exact seg_leaf (.ok .next) (k.ok n' ys' s₀' s7 .next hn' ⟨σ7, H7, (unp I7).1, n7⟩)
        | ret v =>
          obtain ⟨x7, σ7, H7, I7, r7, q7⟩ := hs'
          exact seg_leaf (.ok (.ret v)) (k.ok n' ys' s₀' s7 (.ret v) hn' ⟨x7, σ7, H7, (unp I7).1, r7, q7⟩)
  exact loop m0 n 0 ys s₀ s2 σ H2 hn w0 ⟨acc0, cc0, r0, I2⟩ st2 fun b hb => (f2 b hb).1
end
end L2.Tb
set_option Elab.async false
set_option linter.all false
set_option maxRecDepth 100000
set_option maxHeartbeats 4000000
/-! a generator method called with keywords; ~x by an own __invert__; math.lcm -/
namespace L2.Tb
open PySem PySem.Spec PyProof.Rows
def rLcm : List V → Hp → VK → Prop := fun vs H Q => ∃ a b : Nat, vs = [.int (a : Int), .int (b : Int)] ∧ a < 2 ^ 60 ∧ b < 2 ^ 60 ∧ Q (.int ((Nat.lcm a b : Nat) : Int)) H
theorem cr_lcm {X : Cx} : CallR X (.builtin "math.lcm") rLcm := by
  intro pins s σ H vs us Q I r h
  obtain ⟨a, b, rfl, ha, hb, q⟩ := h
  obtain ⟨t, u, rfl⟩ := Vals.int2 r
  exact PySem.W.mc_lcm (by omega) (by omega) fun _ => ⟨.int _, H, I.tok _, ⟨_, rfl⟩, by
    rw [Int.natAbs_natCast, Int.natAbs_natCast]
    exact q⟩
section
variable {X : Cx} {C f : Addr} {fd : FuncData} {ps : List Str} {sp : Sp} {k : Nat}
def rOwnInv (C : Addr) (sp : Sp) : V → Hp → VK → Prop := fun x H Q => ∃ (a dx : Addr) (fs : List (Str × V)), x = .ref a ∧ H a = some (.ins C dx fs) ∧ sp [.ref a] H Q E0
theorem un_ownInv {CX : CXT} (F : FnOk X.prog X.w X.K X.mg X.base CX k f fd ps sp) (hr : Room k X.A) (hs : PySem.W.findIn X.K (.ref C) "__invert__" = some (some (.ref f))) (hf : PySem.W.isFn X.K (.ref f) = true) (hb : Binds X.K fd ps []) (hx : Passes CX X E0) : UnR X (unaryOp .Invert) (rOwnInv C sp) := by
  intro pins s σ H x v Q I rx h
  obtain ⟨a, dx, fs, rfl, ea, h⟩ := h
  obtain rfl : v = Value.ref a := rx
  obtain ⟨mA, O, _⟩ := ins_get I.hok ea
  obtain ⟨od, J, _⟩ := O.look
  obtain ⟨m, hF⟩ := I.fr
  have hl := F.len _ _ _ _ h
  refine PySem.W.ksp_inv hF I.ok.mod.kin J hs hf (wpAny_call (codeAny_mono (F.run X.A X.stack s H ⟨[.ref a], []⟩ [.ref a] [.ref a] _ E0 hr I.env0 (by
    have z := hb s [.ref a] I.kIn (by simpa using hl)
    simpa using z) (.cons rfl .nil) h) fun r s' hq => ?_))
  match r, hq with
  | .error e, hq => exact hx pins σ H s e s' I hq
  | .ok (.ret u), hq => exact I.after hq
end
section
variable {X : Cx} {k : Nat} {f C : Addr} {fd : FuncData} {ps ks : List Str} {sp : SpG} {o : Expr} {m : Str} {apos pos : Pos} {ta : TE} {tk : TA} {kws : List Keyword}
def tMethGK (C : Addr) (m : Str) (sp : SpG) (E : XK) (ta : TE) (tk : TA) : TGen := fun σ H cont => ta σ H fun x H1 => ∃ a dx fs, x = .ref a ∧ H1 a = some (.ins C dx fs) ∧ fs.lookup m = none ∧ tk σ H1 fun zs H2 => sp (.ref a :: zs) H2 cont E
theorem pgen_methK {E : XK} {pl : Sem Bool} (he : PE X o ta) (c : Cls X.K C) (hm : Meth X.K C m f) (F : GFn X.prog X.w X.K X.mg X.base k f fd ps sp) (hr : Room k X.A) (hkw : PK X kws tk) (hl : ps.length = ks.length + 1)
    (hb : ∀ (sh : Shared) (a : Addr) (zs : List Value), zs.length = ks.length → BindsTo sh fd ⟨[.ref a], ks.zip zs⟩ (ps.zip (Value.ref a :: zs)))
    (hall : (backToKw pos (keywordEach kws X.env)).all (·.1.isSome) = true := by rfl) (hks : (backToKw pos (keywordEach kws X.env)).filterMap (·.1) = ks := by rfl)
    (hpl : ((backTo pos (starEach [] X.env)).any (·.1) || (backToKw pos (keywordEach kws X.env)).any (·.1.isNone)) = false := by rfl)
    (ht : eval (.Call (.Attribute o m apos) [] kws pos) X.env = (do
      let ov ← eval o X.env
      standAt apos.atName
      let (f, first) ← holding [ov] (getMethod ov m pl)
      callWith pos f first (backTo pos (starEach [] X.env)) (backToKw pos (keywordEach kws X.env))) := by rfl) :
    PGen X k (.Call (.Attribute o m apos) [] kws pos) (tMethGK C m sp E ta tk) E := by
  refine ⟨fun pins s σ H cont I h => PySem.W.methodCall_KW (pl := pl) (thn (he.run pins s σ H _ I h) fun u s1 hh => ?_) ht⟩
  obtain ⟨x, H1, I1, rx, a, dx, fs, ex, ea, lk, q⟩ := hh
  subst ex
  obtain rfl : u = Value.ref a := rx
  refine getmeth_ok I1 ea c hm lk (PySem.W.callWith_KW0 (h₀ := X.base) (first := [.ref a]) I.ok.mod.kin hm.kp hall (thn (hkw.run pos _ s1 σ H1 _ I1 q) fun ws s2 hh => ?_) hpl)
  obtain ⟨zs, H2, I2, rz, q2⟩ := hh
  refine ⟨I2.kIn, ?_⟩
  rw [hks]
  have hw : ws.length = ks.length := by
    have z := F.len _ _ _ _ q2
    rw [List.length_cons, hl] at z
    rw [← rz.length]
    omega
  refine wpAny_call (codeAny_mono (F.run X.A X.stack s2 H2 ⟨[.ref a], ks.zip ws⟩ (.ref a :: ws) (.ref a :: zs) cont E hr I2.env0 (hb s2 a ws hw) (.cons rfl rz) q2) fun r s3 hq => ?_)
  cases r with
  | error e => exact False.elim hq
  | ok fl =>
    cases fl with
    | ret u => exact ⟨H2, s2, [], I2, .nil, hq⟩
    | next => exact False.elim hq
    | brk => exact False.elim hq
    | cont => exact False.elim hq
end
end L2.Tb
set_option Elab.async false
set_option linter.all false
set_option maxRecDepth 100000
set_option maxHeartbeats 4000000
/-! for i, x in enumerate(t), t a tuple -/
namespace L2.Tb
open PySem PySem.Spec PyProof.Rows
set_option maxHeartbeats 4000000 in
theorem meets_enum_B1 {v : Value} {o : Obj} {H : Heap → Prop} (B : PySem.Begins v o H) :
    Meets (Builtin.«enumerate.__new__» ⟨[.type "enumerate", v], []⟩) (fun _ R s => H s.heap ∧
      R (.ok (.ret (.ref (s.heap.push o).objs.size))) { s with heap := (s.heap.push o).push { cls := .type "enumerate", data := .fields #[.none, .bool false, .ref s.heap.objs.size, rawInt 0, .none, .none] } }) :=
  .of_wp fun prog w A R s h => by
    obtain ⟨hp, g, d, tk, os⟩ := s
    obtain ⟨h1, h2⟩ := h
    have hsub := sub_enumerate
    have itr : ∀ {A' : Around} {E : Value → Shared → Prop} {Q : Value → Shared → Prop}, Q (.ref hp.objs.size) ⟨hp.push o, g, d, tk, os⟩ → wpAny (model prog w) A' (pyIter v) Q E ⟨hp, g, d, tk, os⟩ := fun q => B.iter prog w _ _ ⟨hp, g, d, tk, os⟩ _ h1 q
    wp_walk using itr
    refine wpAny_stack_any fun st => wpAny_pure ?_
    split
    · rename_i c _ _ _ _ _
      cases (c == Value.type "enumerate")
      · wp_walk using itr
        exact ⟨_, rfl, h2⟩
      · wp_walk using itr
        exact ⟨_, rfl, h2⟩
    · wp_walk using itr
      exact ⟨_, rfl, h2⟩
section
variable {prog : Program} {w : World} {A : Around} {E : Value → Shared → Prop} {s : Shared}
theorem enum_B1 {v : Value} {o : Obj} {H : Heap → Prop} {Q : Value → Shared → Prop} (B : PySem.Begins v o H) (h1 : H s.heap)
    (h : ∀ h', IsEnum h' (s.heap.objs.size + 1) s.heap.objs.size 0 .none → h'.get? s.heap.objs.size = some o → h'.objs.size = s.heap.objs.size + 2 →
      (∀ b o, s.heap.get? b = some o → h'.get? b = some o) → Q (.ref (s.heap.objs.size + 1)) { s with heap := h' }) :
    wpAny (model prog w) A (call (.type "enumerate") [v]) Q E s := by
  refine callType_new F.called_enumerate (by decide) (F.typeCall_enumerate_1 _) (F.newCall_enumerate_1 _) (fun obj => F.args_object_init_2 obj _) F.entry_enumerate_new (meets_enum_B1 B) ⟨h1, ?_⟩
  have hz : (s.heap.push o).objs.size = s.heap.objs.size + 1 := Heap.size_push ..
  show _ ∧ _
  rw [hz]
  have he : IsEnum ((s.heap.push o).push { cls := .type "enumerate", data := .fields #[.none, .bool false, .ref s.heap.objs.size, rawInt 0, .none, .none] }) (s.heap.objs.size + 1) s.heap.objs.size 0 .none := by
    have := Heap.get?_push_size (s.heap.push o) (o := { cls := .type "enumerate", data := .fields #[.none, .bool false, .ref s.heap.objs.size, rawInt 0, .none, .none] }) rfl
    rw [hz] at this
    exact this
  exact ⟨⟨_, he, rfl⟩, h _ he (Heap.get?_push_of_some _ (Heap.get?_push_size _ B.free)) (by rw [Heap.size_push, hz]) fun b o x => Heap.get?_push_of_some _ (Heap.get?_push_of_some _ x)⟩
end
/-- the tuple at a, each item in a new pair -/
def IteT (K : PySem.W.Frag) (a : Addr) : It :=
  ⟨fun i H => ∃ (xs : List V) (x : V), SqT K H a xs ∧ xs[i]? = some x, fun i H v H' => ∃ T x, v = .ref T ∧ H T = none ∧ H' = upd H T (.tup [.int (i : Nat), x]) ∧ ∀ xs, SqT K H a xs → xs[i]? = some x, fun i H => ∃ xs : List V, SqT K H a xs ∧ xs.length = i⟩
theorem turn_enumT {P : Program} {w : World} {K : PySem.W.Frag} {elts : List Expr} {kk : Nat} {tpos : Pos} (a e it : Addr) :
    Turn P w K (.Tuple elts kk tpos) (IteT K a) [e, it] e (fun i h => (∃ old, IsEnum h e it ((i : Nat) : Int) old) ∧ h.IsTupleIter it a i ∧ e ≠ it ∧ a ≠ it ∧ a ≠ e) where
  mem := by simp
  obj := fun i h st b hb => by
    obtain ⟨⟨old, he⟩, ⟨o, ho, hc, hd⟩, _⟩ := st
    have e' : b = e ∨ b = it := by simpa using hb
    rcases e' with z | z
    · rw [z]; exact ⟨_, he, fun v q => nomatch q⟩
    · rw [z]; exact ⟨o, ho, fun v q => by rw [hd] at q; cases q⟩
  keep := fun i h h' st k => let ⟨⟨old, he⟩, hi, hne⟩ := st; ⟨⟨old, k e (by simp) _ he⟩, hi.at fun o q => k it (by simp) o q, hne⟩
  item := by
    intro X hP hw hK hc i pins s σ H E I hf st hg
    subst hP hw hK
    obtain ⟨⟨old, he⟩, hit, hne, hai, hae⟩ := st
    obtain ⟨xs, x, hq, hx⟩ := hg
    obtain ⟨its, rv, p, hz⟩ := I.tuple hq
    obtain ⟨u, hu, ru⟩ := rv.get hx
    have hel : e < s.heap.objs.size := Heap.lt_size he
    have hil : it < s.heap.objs.size := by obtain ⟨_, q, _⟩ := hit; exact Heap.lt_size q
    have hlt : i < its.toArray.size := by
      have := (List.getElem?_eq_some_iff.mp hu).1
      simpa using this
    have hed : X.A.in1.handled = none := I.ok.hd hc
    refine wpAny_pyNext_enum_itemD (Draws.tuple hed it a hai its.toArray) he ⟨hit, p⟩ hlt hne (by simp [hne, Ne.symm hae]) fun y h' tk hy ho hs' hT hsz hk => ?_
    obtain ⟨hit', hp'⟩ := hs'
    have hyu : y = u := by
      have : its.toArray[i]? = some u := by simpa using hu
      rw [this] at hy
      exact (Option.some.inj hy).symm
    subst hyu
    refine ⟨_, rfl, wpAny_letOwnedTupleGo_enum (s := { s with heap := h', toks := tk + 1 }) ho fun h'' he' sb => ?_⟩
    have hT2 : h''.get? s.heap.objs.size = some { cls := .type "tuple", data := .seq #[.int i tk, y] } := (sb.2 _ (Nat.ne_of_gt hel)).trans hT
    have new : ObjOk X.prog X.w (upd H s.heap.objs.size (.tup [.int (i : Nat), x])) h'' s.heap.objs.size (.tup [.int (i : Nat), x]) :=
      ⟨by show 2 ≤ sizeLine; decide, [.int i tk, y], .cons ⟨_, rfl⟩ (.cons ru .nil), ⟨_, hT2, rfl, _, rfl⟩⟩
    have I1 : Inv X pins σ (upd H s.heap.objs.size (.tup [.int (i : Nat), x])) { s with heap := h'', toks := tk + 1 } :=
      I.turnedNew (ch := [e, it]) (fun b ob hb q => (sb.2 b (fun z => hb (by simp [z]))).trans (hk b ob (fun z => hb (by simp [z])) (fun z => hb (by simp [z])) q)) hf (Nat.le_refl _) new
    refine ⟨.ref s.heap.objs.size, _, I1, rfl, ⟨_, x, rfl, I.hok.fresh (Nat.le_refl _), rfl, fun ys hy => by rw [I.tuple_inj hy hq]; exact hx⟩, ⟨⟨y, ?_⟩, hit'.at fun o q => (sb.2 it (Ne.symm hne)).trans q, hne, hai, hae⟩, fun b hb => ?_⟩
    · have e1 : ((i + 1 : Nat) : Int) = (i : Int) + 1 := by omega
      rw [e1]; exact he'
    · have hb' : b < s.heap.objs.size := by
        have e' : b = e ∨ b = it := by simpa using hb
        rcases e' with z | z
        · rw [z]; exact hel
        · rw [z]; exact hil
      rw [upd_ne (Nat.ne_of_lt hb')]
      exact (hf b hb).1
  done := by
    intro X hP hw hK hc i pins s σ H E I hf st hg
    subst hP hw hK
    obtain ⟨⟨old, he⟩, hit, hne, hai, hae⟩ := st
    obtain ⟨xs, hq, hx⟩ := hg
    obtain ⟨its, rv, p, hz⟩ := I.tuple hq
    obtain ⟨f0, f1, f2, f3, f4, f5⟩ := hf it (by simp)
    have hl := rv.length
    have hs : i = its.toArray.size := by simp; omega
    have hed : X.A.in1.handled = none := I.ok.hd hc
    have hit2 : s.heap.IsTupleIter it a its.toArray.size := by rw [← hs]; exact hit
    exact wpAny_pyNext_enum_endD (Draws.tuple hed it a hai its.toArray) he ⟨hit2, p⟩ fun h' eb => ⟨rfl, I.turned (t' := s.toks) (fun b o hb q => eb b o hb q) f0 f1 f3 f4 f5⟩
  self := fun A i s Q E st q => by
    obtain ⟨⟨old, he⟩, _⟩ := st
    exact wpAny_pyIter_enum he q
def iEnumT (K : PySem.W.Frag) (ta : TA) : TI := fun σ H R => ta σ H fun vs H1 => ∃ a xs, vs = [.ref a] ∧ SqT K H1 a xs ∧ R (IteT K a) H1
theorem pi_enumT {X : Cx} {e : Expr} {ta : TA} {p pos tpos : Pos} {elts : List Expr} {kk : Nat} (hg : Gl X "enumerate") (hm : X.mg "enumerate" = none) (ha : PA X [e] ta) (hs : starEach [e] X.env = [(false, eval e X.env)] := by rfl) :
    PI X (.Tuple elts kk tpos) (.Call (.Name "enumerate" p) [e] [] pos) (iEnumT X.K ta) := by
  refine ⟨fun pins s σ H R I h => ?_⟩
  refine Call_ (ld_blt I hg hm boot_enumerate (PyProof.Rows.callWith_type1 (thn (ha.run pos pins s σ H _ I h) fun us s1 hh => ?_) hs rfl))
  obtain ⟨vs, H1, I1, r1, a, xs, ex, hq, q⟩ := hh
  subst ex
  cases r1 with
  | cons r rr =>
    cases rr
    cases r
    obtain ⟨its, rv, p', hz⟩ := I1.tuple hq
    have hal : a < s1.heap.objs.size := by obtain ⟨_, q, _⟩ := p'; exact Heap.lt_size q
    refine enum_B1 (PySem.begins_tuple a its.toArray) p' fun h' he hit hsz hk => wpAny_pyIter_enum he ?_
    have I2 : Inv X pins σ H1 { s1 with heap := h' } := I1.kept (t' := s1.toks) hk
    refine ⟨s1.heap.objs.size + 1, [s1.heap.objs.size + 1, s1.heap.objs.size], _, _, H1, rfl, I2, turn_enumT a (s1.heap.objs.size + 1) s1.heap.objs.size, ⟨⟨.none, he⟩, ⟨_, hit, rfl, rfl⟩, Nat.succ_ne_self _, Nat.ne_of_lt hal, Nat.ne_of_lt (Nat.lt_succ_of_lt hal)⟩, fun b hb => ?_, q⟩
    have e' : b = s1.heap.objs.size + 1 ∨ b = s1.heap.objs.size := by simpa using hb
    have hle : s1.heap.objs.size ≤ b := by
      rcases e' with z | z
      · rw [z]; exact Nat.le_add_right _ _
      · rw [z]; exact Nat.le_refl _
    exact I1.fpOk hle (I1.hok.fresh hle)
/-- over the tuple, in a for -/
theorem for_enumT {K : PySem.W.Frag} {a : Addr} {xs : List V} {g : TG} {tb : TS} {D : Ends} {σ : St} {H : Hp} (Pv : Nat → St → Hp → Prop) (h0 : Pv 0 σ H) (hl : ∀ i σ H, i ≤ xs.length → Pv i σ H → SqT K H a xs)
    (hs : ∀ i x σ H T, xs[i]? = some x → Pv i σ H → H T = none → g (.ref T) σ (upd H T (.tup [.int (i : Nat), x])) fun σ2 H2 => tb { D with nx := Pv (i + 1), ct := Pv (i + 1), bk := D.nx } σ2 H2) (hd : ∀ σ H, Pv xs.length σ H → D.nx σ H) :
    ∃ W : Nat → Nat → St → Hp → Prop, (∃ m, W 0 m σ H) ∧ ∀ i m σ H, W i m σ H →
      ((IteT K a).stop i H ∧ D.nx σ H) ∨ ((IteT K a).go i H ∧ ∃ N : St → Hp → Prop, (∀ σ' H', N σ' H' → ∃ m', m' < m ∧ W (i + 1) m' σ' H') ∧ ∀ x H', (IteT K a).yld i H x H' → g x σ H' fun σ2 H2 => tb { D with nx := N, ct := N, bk := D.nx } σ2 H2) := by
  refine ⟨fun i m σ H => m = xs.length - i ∧ i ≤ xs.length ∧ Pv i σ H, ⟨xs.length, by simp, Nat.zero_le _, h0⟩, ?_⟩
  rintro i m σ H ⟨rfl, hi, p⟩
  have q := hl i σ H hi p
  by_cases hlt : i < xs.length
  · refine .inr ⟨⟨xs, xs[i], q, by simp [hlt]⟩, Pv (i + 1), fun σ' H' p' => ⟨xs.length - (i + 1), by omega, rfl, hlt, p'⟩, fun x H' y => ?_⟩
    obtain ⟨T, z, rfl, nT, rfl, hz⟩ := y
    exact hs i z σ H T (hz xs q) p nT
  · have e : i = xs.length := by omega
    subst e
    exact .inl ⟨⟨xs, q, rfl⟩, hd σ H p⟩
end L2.Tb
set_option Elab.async false
set_option linter.all false
set_option maxRecDepth 100000
set_option maxHeartbeats 4000000
/-! a def of the module that may raise, called by its name -/
namespace L2.Tb
open PySem PySem.Spec PyProof.Rows
structure CalX (P : Program) (w : World) (K : PySem.W.Frag) (mg : Str → Option Value) (base : Heap) (k : Nat) (x : Str) (sp : Sp) : Prop where
  ex : ∃ (f : Addr) (fd : FuncData) (ps : List Str), FnOk P w K mg base (L2.CX P w) k f fd ps sp ∧ mg x = some (.ref f) ∧ PySem.W.keepIn K (.ref f) = true ∧ Binds K fd ps []
section
variable {P : Program} {w : World} {K : PySem.W.Frag} {mg : Str → Option Value} {base : Heap} {x : Str} {st : Stmt} {f : Addr} {fd : FuncData} {N ps : List Str} {k : Nat} {sp : Sp}
theorem calX_of (F : FnP K x st f fd) (hm : mg x = some (.ref f)) (hb : ∀ (kV doc pm : Value) (an : Option Addr) (cdv ct : Value) (us : List Value), us.length = ps.length → bindArgs (PySem.W.fnOf x x (defArgs st) (defBody st) (defScope st) .none kV doc pm an cdv ct) ⟨us, []⟩ = pure (ps.zip us))
    (h : FnOk P w K mg base (L2.CX P w) k f fd ps sp) : CalX P w K mg base k x sp := ⟨f, fd, ps, h, hm, F.kp, F.bindsN hb⟩
theorem CalX.imp {sp' : Sp} (c : CalX P w K mg base k x sp) (h : ∀ vs H Q E, sp' vs H Q E → sp vs H Q E) : CalX P w K mg base k x sp' := by
  obtain ⟨f, fd, ps, F, a, b, d⟩ := c.ex
  exact ⟨f, fd, ps, F.imp h, a, b, d⟩
end
section
variable {X : Cx} {k j : Nat} {x : Str} {sp : Sp} {p pos : Pos} {e : Expr} {es : List Expr} {t : TA} {E : XK}
theorem pe_calX (c : CalX X.prog X.w X.K X.mg X.base k x sp) (hr : Room j X.A) (hk : k ≤ j) (hg : Gl X x) (hx : Passes (L2.CX X.prog X.w) X E) (ha : PA X (e :: es) t)
    (hdb : (x == ("__debug__" : Str)) = false := by decide) (he : starEach (e :: es) X.env = (false, eval e X.env) :: starEach es X.env := by rfl) (hpl : (backTo pos (starEach es X.env)).any (·.1) = false := by rfl) :
    PE X (.Call (.Name x p) (e :: es) [] pos) (tCall sp [] E t) := by
  obtain ⟨f, fd, ps, F, hm, kp, b⟩ := c.ex
  exact pe_call F (hr.mono hk) hg hm kp b .nil hx ha hdb he hpl
end
/-- not there before -/
theorem none_back {H H1 : Hp} {a : Addr} (s : Same H H1) (h : H1 a = none) : H a = none := by
  cases e : H a with
  | none => rfl
  | some o =>
    rw [s _ _ e] at h
    cases h
theorem sqt_keep {K : PySem.W.Frag} {H H' : Hp} {a : Addr} {xs : List V} (h : SqT K H a xs) (s : Same H H') : SqT K H' a xs := by
  rcases h with (h | ⟨o, h⟩) | h
  · exact .inl (.inl (s _ _ h))
  · exact .inl (.inr ⟨o, s _ _ h⟩)
  · exact .inr h
end L2.Tb
set_option Elab.async false
set_option linter.all false
set_option maxRecDepth 100000
set_option maxHeartbeats 8000000
namespace L2.K33
open PySem PySem.Spec PyProof.Rows L2.Tb
open SX (S)
abbrev s_is_name : Stmt := top 19
abbrev N_is_name : List Str := ["value", "sign"]
theorem sc_is_name : FnScope N_is_name ["value"] (defScope s_is_name) := ⟨rfl, rfl, rfl, by decide +kernel, rfl, by decide +kernel, by decide +kernel⟩
def lettersS : Str := "abcdefghijklmnopqrstuvwxyz"
def digitsS : Str := "0123456789"
/-- the constants of the checks -/
structure ChF (mg : Str → Option Value) : Prop where
  mL : ∃ t, mg "_LETTERS" = some (.str lettersS t)
  mD : ∃ t, mg "_DIGITS" = some (.str digitsS t)
  mM : ∃ t, mg "_LONGEST_NAME" = some (.int 8 t)
def digB (c : Nat) : Bool := Nat.ble 48 c && Nat.ble c 57
theorem low_in {c : Nat} (h : lowB c = true) : c ∈ lettersS.cps.toList := by
  simp only [lowB, Bool.and_eq_true, Nat.ble_eq] at h
  have e := low_at (c - 97) (by omega)
  rw [show 97 + (c - 97) = c by omega] at e
  exact List.mem_of_getElem? e
theorem dig_at : ∀ k : Nat, k < 10 → digitsS.cps.toList[k]? = some (48 + k) := by decide +kernel
theorem dig_in {c : Nat} (h : digB c = true) : c ∈ digitsS.cps.toList := by
  simp only [digB, Bool.and_eq_true, Nat.ble_eq] at h
  have e := dig_at (c - 48) (by omega)
  rw [show 48 + (c - 48) = c by omega] at e
  exact List.mem_of_getElem? e
theorem low_eq (c : Nat) : decide (c ∈ lettersS.cps.toList) = lowB c := by
  have all : ∀ c ∈ lettersS.cps.toList, lowB c = true := by decide +kernel
  cases h : lowB c with
  | true => exact decide_eq_true (low_in h)
  | false => exact decide_eq_false fun m => by rw [all c m] at h; cases h
theorem dig_eq (c : Nat) : decide (c ∈ digitsS.cps.toList) = digB c := by
  have all : ∀ c ∈ digitsS.cps.toList, digB c = true := by decide +kernel
  cases h : digB c with
  | true => exact decide_eq_true (dig_in h)
  | false => exact decide_eq_false fun m => by rw [all c m] at h; cases h
theorem slenB {l : List Nat} (h : l.length ≤ 100000) : (S l).length ≤ sizeLine := by
  rw [SX.S_len, sizeLine_eq]
  omega
theorem nameB_cons (a : Nat) (r : List Nat) (h : (a :: r).length ≤ 8) : nameB (a :: r) = (lowB a && (a :: r).all signB) := by
  have hr : Nat.ble r.length 7 = true := Nat.ble_eq.mpr (by simp only [List.length_cons] at h; omega)
  rw [nameB, hr, Bool.true_and, List.all_cons]
  cases c : lowB a with
  | true => rw [show signB a = true by unfold signB; rw [c]; rfl, Bool.true_and, Bool.true_and]
  | false => rfl
/-- any text, or what is none -/
def spIsName (K : PySem.W.Frag) : Sp := fun vs H Q _ => ∃ v : V, vs = [v] ∧ ((∃ l : List Nat, v = .str (S l) ∧ l.length ≤ 10000 ∧ ∀ H', Same H H' → Q (.bl (nameB l)) H') ∨ (NoS K H v ∧ Q (.bl false) H))
section
variable {P : Program} {w : World} {K : PySem.W.Frag} {mg : Str → Option Value} {base : Heap} {f : Addr} {fd : FuncData}
theorem ret_go {te : TE} {D : Ends} {σ : St} {H : Hp} (h : te σ H D.rt) : tRet te D σ H := h
theorem and_go {ta tb : TE} {σ : St} {H : Hp} {Q : VK} (h : ta σ H fun x H1 => ∃ c, x = .bl c ∧ if c = true then tb σ H1 Q else Q (.bl false) H1) : tAndV ta tb σ H Q := h
theorem cb_one {r : List V → Hp → VK → Prop} {ta : TE} {σ : St} {H : Hp} {Q : VK} (h : ta σ H fun x H1 => r [x] H1 Q) : tCB r (tCons ta tNil) σ H Q := h
theorem c_is_name (T : Bt mg) (mstr : mg "str" = none) (CF : ChF mg) (F : FnP K "is_name" s_is_name f fd) (hm : mg "is_name" = some (.ref f)) : Cal P w K mg base 1 "is_name" (spIsName K) := by
  have hnd := sc_is_name.nd
  obtain ⟨tl, hl⟩ := CF.mL
  obtain ⟨td, hdg⟩ := CF.mD
  obtain ⟨tm, hmx⟩ := CF.mM
  refine cal_mk F hm sc_is_name (fun _ _ _ _ _ _ us hl => match us, hl with | [_], _ => rfl) (fun vs H Q E h => ?_) (fun cdv A outer s H vs Q E hr h => ?_)
  · obtain ⟨v, rfl, _⟩ := h
    rfl
  · obtain ⟨v, rfl, h⟩ := h
    refine ⟨_, (pss_cons (ps_if (PW.pt (pw_or (pt_not (pt_val (pe_callB call_isi (by rfl) T.m_isinstance (by decide +kernel) (pa_cons (pv 0) (pa_cons (pe_bltn (v := .ty "str") (by rfl) mstr (by decide +kernel) rfl) pa_nil))))) (pw_or1 (pt_not (pt_chain op_le op_le pe_int (pe_callB call_len_str (by rfl) T.m_len (by decide +kernel) (pa_cons (pv 0) pa_nil)) (pe_glob (v := .int 8) (by rfl) hmx ⟨_, rfl⟩))))))
      (pss_one (ps_ret pe_bl))
      pss_nil)
      (pss_one (ps_ret (pe_and (pe_cmpR op_in_sign (pe_ix ix_str (pv 0) pe_int (fun _ _ => rfl)) (pe_glob (v := .str lettersS) (by rfl) hl ⟨_, rfl⟩) (by rfl)) (pe_one (pe_callB (cr_all (by rfl)) (by rfl) T.m_all (by decide +kernel) (pa_cons (pe_lc (own := [("sign", 1)]) (tt := tYes) (by rfl) hnd (pi_str (pv 0)) (blkOk_by (own := [("sign", 1)]) (N := N_is_name) (sc := defScope s_is_name) (by decide +kernel)) (fun _ _ _ _ _ => (pg_name (i := 1) hnd rfl (by first | exact Or.inl rfl | exact Or.inr rfl))) (fun _ _ _ _ _ => pts_nil) (fun _ _ _ _ _ => (pe_or (pe_cmpR op_in_sign (pv 1) (pe_glob (v := .str lettersS) (by rfl) hl ⟨_, rfl⟩) (by rfl)) (pe_one (pe_cmpR op_in_sign (pv 1) (pe_glob (v := .str digitsS) (by rfl) hdg ⟨_, rfl⟩) (by rfl)))))) pa_nil))))))), ?_⟩
    rcases h with ⟨l, rfl, l4, q⟩ | ⟨hb, q⟩
    · have sl := slenB (l := l) (by omega)
      refine ⟨_, rfl, _, _, _, _, _, rfl, .ty _, .base (.str _), (by rfl : PySem.W.kitOne K (.type "str") (.type "str") = some true), _, rfl, iteF ?_⟩
      refine ⟨_, rfl, _, rfl, sl, _, _, rfl, rfl, _, rfl, ?_⟩
      rw [SX.S_len]
      by_cases c1 : 1 ≤ l.length
      · rw [decide_eq_true (show (1 : Int) ≤ (l.length : Nat) by omega)]
        refine iteT ⟨_, _, rfl, rfl, _, rfl, ?_⟩
        show if (!decide (((l.length : Nat) : Int) ≤ 8)) = true then _ else _
        by_cases c8 : l.length ≤ 8
        · rw [decide_eq_true (show ((l.length : Nat) : Int) ≤ 8 by omega)]
          refine iteF ?_
          dsimp only [tNext]
          obtain ⟨a, r, rfl⟩ : ∃ a r, l = a :: r := by
            cases l with
            | nil => exact absurd c1 (by decide)
            | cons a r => exact ⟨a, r, rfl⟩
          refine ret_go ?_
          refine and_go ?_
          refine ⟨_, rfl, S (a :: r), 0, a, rfl, rfl, sl, atI_nat (j := 0) rfl, a, _, rfl, rfl, _, rfl, ?_⟩
          rw [low_eq]
          cases ca : lowB a with
          | false =>
            refine iteF ?_
            have := q H (Same.refl _)
            rw [nameB_cons a r c8, ca] at this
            exact this
          | true =>
            refine iteT (cb_one ⟨_, rfl, S (a :: r), rfl, fun D nD => ?_⟩)
            refine lc_it walk_str (fun i G => Same H G ∧ G D = some (.lst (((a :: r).take i).map fun c => .bl (signB c)))) ⟨same_new nD, upd_same⟩ (fun _ _ _ _ => trivial) ?_ ?_
            · rintro i x G G' hi ⟨sg, eg⟩ ⟨rfl, c, hc, rfl⟩
              have hc' : (a :: r)[i]? = some c := by simpa using hc
              have li : i < (a :: r).length := (List.getElem?_eq_some_iff.mp hc').1
              refine ⟨rfl, ?_⟩
              unfold tYes
              dsimp only
              rw [if_pos rfl]
              have fin : ∃ acc, G' D = some (.lst acc) ∧ acc.length < sizeLine ∧ (Same H (upd G' D (.lst (acc ++ [V.bl (signB c)]))) ∧ upd G' D (.lst (acc ++ [V.bl (signB c)])) D = some (.lst (((a :: r).take (i + 1)).map fun c => .bl (signB c)))) :=
                ⟨_, eg, by rw [List.length_map, List.length_take, sizeLine_eq]; omega, same_pt nD sg, by rw [upd_same, List.take_add_one, hc', List.map_append]; rfl⟩
              refine ⟨_, rfl, c, _, rfl, rfl, _, rfl, ?_⟩
              rw [low_eq]
              cases c1 : lowB c with
              | true =>
                rw [show signB c = true by unfold signB; rw [c1]; rfl] at fin
                exact iteT fin
              | false =>
                rw [show signB c = digB c by unfold signB digB; rw [c1]; rfl] at fin
                refine iteF ⟨_, rfl, c, _, rfl, rfl, ?_⟩
                rw [dig_eq]
                exact fin
            · rintro G ⟨sg, eg⟩
              rw [show (S (a :: r)).cps.size = (a :: r).length from by simp, List.take_length] at eg
              refine ⟨D, (a :: r).map signB, rfl, SqL.of (by rw [eg, List.map_map]; rfl), ?_⟩
              have := q G sg
              rw [nameB_cons a r c8, ca, Bool.true_and] at this
              rw [List.all_map]
              exact this
        · rw [decide_eq_false (show ¬ ((l.length : Nat) : Int) ≤ 8 by omega)]
          refine iteT ?_
          have := q H (Same.refl _)
          rw [show nameB l = false from by
            cases e : nameB l with
            | false => rfl
            | true => exact absurd (nameB_len e).2 c8] at this
          exact this
      · rw [decide_eq_false (show ¬ (1 : Int) ≤ (l.length : Nat) by omega)]
        refine iteF ⟨_, rfl, iteT ?_⟩
        have := q H (Same.refl _)
        rw [show l = [] from List.eq_nil_of_length_eq_zero (by omega)] at this
        exact this
    · obtain ⟨T0, ty, k⟩ := hb.ex
      exact ⟨_, rfl, _, _, _, _, _, rfl, .ty _, ty, k, _, rfl, iteT (iteT q)⟩
end
end L2.K33
set_option Elab.async false
set_option linter.all false
set_option maxRecDepth 100000
set_option maxHeartbeats 8000000
namespace L2.K33
open PySem PySem.Spec PyProof.Rows L2.Tb
open SX (S)
abbrev s_check_names : Stmt := top 21
abbrev N_check_names : List Str := ["names", "most", "others", "index", "name"]
theorem sc_check_names : FnScope N_check_names ["names", "most", "others"] (defScope s_check_names) := ⟨rfl, rfl, rfl, by decide +kernel, rfl, by decide +kernel, by decide +kernel⟩
abbrev s_check_boxes : Stmt := top 22
abbrev N_check_boxes : List Str := ["names"]
theorem sc_check_boxes : FnScope N_check_boxes ["names"] (defScope s_check_boxes) := ⟨rfl, rfl, rfl, by decide +kernel, rfl, by decide +kernel, by decide +kernel⟩
theorem tyx_same {K : PySem.W.Frag} {H H' : Hp} {x : V} {t : Value} (s : Same H H') (h : TyX K H x t) : TyX K H' x t := by
  cases h with
  | base b =>
    refine .base ?_
    cases b with
    | non => exact .non
    | bl x => exact .bl x
    | int x => exact .int x
    | str x => exact .str x
    | flt x => exact .flt x
    | lst e => exact .lst (s _ _ e)
    | frz e => exact .frz (s _ _ e)
    | tup e => exact .tup (s _ _ e)
    | dK e => exact .dK (s _ _ e)
    | dT e => exact .dT (s _ _ e)
    | ins e a b c d f => exact .ins (s _ _ e) a b c d f
  | byt b => exact .byt b
  | set e => exact .set (s _ _ e)
  | kList e c => exact .kList e c
  | kTuple e c => exact .kTuple e c
  | kDict e c => exact .kDict e c
  | fTuple e => exact .fTuple (s _ _ e)
  | fDict e => exact .fDict (s _ _ e)
/-- not a tuple -/
structure NoT (K : PySem.W.Frag) (H : Hp) (x : V) : Prop where
  ex : ∃ t, TyX K H x t ∧ PySem.W.kitOne K t (.type "tuple") = some false
theorem NoS.same {K : PySem.W.Frag} {H H' : Hp} {x : V} (h : NoS K H x) (s : Same H H') : NoS K H' x := let ⟨t, a, b⟩ := h.ex; ⟨t, tyx_same s a, b⟩
theorem NoT.same {K : PySem.W.Frag} {H H' : Hp} {x : V} (h : NoT K H x) (s : Same H H') : NoT K H' x := let ⟨t, a, b⟩ := h.ex; ⟨t, tyx_same s a, b⟩
/-- what should be a text -/
def TxV (K : PySem.W.Frag) (H : Hp) (v : V) : Option (List Nat) → Prop
  | some l => v = .str (S l) ∧ l.length ≤ 10000
  | none => NoS K H v
theorem TxV.same {K : PySem.W.Frag} {H H' : Hp} (s : Same H H') {v : V} {r : Option (List Nat)} (h : TxV K H v r) : TxV K H' v r := by
  cases r with
  | some l => exact h
  | none => exact NoS.same h s
/-- what should be a tuple of texts -/
def BoxV (K : PySem.W.Frag) (H : Hp) (v : V) : Option (List (Option (List Nat))) → Prop
  | some rs => ∃ (N : Addr) (xs : List V), v = .ref N ∧ H N = some (.tup xs) ∧ Paired (TxV K H) xs rs ∧ rs.length ≤ 10000
  | none => NoT K H v
theorem BoxV.same {K : PySem.W.Frag} {H H' : Hp} (s : Same H H') {v : V} {r : Option (List (Option (List Nat)))} (h : BoxV K H v r) : BoxV K H' v r := by
  cases r with
  | some rs => exact let ⟨N, xs, a, b, c, d⟩ := h; ⟨N, xs, a, s _ _ b, paired_imp (fun _ _ z => TxV.same s z) c, d⟩
  | none => exact NoT.same h s
/-- the first name that is not right -/
def namesF (most : Nat) (os : List (List Nat)) : List (List Nat) → List (Option (List Nat)) → Option Nat
  | _, [] => none
  | pre, none :: _ => some pre.length
  | pre, some l :: r => if pre.length = most ∨ nameB l = false ∨ l ∈ os ∨ l ∈ pre then some pre.length else namesF most os (pre ++ [l]) r
def boxesF : Option (List (Option (List Nat))) → Option (Option Nat)
  | none => some none
  | some rs => match namesF 6 [] [] rs with
    | some k => some (some k)
    | none => if rs = [] then some none else none
def idxV : Option Nat → V
  | none => .non
  | some k => .int (k : Nat)
/-- an error with an index -/
def ErrI (H : Hp) (C : Addr) (E : XK) (i : Option Nat) : Prop := ∀ d H', Same H H' → H d = none → H' d = some (.xd [("index", idxV i)]) → E (.ref C) (some d) H'
theorem ErrI.same {H H1 : Hp} {C : Addr} {E : XK} {i : Option Nat} (h : ErrI H C E i) (s : Same H H1) : ErrI H1 C E i := fun d H' s2 n e => h d H' (s.trans s2) (none_back s n) e
def spCheckNames (K : PySem.W.Frag) (CI : Addr) : Sp := fun vs H Q E => ∃ (v : V) (r : Option (List (Option (List Nat)))) (O : Addr) (os : List (List Nat)) (most : Nat), vs = [v, .int (most : Nat), .ref O] ∧ BoxV K H v r ∧ H O = some (.tup (os.map nmV)) ∧
  (match r with
    | none => ErrI H CI E none
    | some rs => match namesF most os [] rs with
      | some k => ErrI H CI E (some k)
      | none => ∀ H', Same H H' → Q .non H')
def spCheckBoxes (K : PySem.W.Frag) (CI : Addr) : Sp := fun vs H Q E => ∃ (v : V) (r : Option (List (Option (List Nat)))), vs = [v] ∧ BoxV K H v r ∧ (match boxesF r with
    | some i => ErrI H CI E i
    | none => ∀ H', Same H H' → Q .non H')
theorem cutV_to {xs : List V} {s : Nat} (h : s ≤ xs.length) : cutV xs none (some (s : Int)) = xs.take s := by
  unfold cutV
  rw [HT.sIx_none, HT.sIx_nat, Nat.min_eq_left h, List.drop_zero, Nat.sub_zero]
theorem pairedNth {α β : Type} {R : α → β → Prop} : ∀ {xs : List α} {ys : List β} {i : Nat} {x : α}, Paired R xs ys → xs[i]? = some x → ∃ y, ys[i]? = some y ∧ R x y
  | _, _, _, _, .nil, h => by cases h
  | _, _, 0, _, .cons h _, e => ⟨_, rfl, by cases e; exact h⟩
  | _, _, i + 1, _, .cons _ t, e => pairedNth (i := i) t e
theorem paired_names {K : PySem.W.Frag} {H : Hp} : ∀ {pre : List (List Nat)} {xs : List V} {rs : List (Option (List Nat))}, Paired (TxV K H) xs rs → rs.take pre.length = pre.map some → xs.take pre.length = pre.map nmV
  | [], _, _, _, _ => by simp
  | l :: pre, _, _, .nil, h => by simp at h
  | l :: pre, x :: xs, r :: rs, .cons h t, e => by
    simp only [List.length_cons, List.take_succ_cons, List.map_cons, List.cons.injEq] at e ⊢
    obtain ⟨rfl, e⟩ := e
    exact ⟨h.1, paired_names t e⟩
theorem drop_at {α : Type} {l : List α} {i : Nat} {x : α} (h : l[i]? = some x) : l.drop i = x :: l.drop (i + 1) := by
  obtain ⟨hi, e⟩ := List.getElem?_eq_some_iff.mp h
  rw [List.drop_eq_getElem_cons hi, e]
theorem take_at {α : Type} {l : List α} {i : Nat} {x : α} (h : l[i]? = some x) : l.take (i + 1) = l.take i ++ [x] := by rw [List.take_add_one, h]; rfl
section
variable {P : Program} {w : World} {K : PySem.W.Frag} {mg : Str → Option Value} {base : Heap} {f : Addr} {fd : FuncData} {CI : Addr}
theorem c_check_names (T : Bt mg) (k_is_name : Cal P w K mg base 1 "is_name" (spIsName K)) (eInvalidNames : ErC P w K mg base "InvalidNames" "index" bVE CI) (tyInvalidNames : PySem.W.typeIn K (.ref CI) = some (.type "type")) (F : FnP K "check_names" s_check_names f fd) (hm : mg "check_names" = some (.ref f)) :
    CalX P w K mg base 3 "check_names" (spCheckNames K CI) := by
  have hnd := sc_check_names.nd
  refine calX_of F hm (fun _ _ _ _ _ _ us hl => match us, hl with | [_, _, _], _ => rfl) (F.ok sc_check_names (fun vs H Q E h => ?_) (fun cdv A outer s H vs Q E hr h => ?_))
  · obtain ⟨v, r, O, os, most, rfl, _⟩ := h
    rfl
  · obtain ⟨v, r, O, os, most, rfl, bx, eO, q⟩ := h
    refine ⟨_, (pss_cons (ps_if (pt_not (pt_val (pe_callB call_isi (by rfl) T.m_isinstance (by decide +kernel) (pa_cons (pv 0) (pa_cons (pe_bltn (v := .ty "tuple") (by rfl) T.m_tuple (by decide +kernel) rfl) pa_nil)))))
      (pss_one (ps_raise (by rfl) (takes_of rfl rfl rfl rfl) (pmk_er eInvalidNames tyInvalidNames hr (by omega) (by rfl) pe_non)))
      pss_nil)
      (pss_one (ps_for (passes_of rfl) (by rfl) (pi_enumT (by rfl) T.m_enumerate (pa_cons (pv 0) pa_nil)) (pg_tup (by rfl) (pgs_cons (pg_name (i := 3) hnd rfl (by first | exact Or.inl rfl | exact Or.inr rfl)) (pgs_cons (pg_name (i := 4) hnd rfl (by first | exact Or.inl rfl | exact Or.inr rfl)) pgs_nil)))
      (pss_one (ps_if (PW.pt (pw_or (pt_cmpR op_eq (pv 3) (pv 1) (nomark _)) (pw_or (pt_not (pt_val (pe_cal k_is_name hr (by omega) (by rfl) (pa_cons (pv 4) pa_nil)))) (pw_or (pt_cmpR (show OpR _ (compareOp .In) (rIn K false) from op_in_seq) (pv 4) (pv 2) (by rfl)) (pw_or1 (pt_cmpR (show OpR _ (compareOp .In) (rIn K false) from op_in_seq) (pv 4) (pe_slice sl_tup (pv 0) po_none (po_some (pv 3))) (by rfl)))))))
      (pss_one (ps_raise (by rfl) (takes_of rfl rfl rfl rfl) (pmk_er eInvalidNames tyInvalidNames hr (by omega) (by rfl) (pv 3))))
      pss_nil))))), ?_⟩
    cases r with
    | none =>
      obtain ⟨T0, ty, k⟩ := bx.ex
      exact ⟨_, rfl, _, _, _, _, _, rfl, .ty _, ty, k, _, rfl, iteT fun d H' s n x => q d H' s n x⟩
    | some rs =>
      obtain ⟨N, xs, rfl, eN, pd, hl⟩ := bx
      dsimp only at q
      refine ⟨_, rfl, _, _, _, _, _, rfl, .ty _, .base (.tup eN), (by rfl : PySem.W.kitOne K (.type "tuple") (.type "tuple") = some true), _, rfl, iteF ?_⟩
      dsimp only [tNext]
      refine ⟨_, rfl, N, _, rfl, SqT.of eN, for_enumT (K := K) (a := N) (xs := xs) (fun i σ' G => Same H G ∧ ∃ (pre : List (List Nat)) (x3 x4 : Option V), σ' = [some (.ref N), some (.int (most : Nat)), some (.ref O), x3, x4] ∧ pre.length = i ∧ rs.take i = pre.map some ∧ (match namesF most os pre (rs.drop i) with
      | some k => ErrI H CI E (some k)
      | none => ∀ H', Same H H' → Q .non H')) ⟨Same.refl _, [], _, _, rfl, rfl, by simp, by rw [List.drop_zero]; exact q⟩ (fun i σ' G _ h => SqT.of (h.1 _ _ eN)) ?_ ?_⟩
      · rintro i y σ' G T9 hi ⟨sG, pre, x3, x4, rfl, pl, ptk, q⟩ nT
        obtain ⟨r, hr9, tx⟩ := pairedNth pd hi
        have s1 := sG.trans (same_new (o := .tup [.int (i : Nat), y]) nT)
        rw [drop_at hr9] at q
        refine ⟨T9, _, rfl, SqT.of upd_same, rfl, _, _, rfl, _, _, rfl, rfl, ?_⟩
        try dsimp only
        have bad : ∀ (k : Nat) (G1 : Hp), k = i → ErrI H CI E (some k) → Same H G1 → ErrI G1 CI E (some i) := fun k G1 e h s => e ▸ h.same s
        refine ⟨_, rfl, _, rfl, rfl, _, rfl, ?_⟩
        by_cases cm : i = most
        · rw [decide_eq_true (show V.int ((i : Nat) : Int) = V.int (most : Nat) by rw [cm])]
          refine iteT (iteT ⟨_, rfl, fun d H' s n x => ?_⟩)
          have : ErrI H CI E (some pre.length) := by
            cases r with
            | none => exact q
            | some l =>
              unfold namesF at q
              rw [if_pos (.inl (by omega))] at q
              exact q
          exact bad _ _ pl this s1 d H' s n x
        · rw [decide_eq_false (show ¬ V.int ((i : Nat) : Int) = V.int (most : Nat) from fun z => by injection z with z; omega)]
          refine iteF ?_
          cases r with
          | none => exact ⟨_, rfl, y, rfl, .inr ⟨NoS.same tx s1, _, rfl, iteT (iteT ⟨_, rfl, fun d H' s n x => bad _ _ pl q s1 d H' s n x⟩)⟩⟩
          | some l =>
            obtain ⟨rfl, l4⟩ := tx
            refine ⟨_, rfl, _, rfl, .inl ⟨l, rfl, l4, fun G2 s2 => ⟨_, rfl, ?_⟩⟩⟩
            have s3 := s1.trans s2
            unfold namesF at q
            cases hn : nameB l with
            | false =>
              rw [if_pos (.inr (.inl hn))] at q
              exact iteT (iteT ⟨_, rfl, fun d H' s n x => bad _ _ pl q s3 d H' s n x⟩)
            | true =>
              refine iteF ⟨_, rfl, _, rfl, O, _, rfl, .inr (SqT.of (s3 _ _ eO)), rfl, names_flat _, _, rfl, ?_⟩
              rw [if_neg Bool.false_ne_true, show inV (V.str (S l)) (os.map nmV) = decide (l ∈ os) from inV_names]
              by_cases co : l ∈ os
              · rw [if_pos (.inr (.inr (.inl co)))] at q
                rw [decide_eq_true co]
                exact iteT (iteT ⟨_, rfl, fun d H' s n x => bad _ _ pl q s3 d H' s n x⟩)
              · rw [decide_eq_false co]
                have lx : i < xs.length := (List.getElem?_eq_some_iff.mp hi).1
                refine iteF ⟨_, rfl, _, rfl, _, rfl, _, rfl, N, _, rfl, SqT.of (s3 _ _ eN), (fun z => by
                  have z := z.2
                  rw [HT.sIx_nat] at z
                  omega), fun q9 nq => ?_⟩
                have hcut : cutV xs none (some ((i : Nat) : Int)) = pre.map nmV := by
                  rw [cutV_to (by omega), ← pl]
                  exact paired_names pd (by rw [pl]; exact ptk)
                rw [hcut]
                refine ⟨q9, _, rfl, .inr (SqT.of upd_same), rfl, names_flat _, _, rfl, ?_⟩
                rw [if_neg Bool.false_ne_true, show inV (V.str (S l)) (pre.map nmV) = decide (l ∈ pre) from inV_names]
                have s4 := s3.trans (same_new (o := .tup (pre.map nmV)) nq)
                by_cases cp : l ∈ pre
                · rw [if_pos (.inr (.inr (.inr cp)))] at q
                  rw [decide_eq_true cp]
                  exact iteT ⟨_, rfl, fun d H' s n x => bad _ _ pl q s4 d H' s n x⟩
                · rw [if_neg (by
                    rintro (z | z | z | z)
                    · omega
                    · rw [hn] at z
                      cases z
                    · exact co z
                    · exact cp z)] at q
                  rw [decide_eq_false cp]
                  exact iteF ⟨s4, pre ++ [l], _, _, rfl, by rw [List.length_append, pl]; rfl, by rw [take_at hr9, ptk, List.map_append]; rfl, q⟩
      · rintro σ' G ⟨sG, pre, x3, x4, rfl, pl, ptk, q⟩
        rw [List.drop_eq_nil_of_le (by rw [pd.length]; exact Nat.le_refl _)] at q
        exact q G sG
theorem c_check_boxes (T : Bt mg) (hmx : ∃ t, mg "_MOST_BOXES" = some (.int 6 t)) (eInvalidNames : ErC P w K mg base "InvalidNames" "index" bVE CI) (tyInvalidNames : PySem.W.typeIn K (.ref CI) = some (.type "type")) (x_check_names : CalX P w K mg base 3 "check_names" (spCheckNames K CI)) (F : FnP K "check_boxes" s_check_boxes f fd) (hm : mg "check_boxes" = some (.ref f)) :
    CalX P w K mg base 4 "check_boxes" (spCheckBoxes K CI) := by
  have hnd := sc_check_boxes.nd
  obtain ⟨tm, hmb⟩ := hmx
  refine calX_of F hm (fun _ _ _ _ _ _ us hl => match us, hl with | [_], _ => rfl) (F.ok sc_check_boxes (fun vs H Q E h => ?_) (fun cdv A outer s H vs Q E hr h => ?_))
  · obtain ⟨v, r, rfl, _⟩ := h
    rfl
  · obtain ⟨v, r, rfl, bx, q⟩ := h
    refine ⟨_, (pss_cons (ps_expr (pe_calX x_check_names hr (by omega) (by rfl) (passes_call (takes_of rfl rfl rfl rfl) (fun _ _ _ _ h => h)) (pa_cons (pv 0) (pa_cons (pe_glob (v := .int 6) (by rfl) hmb ⟨_, rfl⟩) (pa_cons (pe_tup pa_nil) pa_nil)))))
      (pss_one (ps_if (pt_cmpR op_eq (pe_callB call_len_seq (by rfl) T.m_len (by decide +kernel) (pa_cons (pv 0) pa_nil)) pe_int (nomark _))
      (pss_one (ps_raise (by rfl) (takes_of rfl rfl rfl rfl) (pmk_er eInvalidNames tyInvalidNames hr (by omega) (by rfl) pe_non)))
      pss_nil))), ?_⟩
    refine ⟨_, rfl, Nat.zero_le _, fun O nO => ?_⟩
    have s1 := same_new (o := .tup []) nO
    refine ⟨v, r, O, [], 6, rfl, bx.same s1, upd_same, ?_⟩
    cases r with
    | none => exact ErrI.same q s1
    | some rs =>
      unfold boxesF at q
      dsimp only at q ⊢
      cases e : namesF 6 [] [] rs with
      | some k =>
        rw [e] at q
        exact ErrI.same q s1
      | none =>
        rw [e] at q
        dsimp only at q ⊢
        intro H2 s2
        obtain ⟨N, xs, rfl, eN, pd, hl⟩ := bx
        have s3 := s1.trans s2
        refine ⟨_, rfl, N, _, rfl, .inr (SqT.of (s3 _ _ eN)), rfl, _, rfl, ?_⟩
        rw [pd.length]
        cases rs with
        | nil => exact iteT fun d H' s n x => ErrI.same q s3 d H' s n x
        | cons r rs =>
          rw [decide_eq_false (show ¬ V.int (((r :: rs).length : Nat) : Int) = V.int 0 from fun z => by injection z with z; simp at z; omega)]
          exact iteF (q _ s3)
end
end L2.K33
set_option Elab.async false
set_option linter.all false
set_option maxRecDepth 100000
set_option maxHeartbeats 8000000
namespace L2.K33
open PySem PySem.Spec PyProof.Rows L2.Tb
open SX (S)
abbrev s_row : Stmt := top 57
abbrev N_row : List Str := ["_law_each", "_law_names_here", "_law_words"]
theorem sc_row : FnScope N_row ["_law_each", "_law_names_here"] (defScope s_row) := ⟨rfl, rfl, rfl, by decide +kernel, rfl, by decide +kernel, by decide +kernel⟩
/-! ### steps and their texts -/
inductive Stp where
  | tst (u : Bool) (a b g : Nat)
  | go (g : Nat)
  | cp (a b : Nat)
  | op (s a b c : Nat)
deriving DecidableEq
def cds (z : Str) : List Nat := z.cps.toList
def tstS (u : Bool) : Str := if u then Str.ofString "unlike" else Str.ofString "same"
def opS : Nat → Str
  | 0 => Str.ofString "*"
  | 1 => Str.ofString "//"
  | _ => Str.ofString ">>"
def stV : Stp → List V
  | .tst u a b g => [.str (tstS u), .int (a : Nat), .int (b : Nat), .int (g : Nat)]
  | .go g => [.str (Str.ofString "go"), .int (g : Nat)]
  | .cp a b => [.str (Str.ofString "="), .int (a : Nat), .int (b : Nat)]
  | .op s a b c => [.str (opS s), .int (a : Nat), .int (b : Nat), .int (c : Nat)]
def numS (n : Nat) : Str := toString (n : Int)
/-- the words of a row -/
def wordsOf (ls : List (List Nat)) : Stp → List (List Nat)
  | .tst u a b g => [cds (tstS u), ls.getD a [], ls.getD b [], cds (numS g)]
  | .go g => [cds (Str.ofString "go"), cds (numS g)]
  | .cp a b => [ls.getD a [], [61], ls.getD b []]
  | .op s a b c => [ls.getD a [], [61], ls.getD b [], cds (opS s), ls.getD c []]
def rowL (ls : List (List Nat)) (d : Stp) : List Nat := TL.joinL [32] (wordsOf ls d)
/-- the names are there, the numbers small -/
def StIn (w : Nat) : Stp → Prop
  | .tst _ a b g => a < w ∧ b < w ∧ g ≤ 12
  | .go g => g ≤ 12
  | .cp a b => a < w ∧ b < w
  | .op s a b c => s < 3 ∧ a < w ∧ b < w ∧ c < w
theorem num_len : ∀ g : Nat, g < 13 → (numS g).length ≤ 2 := by decide +kernel
theorem log_num {g : Nat} (h : g ≤ 12) : ((g : Nat) : Int).natAbs.log2 < 1920 := by
  have := Nat.log2_le_self g
  rw [Int.natAbs_natCast]
  omega
theorem names_at {ls : List (List Nat)} {a : Nat} (h : a < ls.length) : atI (ls.map nmV) ((a : Nat) : Int) = some (nmV (ls.getD a [])) := atI_nat (by
  rw [List.getElem?_map]
  simp [List.getD, h])
theorem name_len {ls : List (List Nat)} (nl : NamesL ls) {a : Nat} (h : a < ls.length) : (S (ls.getD a [])).length ≤ 8 := by
  rw [SX.S_len]
  have e : ls.getD a [] = ls[a] := by simp [List.getD, h]
  rw [e]
  exact (nameB_len (nl.ok _ (List.getElem_mem h))).2
theorem cds_S (z : Str) : S (cds z) = z := (str_S z).symm
def spRow : Sp := fun vs H Q _ => ∃ (t L : Addr) (d : Stp) (ls : List (List Nat)), vs = [.ref t, .ref L] ∧ H t = some (.tup (stV d)) ∧ H L = some (.lst (ls.map nmV)) ∧ NamesL ls ∧ ls.length ≤ 9 ∧ StIn ls.length d ∧ ∀ H', Same H H' → Q (.str (S (rowL ls d))) H'
section
variable {P : Program} {w : World} {K : PySem.W.Frag} {mg : Str → Option Value} {base : Heap} {f : Addr} {fd : FuncData}
theorem c_row (T : Bt mg) (mstr : mg "str" = none) (F : FnP K "_law_row" s_row f fd) (hm : mg "_law_row" = some (.ref f)) : Cal P w K mg base 1 "_law_row" spRow := by
  have hnd := sc_row.nd
  refine cal_mk F hm sc_row (fun _ _ _ _ _ _ us hl => match us, hl with | [_, _], _ => rfl) (fun vs H Q E h => ?_) (fun cdv A outer s H vs Q E hr h => ?_)
  · obtain ⟨t, L, d, ls, rfl, _⟩ := h
    rfl
  · obtain ⟨t, L, d, ls, rfl, et, eL, nl, l9, hin, q⟩ := h
    refine ⟨_, (pss_cons (ps_if (pt_cmpR op_eq (pe_ix (show IxR _ (rIxT K) from ix_tup) (pv 0) pe_int (fun _ _ => rfl)) pe_str (nomark _))
      (pss_one (ps_ret (pe_op op_add_str pe_str (pe_callTy call_str_int (by rfl) mstr (by decide +kernel) (pa_cons (pe_ix (show IxR _ (rIxT K) from ix_tup) (pv 0) pe_int (fun _ _ => rfl)) pa_nil)))))
      pss_nil)
      (pss_cons (ps_if (pt_cmpR (show OpR _ (compareOp .In) (rIn K false) from op_in_seq) (pe_ix (show IxR _ (rIxT K) from ix_tup) (pv 0) pe_int (fun _ _ => rfl)) (pe_lst (pa_cons pe_str (pa_cons pe_str pa_nil))) (by rfl))
      (pss_one (ps_ret (pe_join pe_str (pe_lst (pa_cons (pe_ix (show IxR _ (rIxT K) from ix_tup) (pv 0) pe_int (fun _ _ => rfl)) (pa_cons (pe_ix (show IxR _ (rIxL K) from ix_list) (pv 1) (pe_ix (show IxR _ (rIxT K) from ix_tup) (pv 0) pe_int (fun _ _ => rfl)) (fun _ _ => rfl)) (pa_cons (pe_ix (show IxR _ (rIxL K) from ix_list) (pv 1) (pe_ix (show IxR _ (rIxT K) from ix_tup) (pv 0) pe_int (fun _ _ => rfl)) (fun _ _ => rfl)) (pa_cons (pe_callTy call_str_int (by rfl) mstr (by decide +kernel) (pa_cons (pe_ix (show IxR _ (rIxT K) from ix_tup) (pv 0) pe_int (fun _ _ => rfl)) pa_nil)) pa_nil))))))))
      pss_nil)
      (pss_cons (ps_if (pt_cmpR op_eq (pe_ix (show IxR _ (rIxT K) from ix_tup) (pv 0) pe_int (fun _ _ => rfl)) pe_str (nomark _))
      (pss_one (ps_ret (pe_op op_add_str (pe_op op_add_str (pe_ix (show IxR _ (rIxL K) from ix_list) (pv 1) (pe_ix (show IxR _ (rIxT K) from ix_tup) (pv 0) pe_int (fun _ _ => rfl)) (fun _ _ => rfl)) pe_str) (pe_ix (show IxR _ (rIxL K) from ix_list) (pv 1) (pe_ix (show IxR _ (rIxT K) from ix_tup) (pv 0) pe_int (fun _ _ => rfl)) (fun _ _ => rfl)))))
      pss_nil)
      (pss_cons (ps_set (i := 2) hnd rfl (by first | exact Or.inl rfl | exact Or.inr rfl) (pe_lst (pa_cons (pe_ix (show IxR _ (rIxL K) from ix_list) (pv 1) (pe_ix (show IxR _ (rIxT K) from ix_tup) (pv 0) pe_int (fun _ _ => rfl)) (fun _ _ => rfl)) (pa_cons pe_str (pa_cons (pe_ix (show IxR _ (rIxL K) from ix_list) (pv 1) (pe_ix (show IxR _ (rIxT K) from ix_tup) (pv 0) pe_int (fun _ _ => rfl)) (fun _ _ => rfl)) (pa_cons (pe_ix (show IxR _ (rIxT K) from ix_tup) (pv 0) pe_int (fun _ _ => rfl)) (pa_cons (pe_ix (show IxR _ (rIxL K) from ix_list) (pv 1) (pe_ix (show IxR _ (rIxT K) from ix_tup) (pv 0) pe_int (fun _ _ => rfl)) (fun _ _ => rfl)) pa_nil)))))))
      (pss_one (ps_ret (pe_join pe_str (pv 2)))))))), ?_⟩
    cases d with
    | go g =>
      refine ⟨_, rfl, t, _, 0, .str (Str.ofString "go"), rfl, rfl, SqT.of et, rfl, rfl, _, rfl, ?_⟩
      rw [decide_eq_true rfl]
      have hg : g ≤ 12 := hin
      have ln := num_len g (by omega)
      refine iteT ⟨_, rfl, t, _, 1, .int (g : Nat), rfl, rfl, SqT.of et, rfl, _, rfl, log_num hg, _, _, rfl, rfl, ?_, ?_⟩
      · show (Str.ofString "go ").length + (numS g).length ≤ sizeLine
        rw [show (Str.ofString "go ").length = 3 by decide +kernel, sizeLine_eq]
        omega
      · have e : (Str.ofString "go ") ++ numS g = S (rowL ls (.go g)) := by
          rw [show (Str.ofString "go ") = S (cds (Str.ofString "go") ++ [32]) by decide +kernel]
          conv => lhs; rw [← cds_S (numS g)]
          rw [SX.S_cat]
          show S _ = S (cds (Str.ofString "go") ++ ([32] ++ cds (numS g)))
          rw [List.append_assoc]
        show Q (.str ((Str.ofString "go ") ++ numS g)) H
        rw [e]
        exact q _ (Same.refl _)
    | tst u a b g =>
      obtain ⟨ha, hb, hg⟩ := (show a < ls.length ∧ b < ls.length ∧ g ≤ 12 from hin)
      have ln := num_len g (by omega)
      refine ⟨_, rfl, t, _, 0, .str (tstS u), rfl, rfl, SqT.of et, rfl, rfl, _, rfl, ?_⟩
      rw [show decide (V.str (tstS u) = V.str (Str.ofString "go")) = false by cases u <;> decide +kernel]
      refine iteF ?_
      dsimp only [tNext]
      refine ⟨_, rfl, t, _, 0, .str (tstS u), rfl, rfl, SqT.of et, rfl, Nat.le_of_ble_eq_true rfl, fun Lq nLq => ?_⟩
      have s1 := same_new (o := .lst [.str (Str.ofString "same"), .str (Str.ofString "unlike")]) nLq
      refine ⟨Lq, _, rfl, .inl (SqL.of upd_same), rfl, rfl, _, rfl, ?_⟩
      rw [if_neg Bool.false_ne_true, show inV (.str (tstS u)) [.str (Str.ofString "same"), .str (Str.ofString "unlike")] = true by cases u <;> decide +kernel]
      have et1 := s1 _ _ et
      have eL1 := s1 _ _ eL
      generalize upd H Lq (.lst [.str (Str.ofString "same"), .str (Str.ofString "unlike")]) = H1 at s1 et1 eL1 ⊢
      refine iteT ⟨⟨_, rfl⟩, _, rfl, t, _, 0, .str (tstS u), rfl, rfl, SqT.of et1, rfl, _, rfl, _, rfl, t, _, 1, .int (a : Nat), rfl, rfl, SqT.of et1, rfl, L, _, _, _, rfl, rfl, SqL.of eL1, names_at ha, _, rfl, _, rfl, t, _, 2, .int (b : Nat), rfl, rfl, SqT.of et1, rfl, L, _, _, _, rfl, rfl, SqL.of eL1, names_at hb,
        _, rfl, t, _, 3, .int (g : Nat), rfl, rfl, SqT.of et1, rfl, _, rfl, log_num hg, Nat.le_of_ble_eq_true rfl, fun M nM => ?_⟩
      have sM := same_new (o := .lst [.str (tstS u), nmV (ls.getD a []), nmV (ls.getD b []), .str (numS g)]) nM
      have la := name_len nl ha
      have lb := name_len nl hb
      refine ⟨_, M, [tstS u, S (ls.getD a []), S (ls.getD b []), numS g], rfl, rfl, .inl (SqL.of upd_same), ?_, ?_⟩
      · have lu : (tstS u).length ≤ 6 := by cases u <;> decide +kernel
        have l1 : (Str.ofString " ").length = 1 := by decide +kernel
        simp only [List.map_cons, List.map_nil, List.sum_cons, List.sum_nil, List.length_cons, List.length_nil, l1]
        omega
      · rw [show (Str.ofString " ") = S [32] by decide +kernel, show [tstS u, S (ls.getD a []), S (ls.getD b []), numS g] = (wordsOf ls (.tst u a b g)).map S by simp [wordsOf, cds_S], SX.join_S]
        exact q _ (s1.trans sM)
    | cp a b =>
      obtain ⟨ha, hb⟩ := (show a < ls.length ∧ b < ls.length from hin)
      refine ⟨_, rfl, t, _, 0, .str (Str.ofString "="), rfl, rfl, SqT.of et, rfl, rfl, _, rfl, ?_⟩
      rw [show decide (V.str (Str.ofString "=") = V.str (Str.ofString "go")) = false by decide +kernel]
      refine iteF ?_
      dsimp only [tNext]
      refine ⟨_, rfl, t, _, 0, .str (Str.ofString "="), rfl, rfl, SqT.of et, rfl, Nat.le_of_ble_eq_true rfl, fun Lq nLq => ?_⟩
      have s1 := same_new (o := .lst [.str (Str.ofString "same"), .str (Str.ofString "unlike")]) nLq
      refine ⟨Lq, _, rfl, .inl (SqL.of upd_same), rfl, rfl, _, rfl, ?_⟩
      rw [if_neg Bool.false_ne_true, show inV (.str (Str.ofString "=")) [.str (Str.ofString "same"), .str (Str.ofString "unlike")] = false by decide +kernel]
      have et1 := s1 _ _ et
      have eL1 := s1 _ _ eL
      generalize upd H Lq (.lst [.str (Str.ofString "same"), .str (Str.ofString "unlike")]) = H1 at s1 et1 eL1 ⊢
      refine iteF ?_
      dsimp only [tNext]
      refine ⟨_, rfl, t, _, 0, .str (Str.ofString "="), rfl, rfl, SqT.of et1, rfl, rfl, _, rfl, ?_⟩
      rw [decide_eq_true rfl]
      have la := name_len nl ha
      have lb := name_len nl hb
      have l3 : (Str.ofString " = ").length = 3 := by decide +kernel
      refine iteT ⟨_, rfl, _, rfl, t, _, 1, .int (a : Nat), rfl, rfl, SqT.of et1, rfl, L, _, _, _, rfl, rfl, SqL.of eL1, names_at ha, _, _, rfl, rfl, by rw [l3, sizeLine_eq]; omega, _, rfl, _, rfl, t, _, 2, .int (b : Nat), rfl, rfl, SqT.of et1, rfl, L, _, _, _, rfl, rfl, SqL.of eL1, names_at hb, _, _, rfl, rfl, ?_, ?_⟩
      · rw [show (Str.ofString " = ") = S [32, 61, 32] by decide +kernel, SX.S_cat, SX.S_len, List.length_append, sizeLine_eq]
        rw [SX.S_len] at la
        have : ([32, 61, 32] : List Nat).length = 3 := rfl
        omega
      · rw [show (Str.ofString " = ") = S [32, 61, 32] by decide +kernel, SX.S_cat, SX.S_cat]
        have e : (ls.getD a [] ++ [32, 61, 32]) ++ ls.getD b [] = rowL ls (.cp a b) := by
          show _ = ls.getD a [] ++ ([32] ++ ([61] ++ ([32] ++ ls.getD b [])))
          simp
        rw [e]
        exact q _ s1
    | op k a b c =>
      obtain ⟨hk, ha, hb, hc⟩ := (show k < 3 ∧ a < ls.length ∧ b < ls.length ∧ c < ls.length from hin)
      have k3 : k = 0 ∨ k = 1 ∨ k = 2 := by omega
      refine ⟨_, rfl, t, _, 0, .str (opS k), rfl, rfl, SqT.of et, rfl, rfl, _, rfl, ?_⟩
      rw [show decide (V.str (opS k) = V.str (Str.ofString "go")) = false by rcases k3 with rfl | rfl | rfl <;> decide +kernel]
      refine iteF ?_
      dsimp only [tNext]
      refine ⟨_, rfl, t, _, 0, .str (opS k), rfl, rfl, SqT.of et, rfl, Nat.le_of_ble_eq_true rfl, fun Lq nLq => ?_⟩
      have s1 := same_new (o := .lst [.str (Str.ofString "same"), .str (Str.ofString "unlike")]) nLq
      refine ⟨Lq, _, rfl, .inl (SqL.of upd_same), rfl, rfl, _, rfl, ?_⟩
      rw [if_neg Bool.false_ne_true, show inV (.str (opS k)) [.str (Str.ofString "same"), .str (Str.ofString "unlike")] = false by rcases k3 with rfl | rfl | rfl <;> decide +kernel]
      have et1 := s1 _ _ et
      have eL1 := s1 _ _ eL
      generalize upd H Lq (.lst [.str (Str.ofString "same"), .str (Str.ofString "unlike")]) = H1 at s1 et1 eL1 ⊢
      refine iteF ?_
      dsimp only [tNext]
      refine ⟨_, rfl, t, _, 0, .str (opS k), rfl, rfl, SqT.of et1, rfl, rfl, _, rfl, ?_⟩
      rw [show decide (V.str (opS k) = V.str (Str.ofString "=")) = false by rcases k3 with rfl | rfl | rfl <;> decide +kernel]
      refine iteF ?_
      dsimp only [tNext]
      refine ⟨_, rfl, _, rfl, t, _, 1, .int (a : Nat), rfl, rfl, SqT.of et1, rfl, L, _, _, _, rfl, rfl, SqL.of eL1, names_at ha, _, rfl, _, rfl, t, _, 2, .int (b : Nat), rfl, rfl, SqT.of et1, rfl, L, _, _, _, rfl, rfl, SqL.of eL1, names_at hb, _, rfl, t, _, 0, .str (opS k), rfl, rfl, SqT.of et1, rfl,
        _, rfl, _, rfl, t, _, 3, .int (c : Nat), rfl, rfl, SqT.of et1, rfl, L, _, _, _, rfl, rfl, SqL.of eL1, names_at hc, Nat.le_of_ble_eq_true rfl, fun M nM => gname_go ?_⟩
      try dsimp only
      have sM := same_new (o := .lst [nmV (ls.getD a []), .str (Str.ofString "="), nmV (ls.getD b []), .str (opS k), nmV (ls.getD c [])]) nM
      have la := name_len nl ha
      have lb := name_len nl hb
      have lc := name_len nl hc
      refine ⟨⟨_, rfl⟩, _, rfl, _, M, [S (ls.getD a []), Str.ofString "=", S (ls.getD b []), opS k, S (ls.getD c [])], rfl, rfl, .inl (SqL.of upd_same), ?_, ?_⟩
      · have lu : (opS k).length ≤ 2 := by rcases k3 with rfl | rfl | rfl <;> decide +kernel
        have l1 : (Str.ofString " ").length = 1 := by decide +kernel
        have l2 : (Str.ofString "=").length = 1 := by decide +kernel
        simp only [List.map_cons, List.map_nil, List.sum_cons, List.sum_nil, List.length_cons, List.length_nil, l1, l2]
        omega
      · rw [show (Str.ofString " ") = S [32] by decide +kernel, show [S (ls.getD a []), Str.ofString "=", S (ls.getD b []), opS k, S (ls.getD c [])] = (wordsOf ls (.op k a b c)).map S by
          simp only [wordsOf, List.map_cons, List.map_nil, cds_S]
          rw [show (Str.ofString "=") = S [61] by decide +kernel], SX.join_S]
        exact q _ (s1.trans sM)
end
end L2.K33
set_option Elab.async false
set_option linter.all false
set_option maxRecDepth 100000
set_option maxHeartbeats 8000000
namespace L2.K33
open PySem PySem.Spec PyProof.Rows L2.Tb
open SX (S)
abbrev s_steps : Stmt := top 56
abbrev N_steps : List Str := ["_law_purse_here", "_law_width", "_law_many", "_law_tests", "_law_found", "_law_k", "_law_way", "_law_a", "_law_b", "_law_c"]
theorem sc_steps : FnScope N_steps ["_law_purse_here", "_law_width", "_law_many", "_law_tests"] (defScope s_steps) := ⟨rfl, rfl, rfl, by decide +kernel, rfl, by decide +kernel, by decide +kernel⟩
/-- right at place k of m rows -/
def StAt (w m k : Nat) : Stp → Prop
  | .tst _ a b g => a < w ∧ b < w ∧ k + 2 ≤ g ∧ g ≤ m
  | .go g => k + 1 ≤ g ∧ g ≤ m
  | .cp a b => a < w ∧ b < w
  | .op s a b c => s < 3 ∧ a < w ∧ b < w ∧ c < w
def isT : Stp → Bool
  | .tst .. => true
  | _ => false
/-- right steps -/
structure StepsL (w m : Nat) (ds : List Stp) : Prop where
  at_ : ∀ k d, ds[k]? = some d → StAt w m k d
  few : (ds.filter isT).length ≤ 4
theorem StAt.in_ {w m k : Nat} {d : Stp} (h : StAt w m k d) (hm : m ≤ 12) : StIn w d := by
  cases d with
  | tst u a b g => exact ⟨h.1, h.2.1, by have := h.2.2.2; omega⟩
  | go g => exact (by have := h.2; exact (by omega : g ≤ 12))
  | cp a b => exact h
  | op s a b c => exact h
def StepAt (H : Hp) (t : Addr) (d : Stp) : Prop := H t = some (.tup (stV d))
def spSteps : Sp := fun vs H Q _ => ∃ (p : Addr) (w m : Nat), vs = [.ref p, .int (w : Int), .int (m : Int), .int 4] ∧ Purse H p ∧ 1 ≤ w ∧ w ≤ 9 ∧ m ≤ 12 ∧
  ∀ (ds : List Stp) (ts : List Addr) (L : Addr) (H' : Hp), ds.length = m → StepsL w m ds → Paired (fun t d => StepAt H' t d) ts ds → (∀ t ∈ ts, H t = none ∧ t ≠ p) → SameB p H H' → Purse H' p → H L = none → L ≠ p → H' L = some (.lst (ts.map V.ref)) → Q (.ref L) H'
theorem paired_in {α β : Type} {R S : α → β → Prop} : ∀ {xs : List α} {ys : List β}, Paired R xs ys → (∀ a b, a ∈ xs → R a b → S a b) → Paired S xs ys
  | _, _, .nil, _ => .nil
  | _, _, .cons h t, f => .cons (f _ _ List.mem_cons_self h) (paired_in t fun a b ha r => f a b (List.mem_cons_of_mem _ ha) r)
/-- amid the making -/
def StInv (H : Hp) (p L : Addr) (w m i : Nat) (σ : St) (G : Hp) : Prop := ∃ (ds : List Stp) (ts : List Addr) (tc : Nat) (x5 x6 x7 x8 x9 : Option V), σ = [some (.ref p), some (.int (w : Int)), some (.int (m : Int)), some (.int (tc : Int)), some (.ref L), x5, x6, x7, x8, x9] ∧ G L = some (.lst (ts.map V.ref)) ∧ ds.length = i ∧
  (∀ k d, ds[k]? = some d → StAt w m k d) ∧ (ds.filter isT).length + tc ≤ 4 ∧ Paired (fun t d => StepAt G t d) ts ds ∧ (∀ t ∈ ts, H t = none ∧ t ≠ p) ∧ SameB p H G ∧ Purse G p
theorem StInv.put {H G G4 : Hp} {p L t : Addr} {w m i tc tc' : Nat} {ds : List Stp} {ts : List Addr} {d : Stp} {y5 y6 y7 y8 y9 : Option V} (nL : H L = none) (nLp : L ≠ p) (eL : G L = some (.lst (ts.map V.ref))) (hl : ds.length = i) (ha : ∀ k d, ds[k]? = some d → StAt w m k d)
    (hf : (ds.filter isT).length + tc ≤ 4) (pr : Paired (fun t d => StepAt G t d) ts ds) (nt : ∀ t ∈ ts, H t = none ∧ t ≠ p) (sG : SameB p H G) (hd : StAt w m i d) (ht : (if isT d = true then 1 else 0) + tc' ≤ tc) (s4 : SameB p G G4) (u4 : Purse G4 p) (n4 : G4 t = none) :
    StInv H p L w m (i + 1) [some (.ref p), some (.int (w : Int)), some (.int (m : Int)), some (.int (tc' : Int)), some (.ref L), y5, y6, y7, y8, y9] (upd (upd G4 t (.tup (stV d))) L (.lst (ts.map V.ref ++ [.ref t]))) := by
  have eL4 := s4 _ _ nLp eL
  have tL : t ≠ L := fun z => by
    rw [z, eL4] at n4
    cases n4
  have tp : t ≠ p := fun z => by
    obtain ⟨st, dg, c, e, r⟩ := u4.ex
    rw [z, e] at n4
    cases n4
  refine ⟨ds ++ [d], ts ++ [t], tc', _, _, _, _, _, rfl, by rw [upd_same, List.map_append]; rfl, by rw [List.length_append, hl]; rfl, fun k e hk => ?_, ?_, ?_, fun x hx => ?_, fun b o nb e => ?_, ?_⟩
  · by_cases c : k < ds.length
    · rw [List.getElem?_append_left c] at hk
      exact ha k e hk
    · rw [List.getElem?_append_right (by omega)] at hk
      have hk0 : k - ds.length = 0 := by
        by_cases z : k - ds.length = 0
        · exact z
        · rw [List.getElem?_eq_none (by show 1 ≤ _; omega)] at hk
          cases hk
      rw [hk0] at hk
      cases hk
      rw [show k = i by omega]
      exact hd
  · rw [List.filter_append, List.length_append]
    have : ([d].filter isT).length = if isT d = true then 1 else 0 := by
      by_cases z : isT d = true
      · rw [List.filter_cons_of_pos z, if_pos z]
        rfl
      · rw [List.filter_cons_of_neg z, if_neg z]
        rfl
    omega
  · refine (Paired.snoc (paired_in pr fun a b ha hab => ?_) ?_)
    · have na : a ≠ L := fun z => by
        have hab : G a = some (.tup (stV b)) := hab
        rw [z, eL] at hab
        cases hab
      have e4 := s4 _ _ (nt a ha).2 hab
      show upd _ _ _ _ = _
      rw [upd_ne na, upd_ne (ne_of_none e4 n4)]
      exact e4
    · show upd _ _ _ _ = _
      rw [upd_ne tL, upd_same]
  · rcases List.mem_append.mp hx with hx | hx
    · exact nt x hx
    · rw [List.mem_singleton.mp hx]
      refine ⟨?_, tp⟩
      cases e : H t with
      | none => rfl
      | some o =>
        have := s4 _ _ tp (sG _ _ tp e)
        rw [n4] at this
        cases this
  · have e4 := s4 _ _ nb (sG _ _ nb e)
    rw [upd_ne (ne_of_none e nL), upd_ne (ne_of_none e4 n4)]
    exact e4
  · obtain ⟨st, dg, c, e, r⟩ := u4.ex
    exact ⟨st, dg, c, by rw [upd_ne (Ne.symm nLp), upd_ne (Ne.symm tp)]; exact e, r⟩
section
variable {P : Program} {w : World} {K : PySem.W.Frag} {mg : Str → Option Value} {base : Heap} {f : Addr} {fd : FuncData}
theorem c_steps (T : Bt mg) (F : FnP K "_law_steps" s_steps f fd) (hm : mg "_law_steps" = some (.ref f)) (k_draw : Cal P w K mg base 1 "_law_draw" spDraw) : Cal P w K mg base 2 "_law_steps" spSteps := by
  have hnd := sc_steps.nd
  refine cal_mk F hm sc_steps (fun _ _ _ _ _ _ us hl => match us, hl with | [_, _, _, _], _ => rfl) (fun vs H Q E h => ?_) (fun cdv A outer s H vs Q E hr h => ?_)
  · obtain ⟨p, wd, m, rfl, _⟩ := h
    rfl
  · obtain ⟨p, wd, m, rfl, hp, w1, w9, m12, q⟩ := h
    refine ⟨_, (pss_cons (ps_set (i := 4) hnd rfl (by first | exact Or.inl rfl | exact Or.inr rfl) (pe_lst pa_nil))
      (pss_cons (ps_for PassesOwn.never (by rfl) (pi_range1 (by rfl) T.m_range (pa_cons (pv 2) pa_nil)) (pg_name (i := 5) hnd rfl (by first | exact Or.inl rfl | exact Or.inr rfl))
      (pss_cons (ps_set (i := 6) hnd rfl (by first | exact Or.inl rfl | exact Or.inr rfl) (pe_cal k_draw hr (by omega) (by rfl) (pa_cons (pv 0) (pa_cons pe_int pa_nil))))
      (pss_cons (ps_par3 (i := 7) (j := 8) (l := 9) (by rfl) hnd rfl rfl rfl (by decide) (by decide) (by decide) (by rfl) (by rfl) (by rfl) (pa_cons (pe_cal k_draw hr (by omega) (by rfl) (pa_cons (pv 0) (pa_cons (pv 1) pa_nil))) (pa_cons (pe_cal k_draw hr (by omega) (by rfl) (pa_cons (pv 0) (pa_cons (pv 1) pa_nil))) (pa_cons (pe_cal k_draw hr (by omega) (by rfl) (pa_cons (pv 0) (pa_cons (pv 1) pa_nil))) pa_nil))) (by rfl))
      (pss_one (ps_if (PW.pt (pw_and (pt_cmpR op_lt (pv 6) pe_int (nomark _)) (pw_and (pt_cmpR op_gt (pv 3) pe_int (nomark _)) (pw_and1 (pt_cmpR op_le (pe_op op_add (pv 5) pe_int) (pv 2) (nomark _))))))
      (pss_cons (ps_expr (pe_bm PySem.F.plainAttrs_list PySem.F.slot_list_append PySem.F.type_list_append mt_append (pv 4) (pa_cons (pe_tup (pa_cons (pe_ix (show IxR _ (rIxL K) from ix_list) (pe_lst (pa_cons pe_str (pa_cons pe_str (pa_cons pe_str pa_nil)))) (pv 6) (fun _ _ => rfl)) (pa_cons (pv 7) (pa_cons (pv 8) (pa_cons (pe_op op_add (pe_op op_add (pv 5) pe_int) (pe_cal k_draw hr (by omega) (by rfl) (pa_cons (pv 0) (pa_cons (pe_op op_sub (pe_op op_sub (pv 2) (pv 5)) pe_int) pa_nil)))) pa_nil))))) pa_nil)))
      (pss_one (ps_set (i := 3) hnd rfl (by first | exact Or.inl rfl | exact Or.inr rfl) (pe_op op_sub (pv 3) pe_int))))
      (pss_one (ps_if (pt_cmpR op_eq (pv 6) pe_int (nomark _))
      (pss_one (ps_expr (pe_bm PySem.F.plainAttrs_list PySem.F.slot_list_append PySem.F.type_list_append mt_append (pv 4) (pa_cons (pe_tup (pa_cons pe_str (pa_cons (pe_op op_add (pe_op op_add (pv 5) pe_int) (pe_cal k_draw hr (by omega) (by rfl) (pa_cons (pv 0) (pa_cons (pe_callB (call_min2 (by rfl)) (by rfl) T.m_min (by decide +kernel) (pa_cons pe_int (pa_cons (pe_op op_sub (pv 2) (pv 5)) pa_nil))) pa_nil)))) pa_nil))) pa_nil))))
      (pss_one (ps_if (pt_cmpR op_eq (pv 6) pe_int (nomark _))
      (pss_one (ps_expr (pe_bm PySem.F.plainAttrs_list PySem.F.slot_list_append PySem.F.type_list_append mt_append (pv 4) (pa_cons (pe_tup (pa_cons pe_str (pa_cons (pv 7) (pa_cons (pv 8) pa_nil)))) pa_nil))))
      (pss_one (ps_expr (pe_bm PySem.F.plainAttrs_list PySem.F.slot_list_append PySem.F.type_list_append mt_append (pv 4) (pa_cons (pe_tup (pa_cons (pe_ix (show IxR _ (rIxL K) from ix_list) (pe_lst (pa_cons pe_str (pa_cons pe_str (pa_cons pe_str pa_nil)))) (pe_cal k_draw hr (by omega) (by rfl) (pa_cons (pv 0) (pa_cons pe_int pa_nil))) (fun _ _ => rfl)) (pa_cons (pv 7) (pa_cons (pv 8) (pa_cons (pv 9) pa_nil))))) pa_nil)))))))))))))
      (pss_one (ps_ret (pv 4))))), ?_⟩
    refine ⟨Nat.zero_le _, fun L nL => gname_go ?_⟩
    try dsimp only
    have nLp : L ≠ p := fun z => by
      obtain ⟨st, dg, c, e, r⟩ := hp.ex
      rw [z, e] at nL
      cases nL
    have s0 := same_new (o := .lst []) nL
    have e0 := upd_same (H := H) (a := L) (o := .lst [])
    have u0 := hp.same s0
    refine ⟨_, rfl, (m : Int), rfl, by omega, by omega, ?_⟩
    refine for_range (n := ((m : Nat) : Int).toNat) (fun i σ' G => StInv H p L wd m i σ' G) ⟨[], [], 4, _, _, _, _, _, rfl, e0, rfl, fun k d h => by (simp at h), by decide, .nil, fun t h => by (cases h), SameB.of s0, u0⟩ ?_ ?_
    · rintro i σ' G hi ⟨ds, ts, tc, x5, x6, x7, x8, x9, rfl, eL, hl, ha, hf, pr, nt, sG, uG⟩
      have hi : i < m := by
        rw [Int.toNat_natCast] at hi
        exact hi
      refine gname_go ?_
      try dsimp only
      refine ⟨_, rfl, p, 9, rfl, uG, by decide, by decide, fun d G1 d0 d1 s1 u1 => gname_go ?_⟩
      try dsimp only
      refine ⟨_, rfl, _, rfl, p, _, rfl, u1, by omega, by omega, fun a G2 a0 a1 s2 u2 => ⟨_, rfl, _, rfl, p, _, rfl, u2, by omega, by omega, fun b G3 b0 b1 s3 u3 => ⟨_, rfl, _, rfl, p, _, rfl, u3, by omega, by omega, fun c G4 c0 c1 s4 u4 => ⟨_, _, _, rfl, ?_⟩⟩⟩⟩
      try dsimp only
      obtain ⟨a, rfl⟩ := Int.eq_ofNat_of_zero_le a0
      obtain ⟨b, rfl⟩ := Int.eq_ofNat_of_zero_le b0
      obtain ⟨c, rfl⟩ := Int.eq_ofNat_of_zero_le c0
      have sx := ((s1.trans s2).trans s3).trans s4
      have eL4 := sx _ _ nLp eL
      have tests : ∀ {Q' : Bool → Hp → Prop}, (∀ b' : Bool, (b' = true ↔ (d < 3 ∧ 0 < tc ∧ i + 2 ≤ m)) → Q' b' G4) →
          tAnd (tTest (tOp (rI0 fun i j => V.bl (decide (i < j))) (tVar 6) (tC (V.int 3)))) (tAnd (tTest (tOp (rI0 fun i j => V.bl (decide (j < i))) (tVar 3) (tC (V.int 0)))) (tTest (tOp (rI0 fun i j => V.bl (decide (i ≤ j))) (tOp (rI0 fun i j => V.int (i + j)) (tVar 5) (tC (V.int 2))) (tVar 2))))
            [some (.ref p), some (.int (wd : Int)), some (.int (m : Int)), some (.int (tc : Int)), some (.ref L), some (.int (0 + (i : Int))), some (.int d), some (.int (a : Int)), some (.int (b : Int)), some (.int (c : Int))] G4 Q' := fun {Q'} hQ => by
        refine ⟨_, rfl, _, _, rfl, rfl, _, rfl, ?_⟩
        by_cases c1 : d < 3
        · rw [decide_eq_true c1]
          refine iteT ⟨_, rfl, _, _, rfl, rfl, _, rfl, ?_⟩
          by_cases c2 : 0 < tc
          · rw [decide_eq_true (show (0 : Int) < (tc : Int) by omega)]
            refine iteT ⟨_, rfl, _, _, rfl, rfl, _, rfl, _, _, rfl, rfl, _, rfl, hQ _ ?_⟩
            rw [decide_eq_true_iff]
            constructor
            · intro z
              exact ⟨c1, c2, by omega⟩
            · rintro ⟨_, _, z⟩
              omega
          · rw [decide_eq_false (show ¬ (0 : Int) < (tc : Int) by omega)]
            exact iteF (hQ _ ⟨fun z => (by cases z), fun z => absurd z.2.1 c2⟩)
        · rw [decide_eq_false c1]
          exact iteF (hQ _ ⟨fun z => (by cases z), fun z => absurd z.1 c1⟩)
      refine tests fun b' hb' => ?_
      have len4 : (ts.map V.ref).length < sizeLine := by
        rw [List.length_map, pr.length, hl, sizeLine_eq]
        omega
      cases b' with
      | true =>
        obtain ⟨h1, h2, h3⟩ := hb'.mp rfl
        obtain ⟨uu, huu⟩ : ∃ uu : Bool, atI [V.str (Str.ofString "same"), .str (Str.ofString "unlike"), .str (Str.ofString "same")] d = some (.str (tstS uu)) := by
          rcases (show d = 0 ∨ d = 1 ∨ d = 2 by omega) with rfl | rfl | rfl
          · exact ⟨false, rfl⟩
          · exact ⟨true, rfl⟩
          · exact ⟨false, rfl⟩
        refine iteT ⟨_, rfl, .inl ⟨rfl, _, SqL.of eL4⟩, Nat.le_of_ble_eq_true rfl, fun Lq nLq => ?_⟩
        have sq := same_new (o := .lst [.str (Str.ofString "same"), .str (Str.ofString "unlike"), .str (Str.ofString "same")]) nLq
        have uq := u4.same sq
        refine ⟨_, rfl, Lq, _, d, .str (tstS uu), rfl, rfl, SqL.of upd_same, huu, _, rfl, _, rfl, _, rfl, _, _, rfl, rfl, _, rfl, _, rfl, _, rfl, _, _, rfl, rfl, _, _, rfl, rfl, p, _, rfl, uq, by omega, by omega, fun e G5 e0 e1 s5 u5 => ?_⟩
        obtain ⟨k, rfl⟩ := Int.eq_ofNat_of_zero_le e0
        have s45 := (SameB.of sq).trans s5
        have eL5 := s45 _ _ nLp eL4
        refine ⟨_, _, rfl, rfl, Nat.le_of_ble_eq_true rfl, fun t nT => ?_⟩
        have tL : t ≠ L := fun z => by
          rw [z, eL5] at nT
          cases nT
        refine ⟨L, _, _, rfl, rfl, by rw [upd_ne (Ne.symm tL)]; exact eL5, len4, _, rfl, _, _, rfl, rfl, gname_go ?_⟩
        have en : (0 + (i : Int)) + 2 + (k : Int) = ((i + 2 + k : Nat) : Int) := by omega
        have et : ((tc : Nat) : Int) - 1 = ((tc - 1 : Nat) : Int) := by omega
        show StInv H p L wd m (i + 1) [some (.ref p), some (.int (wd : Int)), some (.int (m : Int)), some (.int (((tc : Nat) : Int) - 1)), some (.ref L), some (.int (0 + (i : Int))), some (.int d), some (.int (a : Int)), some (.int (b : Int)), some (.int (c : Int))] (upd (upd G5 t (.tup [.str (tstS uu), .int (a : Int), .int (b : Int), .int ((0 + (i : Int)) + 2 + (k : Int))])) L (.lst (ts.map V.ref ++ [.ref t])))
        rw [et, en]
        exact StInv.put nL nLp eL hl ha hf pr nt sG (d := .tst uu a b (i + 2 + k)) ⟨by omega, by omega, by omega, by omega⟩ (by show 1 + (tc - 1) ≤ tc; omega) (sx.trans s45) u5 nT
      | false =>
        refine iteF ?_
        refine ⟨_, rfl, rfl, _, rfl, ?_⟩
        by_cases c3 : d = 3
        · rw [decide_eq_true (show V.int d = V.int 3 by rw [c3])]
          refine iteT ⟨_, rfl, .inl ⟨rfl, _, SqL.of eL4⟩, _, rfl, _, _, rfl, rfl, _, rfl, _, rfl, _, rfl, _, _, rfl, rfl, _, _, rfl, p, _, rfl, u4, by split <;> omega, by split <;> omega, fun e G5 e0 e1 s5 u5 => ?_⟩
          obtain ⟨k, rfl⟩ := Int.eq_ofNat_of_zero_le e0
          have hk : (k : Int) < (m : Int) - (0 + (i : Int)) := by
            split at e1 <;> omega
          have eL5 := s5 _ _ nLp eL4
          refine ⟨_, _, rfl, rfl, Nat.le_of_ble_eq_true rfl, fun t nT => ?_⟩
          have tL : t ≠ L := fun z => by
            rw [z, eL5] at nT
            cases nT
          refine ⟨L, _, _, rfl, rfl, by rw [upd_ne (Ne.symm tL)]; exact eL5, len4, ?_⟩
          have en : (0 + (i : Int)) + 1 + (k : Int) = ((i + 1 + k : Nat) : Int) := by omega
          show StInv H p L wd m (i + 1) [some (.ref p), some (.int (wd : Int)), some (.int (m : Int)), some (.int ((tc : Nat) : Int)), some (.ref L), some (.int (0 + (i : Int))), some (.int d), some (.int (a : Int)), some (.int (b : Int)), some (.int (c : Int))] (upd (upd G5 t (.tup [.str (Str.ofString "go"), .int ((0 + (i : Int)) + 1 + (k : Int))])) L (.lst (ts.map V.ref ++ [.ref t])))
          rw [en]
          exact StInv.put nL nLp eL hl ha hf pr nt sG (d := .go (i + 1 + k)) ⟨by omega, by omega⟩ (by show 0 + tc ≤ tc; omega) (sx.trans s5) u5 nT
        · rw [decide_eq_false (show ¬ V.int d = V.int 3 from fun z => c3 (by injection z))]
          refine iteF ⟨_, rfl, rfl, _, rfl, ?_⟩
          by_cases c4 : d = 4
          · rw [decide_eq_true (show V.int d = V.int 4 by rw [c4])]
            refine iteT ⟨_, rfl, .inl ⟨rfl, _, SqL.of eL4⟩, _, rfl, _, rfl, Nat.le_of_ble_eq_true rfl, fun t nT => ?_⟩
            have tL : t ≠ L := fun z => by
              rw [z, eL4] at nT
              cases nT
            refine ⟨L, _, _, rfl, rfl, by rw [upd_ne (Ne.symm tL)]; exact eL4, len4, ?_⟩
            exact StInv.put nL nLp eL hl ha hf pr nt sG (d := .cp a b) ⟨by omega, by omega⟩ (by show 0 + tc ≤ tc; omega) sx u4 nT
          · rw [decide_eq_false (show ¬ V.int d = V.int 4 from fun z => c4 (by injection z))]
            refine iteF ⟨_, rfl, .inl ⟨rfl, _, SqL.of eL4⟩, Nat.le_of_ble_eq_true rfl, fun Lq nLq => ?_⟩
            have sq := same_new (o := .lst [.str (Str.ofString "*"), .str (Str.ofString "//"), .str (Str.ofString ">>")]) nLq
            have uq := u4.same sq
            have nqp : Lq ≠ p := fun z => by
              obtain ⟨st, dg, c, e, r⟩ := u4.ex
              rw [z, e] at nLq
              cases nLq
            refine ⟨_, rfl, p, 3, rfl, uq, by decide, by decide, fun e G5 e0 e1 s5 u5 => ?_⟩
            obtain ⟨k, rfl⟩ := Int.eq_ofNat_of_zero_le e0
            have s45 := (SameB.of sq).trans s5
            have eL5 := s45 _ _ nLp eL4
            have eq5 := s5 _ _ nqp (upd_same (H := G4) (a := Lq) (o := .lst [.str (Str.ofString "*"), .str (Str.ofString "//"), .str (Str.ofString ">>")]))
            have hkk : atI [V.str (Str.ofString "*"), .str (Str.ofString "//"), .str (Str.ofString ">>")] ((k : Nat) : Int) = some (.str (opS k)) := by
              rcases (show k = 0 ∨ k = 1 ∨ k = 2 by omega) with rfl | rfl | rfl <;> rfl
            refine ⟨Lq, _, _, _, rfl, rfl, SqL.of eq5, hkk, _, rfl, _, rfl, _, rfl, Nat.le_of_ble_eq_true rfl, fun t nT => ?_⟩
            have tL : t ≠ L := fun z => by
              rw [z, eL5] at nT
              cases nT
            refine ⟨L, _, _, rfl, rfl, by rw [upd_ne (Ne.symm tL)]; exact eL5, len4, ?_⟩
            exact StInv.put nL nLp eL hl ha hf pr nt sG (d := .op k a b c) ⟨by omega, by omega, by omega, by omega⟩ (by show 0 + tc ≤ tc; omega) (sx.trans s45) u5 nT
    · rintro σ' G ⟨ds, ts, tc, x5, x6, x7, x8, x9, rfl, eL, hl, ha, hf, pr, nt, sG, uG⟩
      rw [Int.toNat_natCast] at hl
      exact ⟨_, rfl, q ds ts L G hl ⟨ha, by omega⟩ pr nt sG uG nL nLp eL⟩
end
end L2.K33
set_option Elab.async false
set_option linter.all false
set_option maxRecDepth 100000
set_option maxHeartbeats 8000000
namespace L2.K33
open PySem PySem.Spec PyProof.Rows L2.Tb
open SX (S)
theorem name_len2 {ls : List (List Nat)} (nl : NamesL ls) {a : Nat} (h : a < ls.length) : (ls.getD a []).length ≤ 8 := by
  have := name_len nl h
  rwa [SX.S_len] at this
theorem cds_len (z : Str) : (cds z).length = z.length := by
  conv => rhs; rw [← cds_S z]
  rw [SX.S_len]
theorem row_len {ls : List (List Nat)} (nl : NamesL ls) {d : Stp} (h : StIn ls.length d) : (rowL ls d).length ≤ 60 := by
  cases d with
  | go g =>
    have := num_len g (by have : g ≤ 12 := h; omega)
    show (cds (Str.ofString "go") ++ ([32] ++ cds (numS g))).length ≤ 60
    rw [List.length_append, List.length_append, cds_len, cds_len, show (Str.ofString "go").length = 2 by decide +kernel, List.length_singleton]
    omega
  | tst u a b g =>
    obtain ⟨ha, hb, hg⟩ := (show a < ls.length ∧ b < ls.length ∧ g ≤ 12 from h)
    have := num_len g (by omega)
    have la := name_len2 nl ha
    have lb := name_len2 nl hb
    have lu : (tstS u).length ≤ 6 := by cases u <;> decide +kernel
    show (cds (tstS u) ++ ([32] ++ (ls.getD a [] ++ ([32] ++ (ls.getD b [] ++ ([32] ++ cds (numS g))))))).length ≤ 60
    simp only [List.length_append, List.length_singleton, cds_len]
    omega
  | cp a b =>
    obtain ⟨ha, hb⟩ := (show a < ls.length ∧ b < ls.length from h)
    have la := name_len2 nl ha
    have lb := name_len2 nl hb
    show (ls.getD a [] ++ ([32] ++ ([61] ++ ([32] ++ ls.getD b [])))).length ≤ 60
    simp only [List.length_append, List.length_singleton]
    omega
  | op k a b c =>
    obtain ⟨hk, ha, hb, hc⟩ := (show k < 3 ∧ a < ls.length ∧ b < ls.length ∧ c < ls.length from h)
    have la := name_len2 nl ha
    have lb := name_len2 nl hb
    have lc := name_len2 nl hc
    have lu : (opS k).length ≤ 2 := by rcases (show k = 0 ∨ k = 1 ∨ k = 2 by omega) with rfl | rfl | rfl <;> decide +kernel
    show (ls.getD a [] ++ ([32] ++ ([61] ++ ([32] ++ (ls.getD b [] ++ ([32] ++ (cds (opS k) ++ ([32] ++ ls.getD c [])))))))).length ≤ 60
    simp only [List.length_append, List.length_singleton, cds_len]
    omega
theorem sum_le {B : Nat} : ∀ {l : List Nat}, (∀ x ∈ l, x ≤ B) → l.sum ≤ l.length * B
  | [], _ => by simp
  | a :: l, h => by
    have ih := sum_le (l := l) fun x hx => h x (List.mem_cons_of_mem _ hx)
    have ha := h a List.mem_cons_self
    rw [List.sum_cons, List.length_cons, Nat.succ_mul]
    omega
theorem paired_nth {α β : Type} {R : α → β → Prop} : ∀ {xs : List α} {ys : List β} {i : Nat} {x : α}, Paired R xs ys → xs[i]? = some x → ∃ y, ys[i]? = some y ∧ R x y
  | _, _, _, _, .nil, h => by cases h
  | _, _, 0, _, .cons h _, e => ⟨_, rfl, by cases e; exact h⟩
  | _, _, i + 1, _, .cons _ t, e => paired_nth (i := i) t e
theorem join_len {B : Nat} : ∀ ls : List (List Nat), (∀ l ∈ ls, l.length ≤ B) → (TL.joinL [32] ls).length ≤ ls.length * (B + 1)
  | [], _ => by simp [TL.joinL]
  | [p], h => by
    have := h p List.mem_cons_self
    simp [TL.joinL]
    omega
  | p :: q :: r, h => by
    have ih := join_len (q :: r) fun l hl => h l (List.mem_cons_of_mem _ hl)
    have hp := h p List.mem_cons_self
    show (p ++ ([32] ++ TL.joinL [32] (q :: r))).length ≤ _
    rw [List.length_append, List.length_append, List.length_singleton, List.length_cons, Nat.succ_mul]
    omega
theorem pair_len : ∀ d ∈ pairD, d.1.length ≤ 10 ∧ (kindS d.1 d.2).length ≤ 20 := by decide +kernel
end L2.K33
set_option Elab.async false
set_option linter.all false
set_option maxRecDepth 100000
set_option maxHeartbeats 8000000
namespace L2.K33
open PySem PySem.Spec PyProof.Rows L2.Tb
open SX (S)
abbrev s_one_of : Stmt := top 20
abbrev N_one_of : List Str := ["value", "names"]
theorem sc_one_of : FnScope N_one_of ["value", "names"] (defScope s_one_of) := ⟨rfl, rfl, rfl, by decide +kernel, rfl, by decide +kernel, by decide +kernel⟩
abbrev s_goal : Stmt := top 41
abbrev N_goal : List Str := ["word", "least", "most", "goal"]
theorem sc_goal : FnScope N_goal ["word", "least", "most"] (defScope s_goal) := ⟨rfl, rfl, rfl, by decide +kernel, rfl, by decide +kernel, by decide +kernel⟩
abbrev s_step : Stmt := top 40
abbrev N_step : List Str := ["word", "named", "boxes", "goal", "name"]
theorem sc_step : FnScope N_step ["word", "named", "boxes", "goal"] (defScope s_step) := ⟨rfl, rfl, rfl, by decide +kernel, rfl, by decide +kernel, by decide +kernel⟩
/-! ### rows of scripts as lists of code points -/
def decL (n : Nat) : List Nat := cds (numS n)
def AsciiL (l : List Nat) : Prop := ∀ c ∈ l, c < 128
def goalL (l : List Nat) (lo hi : Nat) : Option Nat := (List.range (hi + 1)).find? fun n => decide (lo ≤ n) && decide (l = decL n)
def goalV : Option Nat → V
  | none => .non
  | some n => .int (n : Nat)
structure RSt where
  word : List Nat
  named : List (List Nat)
  goal : Option Nat
def goW : List Nat := cds (Str.ofString "go")
def sameW : List Nat := cds (Str.ofString "same")
def unlikeW : List Nat := cds (Str.ofString "unlike")
def eqW : List Nat := cds (Str.ofString "=")
def testW (l : List Nat) : Bool := decide (l ∈ [sameW, unlikeW])
def signsW : List (List Nat) := [cds (Str.ofString "*"), cds (Str.ofString "//"), cds (Str.ofString ">>")]
def signW (l : List Nat) : Bool := decide (l ∈ signsW)
def stepR (ls : List (List Nat)) (word : List Nat) (named : List (List Nat)) (goal : Option Nat) : Option RSt :=
  if (goal.isNone && (decide (word = goW) || testW word)) = true then none else if (named.all fun n => decide (n ∈ ls)) = true then some ⟨word, named, goal⟩ else none
def RStAt (H : Hp) (t : Addr) (st : RSt) : Prop := ∃ nt, H t = some (.tup [nmV st.word, .ref nt, goalV st.goal]) ∧ H nt = some (.tup (st.named.map nmV))
theorem RStAt.same {H H' : Hp} {t : Addr} {st : RSt} (h : RStAt H t st) (s : Same H H') : RStAt H' t st := let ⟨nt, a, b⟩ := h; ⟨nt, s _ _ a, s _ _ b⟩
/-- what a step or None is good for -/
def StepQ (H : Hp) (Q : VK) : Option RSt → Prop
  | none => ∀ H', Same H H' → Q .non H'
  | some st => ∀ t H', Same H H' → H t = none → RStAt H' t st → Q (.ref t) H'
theorem StepQ.same {H H1 : Hp} {Q : VK} {r : Option RSt} (h : StepQ H Q r) (s : Same H H1) : StepQ H1 Q r := by
  cases r with
  | none => exact fun H' s2 => h H' (s.trans s2)
  | some st => exact fun t H' s2 n e => h t H' (s.trans s2) (none_back s n) e
theorem nm_S (z : Str) : V.str z = nmV (cds z) := congrArg V.str (str_S z)
theorem nm_eq (a b : List Nat) : decide (nmV a = nmV b) = decide (a = b) := decide_eq_decide.mpr ⟨nmV_inj, fun e => by rw [e]⟩
/-! ### numbers -/
theorem dec_ascii : ∀ c : Nat, c < 128 → Unicode.isDecimal c = digB c := by decide +kernel
theorem isdec {l : List Nat} (h : AsciiL l) : Txt.isdecimal (S l) = (decide (l ≠ []) && l.all digB) := by
  have e : l.all Unicode.isDecimal = l.all digB := by
    induction l with
    | nil => rfl
    | cons a r ih =>
      rw [List.all_cons, List.all_cons, dec_ascii a (h a List.mem_cons_self), ih fun c hc => h c (List.mem_cons_of_mem _ hc)]
  show (decide ((S l).length > 0) && (S l).cps.all Unicode.isDecimal) = _
  rw [SX.S_len, show (S l).cps.all Unicode.isDecimal = l.all Unicode.isDecimal from by simp, e]
  congr 1
  cases l <;> simp
theorem int1 : ∀ a : Nat, a < 10 → PySem.intText? (S [48 + a]) = some (a : Int) := by decide +kernel
theorem int2 : ∀ a : Nat, a < 10 → ∀ b : Nat, b < 10 → PySem.intText? (S [48 + a, 48 + b]) = some ((10 * a + b : Nat) : Int) := by decide +kernel
theorem int_num : ∀ n : Nat, n < 100 → PySem.intText? (numS n) = some (n : Int) := by decide +kernel
theorem num_lenB : ∀ n : Nat, n < 100 → (numS n).length = if n < 10 then 1 else 2 := by decide +kernel
theorem dec_num : ∀ n : Nat, n < 100 → (decL n).all digB = true ∧ decL n ≠ [] := by decide +kernel
theorem dec_len {n : Nat} : (decL n).length = (numS n).length := cds_len _
theorem dec_inj {n m : Nat} (hn : n < 100) (hm : m < 100) (e : decL n = decL m) : n = m := by
  have e2 : numS n = numS m := by
    rw [← cds_S (numS n), ← cds_S (numS m)]
    exact congrArg S e
  have a := int_num n hn
  rw [e2, int_num m hm] at a
  injection a with a
  omega
theorem goal_some {l : List Nat} {lo hi n : Nat} (h99 : hi ≤ 99) (h1 : lo ≤ n) (h2 : n ≤ hi) (e : l = decL n) : goalL l lo hi = some n := by
  unfold goalL
  cases q : (List.range (hi + 1)).find? fun n => decide (lo ≤ n) && decide (l = decL n) with
  | none =>
    have := List.find?_eq_none.mp q n (List.mem_range.mpr (by omega))
    simp [h1, e] at this
  | some m =>
    have hm := List.mem_of_find?_eq_some q
    have hp := List.find?_some q
    simp only [Bool.and_eq_true, decide_eq_true_eq] at hp
    rw [dec_inj (n := n) (m := m) (by omega) (by have := List.mem_range.mp hm; omega) (by rw [← e]; exact hp.2)]
theorem goal_none {l : List Nat} {lo hi : Nat} (h : ∀ n, lo ≤ n → n ≤ hi → l ≠ decL n) : goalL l lo hi = none := by
  refine List.find?_eq_none.mpr fun n hn z => ?_
  simp only [Bool.and_eq_true, decide_eq_true_eq] at z
  exact h n z.1 (by have := List.mem_range.mp hn; omega) z.2
theorem log_num2 {g : Nat} (h : g ≤ 1000) : ((g : Nat) : Int).natAbs.log2 < 1920 := by
  have := Nat.log2_le_self g
  rw [Int.natAbs_natCast]
  omega
theorem dig_val {c : Nat} (h : digB c = true) : ∃ a, a < 10 ∧ c = 48 + a := by
  simp only [digB, Bool.and_eq_true, Nat.ble_eq] at h
  exact ⟨c - 48, by omega, by omega⟩
/-! ### promises -/
def spOneOf (K : PySem.W.Frag) : Sp := fun vs H Q _ => ∃ (v : V) (B : Addr) (ls : List (List Nat)), vs = [v, .ref B] ∧ H B = some (.tup (ls.map nmV)) ∧ ((∃ l : List Nat, v = nmV l ∧ Q (.bl (decide (l ∈ ls))) H) ∨ (NoS K H v ∧ Q (.bl false) H))
def spGoal : Sp := fun vs H Q _ => ∃ (l : List Nat) (lo hi : Nat), vs = [nmV l, .int (lo : Nat), .int (hi : Nat)] ∧ AsciiL l ∧ l.length ≤ 10000 ∧ hi ≤ 99 ∧ Q (goalV (goalL l lo hi)) H
def spStep : Sp := fun vs H Q _ => ∃ (word : List Nat) (nt B : Addr) (named ls : List (List Nat)) (g : Option Nat), vs = [nmV word, .ref nt, .ref B, goalV g] ∧ H nt = some (.tup (named.map nmV)) ∧ H B = some (.tup (ls.map nmV)) ∧ named.length ≤ 10 ∧ StepQ H Q (stepR ls word named g)
/-- the constants of the rows -/
structure RoF (K : PySem.W.Frag) (mg : Str → Option Value) : Prop where
  mgo : ∃ t, mg "_GO" = some (.str "go" t)
  mco : ∃ t, mg "_COPY" = some (.str "=" t)
  mte : ∃ a, mg "_TESTS" = some (.ref a) ∧ ∀ H, SqT K H a ([sameW, unlikeW].map nmV)
  msi : ∃ a, mg "SIGNS" = some (.ref a) ∧ ∀ H, SqT K H a (signsW.map nmV)
  mro : ∃ t, mg "MOST_ROWS" = some (.int 12 t)
  mts : ∃ t, mg "MOST_TESTS" = some (.int 4 t)
section
variable {P : Program} {w : World} {K : PySem.W.Frag} {mg : Str → Option Value} {base : Heap} {f : Addr} {fd : FuncData}
theorem c_one_of (T : Bt mg) (mstr : mg "str" = none) (F : FnP K "is_one_of" s_one_of f fd) (hm : mg "is_one_of" = some (.ref f)) : Cal P w K mg base 1 "is_one_of" (spOneOf K) := by
  have hnd := sc_one_of.nd
  refine cal_mk F hm sc_one_of (fun _ _ _ _ _ _ us hl => match us, hl with | [_, _], _ => rfl) (fun vs H Q E h => ?_) (fun cdv A outer s H vs Q E hr h => ?_)
  · obtain ⟨v, B, ls, rfl, _⟩ := h
    rfl
  · obtain ⟨v, B, ls, rfl, eB, h⟩ := h
    refine ⟨_, (pss_one (ps_ret (pe_and (pe_callB call_isi (by rfl) T.m_isinstance (by decide +kernel) (pa_cons (pv 0) (pa_cons (pe_bltn (v := .ty "str") (by rfl) mstr (by decide +kernel) rfl) pa_nil))) (pe_one (pe_cmpR (show OpR _ (compareOp .In) (rIn K false) from op_in_seq) (pv 0) (pv 1) (by rfl)))))), ?_⟩
    rcases h with ⟨l, rfl, q⟩ | ⟨hb, q⟩
    · refine ⟨_, rfl, _, _, _, _, _, rfl, .ty _, .base (.str _), (by rfl : PySem.W.kitOne K (.type "str") (.type "str") = some true), _, rfl, iteT ⟨_, rfl, _, rfl, B, _, rfl, .inr (SqT.of eB), rfl, names_flat _, ?_⟩⟩
      rw [if_neg Bool.false_ne_true, inV_names]
      exact q
    · obtain ⟨T0, ty, k⟩ := hb.ex
      exact ⟨_, rfl, _, _, _, _, _, rfl, .ty _, ty, k, _, rfl, iteF q⟩
theorem c_goal (T : Bt mg) (mstr : mg "str" = none) (F : FnP K "_goal" s_goal f fd) (hm : mg "_goal" = some (.ref f)) : Cal P w K mg base 1 "_goal" spGoal := by
  have hnd := sc_goal.nd
  refine cal_mk F hm sc_goal (fun _ _ _ _ _ _ us hl => match us, hl with | [_, _, _], _ => rfl) (fun vs H Q E h => ?_) (fun cdv A outer s H vs Q E hr h => ?_)
  · obtain ⟨l, lo, hi, rfl, _⟩ := h
    rfl
  · obtain ⟨l, lo, hi, rfl, ha, l4, h99, q⟩ := h
    refine ⟨_, (pss_cons (ps_if (PW.pt (pw_or (pt_not (pt_val (pe_m0 PySem.F.slot_str_isdecimal PySem.F.type_str_isdecimal mt_isdecimal (pv 0)))) (pw_or1 (pt_cmpR op_gt (pe_callB call_len_str (by rfl) T.m_len (by decide +kernel) (pa_cons (pv 0) pa_nil)) (pe_callB call_len_str (by rfl) T.m_len (by decide +kernel) (pa_cons (pe_callTy call_str_int (by rfl) mstr (by decide +kernel) (pa_cons (pv 2) pa_nil)) pa_nil)) (nomark _)))))
      (pss_one (ps_ret pe_non))
      pss_nil)
      (pss_cons (ps_set (i := 3) hnd rfl (by first | exact Or.inl rfl | exact Or.inr rfl) (pe_callTy call_int_str (by rfl) T.m_int (by decide +kernel) (pa_cons (pv 0) pa_nil)))
      (pss_cons (ps_if (PW.pt (pw_or (pt_cmpR op_ne (pe_callTy call_str_int (by rfl) mstr (by decide +kernel) (pa_cons (pv 3) pa_nil)) (pv 0) (nomark _)) (pw_or1 (pt_not (pt_chain op_le op_le (pv 1) (pv 3) (pv 2))))))
      (pss_one (ps_ret pe_non))
      pss_nil)
      (pss_one (ps_ret (pv 3)))))), ?_⟩
    refine ⟨_, rfl, ⟨_, rfl⟩, _, rfl, rfl, trivial, _, rfl, ?_⟩
    rw [show Txt.isdecimal (S l) = _ from isdec ha]
    by_cases hd : (decide (l ≠ []) && l.all digB) = true
    · rw [hd]
      simp only [Bool.and_eq_true, decide_eq_true_eq] at hd
      obtain ⟨d1, d2⟩ := hd
      have sl := slenB (l := l) (by omega)
      have nl := num_lenB hi (by omega)
      refine iteF ⟨_, rfl, _, rfl, sl, _, rfl, _, rfl, log_num2 (by omega), _, rfl, ?_, _, _, rfl, rfl, _, rfl, ?_⟩
      · show (numS hi).length ≤ sizeLine
        rw [nl, sizeLine_eq]
        split <;> omega
      · by_cases c : (numS hi).length < l.length
        · refine iteT2 (decide_eq_true (show (((numS hi).length : Nat) : Int) < ((S l).length : Nat) by rw [SX.S_len l]; omega)) ?_
          rw [goal_none fun n h1 h2 e => ?_] at q
          · exact q
          · have := num_lenB n (by omega)
            have e2 := congrArg List.length e
            rw [dec_len] at e2
            rw [this] at e2
            rw [nl] at c
            split at e2 <;> split at c <;> omega
        · refine iteN2 (decide_eq_false (show ¬ (((numS hi).length : Nat) : Int) < ((S l).length : Nat) by rw [SX.S_len l]; omega)) ?_
          have l2 : l.length ≤ 2 := by
            rw [nl] at c
            split at c <;> omega
          obtain ⟨n, n100, hn⟩ : ∃ n : Nat, n < 100 ∧ PySem.intText? (S l) = some (n : Int) := by
            match l, d1, d2, l2 with
            | [a], _, d2, _ =>
              simp only [List.all_cons, List.all_nil, Bool.and_true] at d2
              obtain ⟨k, hk, rfl⟩ := dig_val d2
              exact ⟨k, by omega, int1 k hk⟩
            | [a, b], _, d2, _ =>
              simp only [List.all_cons, List.all_nil, Bool.and_true, Bool.and_eq_true] at d2
              obtain ⟨k, hk, rfl⟩ := dig_val d2.1
              obtain ⟨j, hj, rfl⟩ := dig_val d2.2
              exact ⟨10 * k + j, by omega, int2 k hk j hj⟩
            | [], d1, _, _ => exact absurd rfl d1
          refine ⟨_, rfl, _, _, rfl, hn, by rw [SX.S_len]; omega, gname_go ?_⟩
          try dsimp only
          refine ⟨_, rfl, _, rfl, log_num2 (by omega), _, rfl, rfl, _, rfl, ?_⟩
          rw [show (toString (n : Int) : Str) = numS n from rfl]
          have key : l = decL n ∨ ∀ m, m < 100 → l ≠ decL m := by
            by_cases c : l = decL n
            · exact .inl c
            · refine .inr fun m hm e => c ?_
              rw [e] at hn
              rw [show S (decL m) = numS m from cds_S _, int_num m hm] at hn
              injection hn with hn
              rw [e, show m = n by omega]
          rcases key with rfl | key
          · rw [show (nmV (decL n)) = V.str (numS n) from congrArg V.str (cds_S _)]
            refine iteN2 (by simp) ⟨_, rfl, _, rfl, _, _, rfl, rfl, _, rfl, ?_⟩
            by_cases h1 : lo ≤ n
            · rw [decide_eq_true (show ((lo : Nat) : Int) ≤ (n : Nat) by omega)]
              refine iteT ⟨_, rfl, _, _, rfl, rfl, _, rfl, ?_⟩
              show if (!decide (((n : Nat) : Int) ≤ (hi : Nat))) = true then _ else _
              by_cases h2 : n ≤ hi
              · rw [decide_eq_true (show ((n : Nat) : Int) ≤ (hi : Nat) by omega)]
                refine iteF ?_
                rw [goal_some h99 h1 h2 rfl] at q
                exact ⟨_, rfl, q⟩
              · rw [decide_eq_false (show ¬ ((n : Nat) : Int) ≤ (hi : Nat) by omega)]
                refine iteT ?_
                rw [goal_none fun m a b e => ?_] at q
                · exact q
                · have := dec_inj n100 (by omega) e
                  omega
            · rw [decide_eq_false (show ¬ ((lo : Nat) : Int) ≤ (n : Nat) by omega)]
              refine iteF ⟨_, rfl, iteT ?_⟩
              rw [goal_none fun m a b e => ?_] at q
              · exact q
              · have := dec_inj n100 (by omega) e
                omega
          · have ne : decide (V.str (numS n) = nmV l) = false := decide_eq_false fun z => by
              unfold nmV at z
              injection z with z
              refine key n n100 ?_
              have : cds (numS n) = cds (S l) := congrArg cds z
              exact this.symm
            refine iteT2 (by rw [ne]; rfl) ?_
            rw [goal_none fun m a b e => key m (by omega) e] at q
            exact q
    · have hd2 : (decide (l ≠ []) && l.all digB) = false := by
        cases e : (decide (l ≠ []) && l.all digB) with
        | true => exact absurd e hd
        | false => rfl
      rw [hd2]
      refine iteT ?_
      rw [goal_none fun n h1 h2 e => ?_] at q
      · exact q
      · obtain ⟨a, b⟩ := dec_num n (by omega)
        rw [e] at hd
        exact hd (by rw [a, decide_eq_true b]; rfl)
theorem c_step (T : Bt mg) (RF : RoF K mg) (k_is_one_of : Cal P w K mg base 1 "is_one_of" (spOneOf K)) (F : FnP K "_step" s_step f fd) (hm : mg "_step" = some (.ref f)) : Cal P w K mg base 2 "_step" spStep := by
  have hnd := sc_step.nd
  obtain ⟨tg, hgo⟩ := RF.mgo
  obtain ⟨aT, hte, eTe⟩ := RF.mte
  refine cal_mk F hm sc_step (fun _ _ _ _ _ _ us hl => match us, hl with | [_, _, _, _], _ => rfl) (fun vs H Q E h => ?_) (fun cdv A outer s H vs Q E hr h => ?_)
  · obtain ⟨word, nt, B, named, ls, g, rfl, _⟩ := h
    rfl
  · obtain ⟨word, nt, B, named, ls, g, rfl, eN, eB, n10, q⟩ := h
    refine ⟨_, (pss_cons (ps_if (PW.pt (pw_and (pt_cmpR op_isN (pv 3) pe_non (nomark _)) (pw_and1 (PW.pt (pw_or (pt_cmpR op_eq (pv 0) (pe_glob (v := .str "go") (by rfl) hgo ⟨_, rfl⟩) (nomark _)) (pw_or1 (pt_cmpR (show OpR _ (compareOp .In) (rIn K false) from op_in_seq) (pv 0) (pe_glob (v := .ref aT) (by rfl) hte rfl) (by rfl))))))))
      (pss_one (ps_ret pe_non))
      pss_nil)
      (pss_cons (ps_if (pt_not (pt_val (pe_callB (cr_all (by rfl)) (by rfl) T.m_all (by decide +kernel) (pa_cons (pe_lc (own := [("name", 4)]) (tt := tYes) (by rfl) hnd (pi_tup (pv 1)) (blkOk_by (own := [("name", 4)]) (N := N_step) (sc := defScope s_step) (by decide +kernel)) (fun _ _ _ _ _ => (pg_name (i := 4) hnd rfl (by first | exact Or.inl rfl | exact Or.inr rfl))) (fun _ _ _ _ _ => pts_nil) (fun _ _ _ _ _ => (pe_cal k_is_one_of hr (by omega) (by rfl) (pa_cons (pv 4) (pa_cons (pv 2) pa_nil))))) pa_nil))))
      (pss_one (ps_ret pe_non))
      pss_nil)
      (pss_one (ps_ret (pe_tup (pa_cons (pv 0) (pa_cons (pv 1) (pa_cons (pv 3) pa_nil)))))))), ?_⟩
    have hcase : (g = none ∧ (decide (word = goW) || testW word) = true) ∨ (∃ n, g = some n) ∨ (g = none ∧ decide (word = goW) = false ∧ testW word = false) := by
      cases g with
      | some n => exact .inr (.inl ⟨n, rfl⟩)
      | none =>
        cases c : (decide (word = goW) || testW word) with
        | true => exact .inl ⟨rfl, rfl⟩
        | false =>
          obtain ⟨a, b⟩ := (Bool.or_eq_false_iff).mp c
          exact .inr (.inr ⟨rfl, a, b⟩)
    have hgo9 : ∀ x : List Nat, decide (nmV x = V.str (Str.ofString "go")) = decide (x = goW) := fun x => by rw [nm_S, nm_eq]; rfl
    rcases hcase with ⟨rfl, hw⟩ | ⟨n, rfl⟩ | ⟨rfl, hw, ht⟩
    · refine ⟨_, rfl, rfl, _, rfl, iteT2 (by decide +kernel) ⟨_, rfl, rfl, _, rfl, ?_⟩⟩
      rw [hgo9]
      have q : ∀ H', Same H H' → Q .non H' := by
        unfold stepR at q
        rw [hw] at q
        exact q
      cases c : decide (word = goW) with
      | true => first | exact iteT (q H (Same.refl _)) | exact iteT (iteT (q H (Same.refl _)))
      | false =>
        rw [c, Bool.false_or] at hw
        refine iteF ⟨_, rfl, _, _, rfl, .inr (eTe H), rfl, names_flat _, _, rfl, ?_⟩
        rw [if_neg Bool.false_ne_true, inV_names, show decide (word ∈ [sameW, unlikeW]) = true from hw]
        first | exact iteT (q H (Same.refl _)) | exact iteT (iteT (q H (Same.refl _)))
    case' inr.inl =>
      refine ⟨_, rfl, rfl, _, rfl, iteN2 (decide_eq_false (by intro z; cases z)) ?_⟩
      replace q : StepQ H Q (if (named.all fun n => decide (n ∈ ls)) = true then some (RSt.mk word named (some n)) else none) := q
    case' inr.inr =>
      refine ⟨_, rfl, rfl, _, rfl, iteT2 (by decide +kernel) ⟨_, rfl, rfl, _, rfl, ?_⟩⟩
      rw [hgo9, hw]
      refine iteF ⟨_, rfl, _, _, rfl, .inr (eTe H), rfl, names_flat _, _, rfl, ?_⟩
      rw [if_neg Bool.false_ne_true, inV_names, show decide (word ∈ [sameW, unlikeW]) = false from ht]
      replace q : StepQ H Q (if (named.all fun n => decide (n ∈ ls)) = true then some (RSt.mk word named none) else none) := by
        unfold stepR at q
        rw [hw, ht] at q
        exact q
      refine iteF ?_
    all_goals
      dsimp only [tNext]
      refine cb_one ⟨_, rfl, nt, rfl, ⟨_, SqT.of eN⟩, fun D nD => ?_⟩
      refine lc_tup (xs := named.map nmV) (fun i G => Same H G ∧ G D = some (.lst (((named.take i).map fun n => decide (n ∈ ls)).map V.bl))) ⟨same_new nD, upd_same⟩ (fun i G _ y => SqT.of (y.1 _ _ eN)) ?_ ?_
      · rintro i x G hx ⟨s1, e1⟩
        rw [List.getElem?_map] at hx
        obtain ⟨n9, hn9, rfl⟩ := Option.map_eq_some_iff.mp hx
        have li : i < named.length := (List.getElem?_eq_some_iff.mp hn9).1
        refine ⟨rfl, ?_⟩
        unfold tYes
        dsimp only
        rw [if_pos rfl]
        refine ⟨_, rfl, _, rfl, _, B, ls, rfl, s1 _ _ eB, .inl ⟨n9, rfl, ?_⟩⟩
        exact ⟨_, e1, by rw [List.length_map, List.length_map, List.length_take, sizeLine_eq]; omega, same_put nD s1, by rw [upd_same, take_at hn9, List.map_append, List.map_append]; rfl⟩
      · rintro G ⟨s1, e1⟩
        rw [List.length_map, List.take_length] at e1
        refine ⟨D, _, rfl, SqL.of e1, ?_⟩
        rw [List.all_map, show ((fun x => id x) ∘ fun n => decide (n ∈ ls)) = fun n => decide (n ∈ ls) from rfl]
        have sG := s1
        cases c : (named.all fun n => decide (n ∈ ls)) with
        | false =>
          rw [c] at q
          exact ⟨_, rfl, iteT (q G s1)⟩
        | true =>
          rw [c] at q
          refine ⟨_, rfl, iteF ?_⟩
          dsimp only [tNext]
          refine ⟨_, rfl, _, rfl, _, rfl, by show 3 ≤ sizeLine; decide, fun t nT => ?_⟩
          exact q t _ (s1.trans (same_new nT)) (none_back s1 nT) ⟨nt, upd_same, same_new nT _ _ (s1 _ _ eN)⟩
end
end L2.K33
set_option Elab.async false
set_option linter.all false
set_option maxRecDepth 100000
set_option maxHeartbeats 8000000
namespace L2.K33
open PySem PySem.Spec PyProof.Rows L2.Tb
open SX (S)
abbrev kps : List Str := ["self", "turns", "calm"]
/-! ### Kind at the head -/
def kindB (K : PySem.W.Frag) (C : Addr) : Bool := (He.Fa.cls "Kind").ok K && ((He.Fa.noat "Kind" "_turns").ok K && ((He.Fa.noat "Kind" "_calm").ok K && ((He.Fa.mkr "Kind").ok K && (insB K C && ((He.Fa.meth "Kind" "__str__").ok K && ((He.Fa.meth "Kind" "__eq__").ok K &&
  (He.eqO (PySem.W.findIn K (.ref C) "__ne__") (some (some (.builtin "object.__ne__"))) && (propB K C "turns" && (propB K C "calm" && (propB K C "lot" && (creadB K C && (cmetB K C "read" && (decide (PySem.W.kitOne K (.ref C) (.ref C) = some true) &&
  (decide (PySem.W.kitOne K (.type "str") (.ref C) = some false) && decide (PySem.W.kitOne K (.type "list") (.ref C) = some false)))))))))))))))
def turnsB (K : PySem.W.Frag) : List Addr → List Turn → Bool
  | [], [] => true
  | t :: ts, u :: us => tupB K t (turnV u) && turnsB K ts us
  | _, _ => false
def lotB (K : PySem.W.Frag) (l : Addr) (lot : List Turn) : Bool := tupB K l ((refsIn K l).map V.ref) && turnsB K (refsIn K l) lot
def lotsB (K : PySem.W.Frag) (d : Addr) : Bool := keysB K d wordsD && wordsD.all fun z => refB K d z && lotB K (refOf K d z) (lotOf z)
theorem turnsB_ok {K : PySem.W.Frag} : ∀ {ts : List Addr} {us : List Turn}, turnsB K ts us = true → Paired (fun t u => ∀ H, SqT K H t (turnV u)) ts us
  | [], [], _ => .nil
  | t :: ts, u :: us, h => .cons (tupB_ok (He.ba h).1) (turnsB_ok (He.ba h).2)
  | [], _ :: _, h => by cases h
  | _ :: _, [], h => by cases h
theorem lotB_ok {K : PySem.W.Frag} {l : Addr} {lot : List Turn} (h : lotB K l lot = true) : LotK K l lot := ⟨refsIn K l, tupB_ok (He.ba h).1, turnsB_ok (He.ba h).2⟩
theorem lotsB_ok {K : PySem.W.Frag} {w : World} {d : Addr} {es : Array DictEntry} {n : Nat} (h : lotsB K d = true) (D : KDict K w d es n) : (∀ z, ∃ r, PySem.W.nsIn K d z = some r ∧ r.isSome = wordsD.contains z) ∧ ∀ z, wordsD.contains z = true → ∃ l, KDct K w d z (.ref l) ∧ LotK K l (lotOf z) := by
  obtain ⟨h1, h2⟩ := He.ba h
  refine ⟨keysB_ok h1, fun z hz => ?_⟩
  obtain ⟨h3, h4⟩ := He.ba (List.all_eq_true.mp h2 z (List.contains_iff_mem.mp hz))
  exact ⟨_, ⟨es, n, _, D.at_, D.lit, He.eqO_ok h3, rfl⟩, lotB_ok h4⟩
def errsB (K : PySem.W.Frag) (xs : List Str) : Bool := xs.all (fun x => ercB K bVE x "given" && (decide (PySem.W.typeIn K (.ref (He.ga K x)) = some (.type "type")) && (xfB K (He.ga K x) && (He.Fa.noat x "given").ok K))) &&
  xs.all fun x => xs.all fun y => decide (PySem.W.exmOne K (.ref (He.ga K x)) (.ref (He.ga K y)) = some (x == y))
theorem errsB_ok {K : PySem.W.Frag} {xs : List Str} (h : errsB K xs = true) : (∀ x ∈ xs, ercB K bVE x "given" = true ∧ PySem.W.typeIn K (.ref (He.ga K x)) = some (.type "type") ∧ XfC K (He.ga K x) ∧ PySem.W.findIn K (.ref (He.ga K x)) "given" = some none) ∧
    ∀ x ∈ xs, ∀ y ∈ xs, PySem.W.exmOne K (.ref (He.ga K x)) (.ref (He.ga K y)) = some (x == y) := by
  obtain ⟨h1, h2⟩ := He.ba h
  refine ⟨fun x hx => ?_, fun x hx y hy => of_decide_eq_true (List.all_eq_true.mp (List.all_eq_true.mp h2 x hx) y hy)⟩
  obtain ⟨a, q⟩ := He.ba (List.all_eq_true.mp h1 x hx)
  obtain ⟨b, q⟩ := He.ba q
  obtain ⟨c, d⟩ := He.ba q
  exact ⟨a, of_decide_eq_true b, xfB_ok c, He.noat_ok d⟩
section
variable {P : Program} {w : World} {K : PySem.W.Frag} {mg : Str → Option Value} {base : Heap} {fi : Addr} {fdi : FuncData}
abbrev FunK (K : PySem.W.Frag) (x q : Str) (st : Stmt) (kws : List (Str × V)) (f : Addr) (fd : FuncData) : Prop := FunD K x q (defArgs st) (defBody st) (defScope st) [] kws f fd
theorem kinit_binds (F : FunK K "__init__" "Kind.__init__" s_kinit [("calm", .bl false)] fi fdi) : KBn K fdi kps 2 ["calm"] (fun us ws => us ++ ws) (fun us ws => us ++ ws) ∧ KBn K fdi kps 1 ["turns", "calm"] (fun us ws => us ++ ws) (fun us ws => us ++ ws) ∧
    KBn K fdi kps 1 ["calm", "turns"] (fun us ws => us ++ ws.reverse) (fun us ws => us ++ ws.reverse) ∧ (∃ ds, Vals [V.bl false] ds ∧ Binds K fdi kps ds) ∧ (∃ dv, KBn K fdi kps 1 ["turns"] (fun us ws => us ++ (ws ++ dv)) (fun us ws => us ++ (ws ++ [.bl false]))) := by
  refine ⟨?_, ?_, ?_, ?_, ?_⟩
  · obtain ⟨mv, h⟩ := FunD.kbinds0 (ps := kps) F 2 ["calm"] [] (fun us _ ws => us ++ ws) (by simp) (by simp) (fun r1 _ r3 => r1.append r3) fun D doc pm an cdv ct us mv ws l1 l2 l3 => match us, mv, ws, l1, l2, l3 with
      | [_, _], [], [_], _, _, _ => rfl
    exact h
  · obtain ⟨mv, h⟩ := FunD.kbinds0 (ps := kps) F 1 ["turns", "calm"] [] (fun us _ ws => us ++ ws) (by simp) (by simp) (fun r1 _ r3 => r1.append r3) fun D doc pm an cdv ct us mv ws l1 l2 l3 => match us, mv, ws, l1, l2, l3 with
      | [_], [], [_, _], _, _, _ => rfl
    exact h
  · have rev : ∀ {vs : List V} {us : List Value}, Vals vs us → Vals vs.reverse us.reverse := fun {vs us} r => by
      induction r with
      | nil => exact .nil
      | cons a _ ih =>
        rw [List.reverse_cons, List.reverse_cons]
        exact ih.append (.cons a .nil)
    obtain ⟨mv, h⟩ := FunD.kbinds0 (ps := kps) F 1 ["calm", "turns"] [] (fun us _ ws => us ++ ws.reverse) (by simp) (by simp) (fun r1 _ r3 => r1.append (rev r3)) fun D doc pm an cdv ct us mv ws l1 l2 l3 => match us, mv, ws, l1, l2, l3 with
      | [_], [], [_, _], _, _, _ => rfl
    exact h
  · exact FunD.binds0 (ps := kps) F 2 (by simp) rfl fun D doc pm an cdv ct us ks l1 l2 => match us, ks, l1, l2 with
      | [_, _], [_], _, _ => ⟨_, _, _, _, _, _, rfl, rfl, rfl⟩
  · exact FunD.kbinds0 (ps := kps) F 1 ["turns"] [("calm", .bl false)] (fun us mz ws => us ++ (ws ++ mz)) (by simp) (by simp) (fun r1 r2 r3 => r1.append (r3.append r2)) fun D doc pm an cdv ct us mv ws l1 l2 l3 => match us, mv, ws, l1, l2, l3 with
      | [_], [_], [_], _, _, _ => ⟨_, _, _, _, _, _, rfl, rfl, rfl⟩
end
end L2.K33
set_option Elab.async false
set_option linter.all false
set_option maxRecDepth 100000
set_option maxHeartbeats 0
namespace L2.K33
open PySem PySem.Spec PyProof.Rows L2.Tb
/-! ### the head -/
def frees : List Str := [("len" : Str), ("int" : Str), ("abs" : Str), ("divmod" : Str), ("isinstance" : Str), ("tuple" : Str), ("list" : Str), ("bool" : Str), ("all" : Str), ("zip" : Str), ("range" : Str), ("max" : Str), ("min" : Str), ("enumerate" : Str), ("repr" : Str), ("sorted" : Str), ("ValueError" : Str), ("LookupError" : Str), ("ArithmeticError" : Str), ("str" : Str)]
def gloL : List Str := [("InvalidTurns" : Str), ("InvalidFlag" : Str), ("InvalidText" : Str), ("NotAKind" : Str), ("InvalidIndex" : Str), ("InvalidNames" : Str), ("InvalidRows" : Str), ("Kind" : Str), ("LOTS" : Str), ("Script" : Str), ("_TESTS" : Str), ("SIGNS" : Str), ("is_integer" : Str), ("is_number" : Str), ("is_name" : Str), ("is_one_of" : Str), ("check_names" : Str), ("check_boxes" : Str), ("check_kind" : Str), ("_holds" : Str), ("_least_lot" : Str), ("read_rows" : Str), ("all_ways" : Str), ("_read_row" : Str)] ++ [("_step" : Str), ("_goal" : Str), ("_following" : Str), ("check_row" : Str), ("_law_cell" : Str), ("_law_purse" : Str), ("_law_draw" : Str), ("_law_alike" : Str), ("_law_odd" : Str), ("_law_lots" : Str), ("_law_pairs" : Str), ("_law_name" : Str), ("_law_names" : Str), ("_law_steps" : Str), ("_law_row" : Str), ("_law_script" : Str), ("_law_ways" : Str), ("_law_told" : Str), ("_law_ways_right" : Str), ("_law_right" : Str), ("law" : Str)]
def errL : List Str := ["InvalidTurns", "InvalidFlag", "InvalidText", "NotAKind", "InvalidIndex"]
def scriptB (K : PySem.W.Frag) (C : Addr) : Bool := (He.Fa.cls "Script").ok K && ((He.Fa.noat "Script" "_steps").ok K && ((He.Fa.noat "Script" "_kind").ok K && ((He.Fa.noat "Script" "_boxes").ok K && ((He.Fa.noat "Script" "_rows").ok K && ((He.Fa.mkr "Script").ok K && (insB K C && ((He.Fa.meth "Script" "__str__").ok K && ((He.Fa.meth "Script" "__eq__").ok K && ((He.Fa.meth "Script" "__len__").ok K &&
  (He.eqO (PySem.W.findIn K (.ref C) "__ne__") (some (some (.builtin "object.__ne__"))) && (He.eqO (PySem.W.findIn K (.ref C) "__bool__") (some none) && (propB K C "kind" && (propB K C "boxes" && (propB K C "rows" && (creadB K C && (cmetB K C "read" && (decide (PySem.W.kitOne K (.ref C) (.ref C) = some true) &&
  (PySem.W.notFirst K C (.type "str") && (PySem.W.notFirst K C (.type "tuple") && (PySem.W.notFirst K C (.ref (He.ga K "Kind")) && (decide (PySem.W.kitOne K (.type "str") (.ref C) = some false) && (decide (PySem.W.kitOne K (.type "tuple") (.ref C) = some false) && decide (PySem.W.kitOne K (.ref (He.ga K "Kind")) (.ref C) = some false)))))))))))))))))))))))
def idxB (K : PySem.W.Frag) (x : Str) : Bool := ercB K bVE x "index" && decide (PySem.W.typeIn K (.ref (He.ga K x)) = some (.type "type"))
def rowcB (K : PySem.W.Frag) : Bool := (He.Fa.str "_GO" "go").ok K && ((He.Fa.str "_COPY" "=").ok K && (tupB K (He.ga K "_TESTS") ([sameW, unlikeW].map nmV) && (tupB K (He.ga K "SIGNS") (signsW.map nmV) && ((He.Fa.int "MOST_ROWS" 12).ok K && ((He.Fa.int "MOST_TESTS" 4).ok K &&
  ((He.Fa.str "_LETTERS" "abcdefghijklmnopqrstuvwxyz").ok K && ((He.Fa.str "_DIGITS" "0123456789").ok K && ((He.Fa.int "_LONGEST_NAME" 8).ok K && (He.Fa.int "_MOST_BOXES" 6).ok K))))))))

def factB (K : PySem.W.Frag) : Bool := gloL.all (fun x => (He.Fa.glo x).ok K) && (frees.all (fun x => (He.Fa.free x).ok K) && (errsB K errL && ((He.Fa.str "_CALM" "calm ").ok K && (kindB K (He.ga K "Kind") && (lotsB K (He.ga K "LOTS") && (decide (PySem.W.subIn K (.ref (He.ga K "InvalidIndex")) (.type "StopIteration") = some false) && ((He.Fa.meth "Script" "ways").ok K && (scriptB K (He.ga K "Script") && (rowcB K && (idxB K "InvalidNames" && (idxB K "InvalidRows")))))))))))
def dIn (at_ : PySem.W.Frag → Addr) (x q : Str) (st : Stmt) (kw : List (Str × He.Dv)) : He5.DefA := ⟨at_, x, q, defArgs st, defBody st, defScope st, [], kw⟩
def dTop (x : Str) (i : Nat) : He5.DefA := dIn (fun K => He.fAd K (x, none)) x x (top i) []
def fnA1 : List He5.DefA := [dTop "is_integer" 17, dTop "is_number" 18, dTop "is_name" 19, dTop "is_one_of" 20, dTop "check_names" 21, dTop "check_boxes" 22, dTop "check_kind" 30, dTop "_holds" 31, dTop "_least_lot" 32, dTop "read_rows" 37, dTop "all_ways" 38, dTop "_read_row" 39, dTop "_step" 40, dTop "_goal" 41, dTop "_following" 42, dTop "check_row" 45, dTop "_law_cell" 47, dTop "_law_purse" 48, dTop "_law_draw" 49, dTop "_law_alike" 50, dTop "_law_odd" 51, dTop "_law_lots" 52, dTop "_law_pairs" 53, dTop "_law_name" 54] ++ [dTop "_law_names" 55, dTop "_law_steps" 56, dTop "_law_row" 57, dTop "_law_script" 58, dTop "_law_ways" 59, dTop "_law_told" 60, dTop "_law_ways_right" 61, dTop "_law_right" 62, dTop "law" 63]
def fnA2 : List He5.DefA := [dIn (fun K => He.ma K (He.ga K "InvalidTurns") "__init__") "__init__" "InvalidTurns.__init__" (inClass (top 5) 0) [], dIn (fun K => He.ma K (He.ga K "InvalidFlag") "__init__") "__init__" "InvalidFlag.__init__" (inClass (top 4) 0) [], dIn (fun K => He.ma K (He.ga K "InvalidText") "__init__") "__init__" "InvalidText.__init__" (inClass (top 3) 0) [], dIn (fun K => He.ma K (He.ga K "NotAKind") "__init__") "__init__" "NotAKind.__init__" (inClass (top 7) 0) [], dIn (fun K => He.ma K (He.ga K "InvalidIndex") "__init__") "__init__" "InvalidIndex.__init__" (inClass (top 6) 0) [], dIn (fun K => He.ma K (He.ga K "InvalidNames") "__init__") "__init__" "InvalidNames.__init__" (inClass (top 8) 0) [], dIn (fun K => He.ma K (He.ga K "InvalidRows") "__init__") "__init__" "InvalidRows.__init__" (inClass (top 9) 0) [], dIn (fun K => He.ma K (He.ga K "Kind") "__init__") "__init__" "Kind.__init__" (inClass (top 29) 0) [("calm", .bl false)], dIn (fun K => He.ma K (He.ga K "Kind") "__str__") "__str__" "Kind.__str__" (inClass (top 29) 10) [], dIn (fun K => He.ma K (He.ga K "Kind") "__eq__") "__eq__" "Kind.__eq__" (inClass (top 29) 9) [], dIn (fun K => cAd K (He.ga K "Kind") "read") "read" "Kind.read" (inClass (top 29) 1) [], dIn (fun K => He.ma K (He.ga K "Script") "__init__") "__init__" "Script.__init__" (inClass (top 44) 0) [], dIn (fun K => He.ma K (He.ga K "Script") "__str__") "__str__" "Script.__str__" (inClass (top 44) 9) [], dIn (fun K => He.ma K (He.ga K "Script") "__len__") "__len__" "Script.__len__" (inClass (top 44) 7) [], dIn (fun K => He.ma K (He.ga K "Script") "ways") "ways" "Script.ways" (inClass (top 44) 6) [], dIn (fun K => cAd K (He.ga K "Script") "read") "read" "Script.read" (inClass (top 44) 1) []]
def fnA : List He5.DefA := fnA1 ++ fnA2
def tabL : List He.Tab := [(fun K => He.ga K "LOTS", wordsD)]
def cdL : List He.Defn := [("_law_right", none)]
abbrev hookX : PySem.W.Hook := hookH 5 factB fnA tabL cdL
abbrev R : PySem.W.OpenRow := PySem.W.OpenLaw.row PySem.Challenge.rw_thirdback_k33_whole_ways_to_each_index
def ob (s : PySem.W.SharedT) : AlH := obsH 5 factB fnA tabL cdL (HandSHeadRun.getT s)
theorem ob_eq (s : PySem.W.SharedT) : ob s = hookX.obs s.abs := obH_eq s
def looseN : List Str := [("WrongValue" : Str), ("InvalidText" : Str), ("InvalidFlag" : Str), ("InvalidTurns" : Str), ("InvalidIndex" : Str), ("NotAKind" : Str), ("InvalidNames" : Str), ("InvalidRows" : Str), ("WrongName" : Str), ("NoAnswer" : Str), ("Kind" : Str), ("Script" : Str), ("_LETTERS" : Str), ("_DIGITS" : Str), ("_LONGEST_NAME" : Str), ("_MOST_BOXES" : Str), ("MOST_ROWS" : Str), ("MOST_TESTS" : Str), ("SIGNS" : Str), ("LOTS" : Str), ("_CALM" : Str), ("_COPY" : Str), ("_GO" : Str), ("_TESTS" : Str)] ++ [("_wall" : Str), ("is_integer" : Str), ("is_number" : Str), ("is_name" : Str), ("is_one_of" : Str), ("check_names" : Str), ("check_boxes" : Str), ("check_kind" : Str), ("_holds" : Str), ("_least_lot" : Str), ("read_rows" : Str), ("all_ways" : Str), ("_read_row" : Str), ("_step" : Str), ("_goal" : Str), ("_following" : Str), ("check_row" : Str), ("_law_cell" : Str), ("_law_purse" : Str), ("_law_draw" : Str), ("_law_alike" : Str), ("_law_odd" : Str), ("_law_lots" : Str), ("_law_pairs" : Str)] ++ [("_law_name" : Str), ("_law_names" : Str), ("_law_steps" : Str), ("_law_row" : Str), ("_law_script" : Str), ("_law_ways" : Str), ("_law_told" : Str), ("_law_ways_right" : Str), ("_law_right" : Str)]
theorem run (w : World) : HandSHeadRun.RunEq R (PySem.W.view R.prog [63]) hookX ob 20000 looseN w := by
  refine PySem.W.byRow2 "special-get-raises" (P := fun w => HandSHeadRun.RunEq R (PySem.W.view R.prog [63]) hookX ob 20000 looseN w) (fun w os => ?_) (fun w os => ?_) w
  · kernel_rfl
  · kernel_rfl
end L2.K33
set_option Elab.async false
set_option linter.all false
set_option maxRecDepth 100000
set_option maxHeartbeats 8000000
namespace L2.K33
open PySem PySem.Spec PyProof.Rows L2.Tb
open SX (S)
abbrev s_read_row : Stmt := top 39
abbrev N_read_row : List Str := ["text", "boxes", "index", "count", "words"]
theorem sc_read_row : FnScope N_read_row ["text", "boxes", "index", "count"] (defScope s_read_row) := ⟨rfl, rfl, rfl, by decide +kernel, rfl, by decide +kernel, by decide +kernel⟩
abbrev s_read_rows : Stmt := top 37
abbrev N_read_rows : List Str := ["rows", "boxes", "steps", "index", "text", "read", "step"]
theorem sc_read_rows : FnScope N_read_rows ["rows", "boxes"] (defScope s_read_rows) := ⟨rfl, rfl, rfl, by decide +kernel, rfl, by decide +kernel, by decide +kernel⟩
/-! ### a row, all rows -/
def readWs (ls : List (List Nat)) (i m : Nat) : List (List Nat) → Option RSt
  | [a, b] => if decide (a = goW) = true then stepR ls goW [] (goalL b (i + 1) m) else none
  | [a, b, c, d] => if testW a = true then stepR ls a [b, c] (goalL d (i + 2) m) else none
  | [a, b, c] => if decide (b = eqW) = true then stepR ls eqW [a, c] none else none
  | [a, b, c, d, e] => if (decide (b = eqW) && signW d) = true then stepR ls d [a, c, e] none else none
  | _ => none
def readRow (ls : List (List Nat)) (i m : Nat) : Option (List Nat) → Option RSt
  | none => none
  | some l => readWs ls i m (TL.spl [32] 0 [] l)
def rowsF (ls : List (List Nat)) (m : Nat) : Nat → Nat → List (Option (List Nat)) → Option Nat
  | _, _, [] => none
  | i, t, r :: rs => if i = 12 then some i else match readRow ls i m r with
    | none => some i
    | some st => if 4 < t + (if testW st.word = true then 1 else 0) then some i else rowsF ls m (i + 1) (t + (if testW st.word = true then 1 else 0)) rs
def readAll (ls : List (List Nat)) (m : Nat) : Nat → List (Option (List Nat)) → List RSt
  | _, [] => []
  | i, r :: rs => (readRow ls i m r).getD ⟨[], [], none⟩ :: readAll ls m (i + 1) rs
def rowsFault (ls : List (List Nat)) : Option (List (Option (List Nat))) → Option (Option Nat)
  | none => some none
  | some rs => if rs = [] then some none else (rowsF ls rs.length 0 0 rs).map some
theorem spl_mem {S : List Nat} : ∀ (l : List Nat) (k : Nat) (acc : List Nat), ∀ w ∈ TL.spl S k acc l, (∀ c ∈ w, c ∈ acc ∨ c ∈ l) ∧ w.length ≤ acc.length + l.length
  | [], k, acc, w, h => by
    rw [TL.spl_nil] at h
    rw [List.mem_singleton.mp h]
    exact ⟨fun c hc => .inl hc, Nat.le_add_right _ _⟩
  | c :: r, 0, acc, w, h => by
    cases hp : TL.pre S (c :: r) with
    | true =>
      rw [TL.spl_hit hp] at h
      rcases List.mem_cons.mp h with rfl | h
      · exact ⟨fun c hc => .inl hc, Nat.le_add_right _ _⟩
      · obtain ⟨a, b⟩ := spl_mem r _ [] w h
        refine ⟨fun d hd => ?_, by have b : w.length ≤ 0 + r.length := b; simp only [List.length_cons]; omega⟩
        rcases a d hd with z | z
        · cases z
        · exact .inr (List.mem_cons_of_mem _ z)
    | false =>
      rw [TL.spl_miss hp] at h
      obtain ⟨a, b⟩ := spl_mem r 0 _ w h
      refine ⟨fun d hd => ?_, by simp only [List.length_append, List.length_cons, List.length_nil] at b ⊢; omega⟩
      rcases a d hd with z | z
      · rcases List.mem_append.mp z with z | z
        · exact .inl z
        · rw [List.mem_singleton.mp z]
          exact .inr List.mem_cons_self
      · exact .inr (List.mem_cons_of_mem _ z)
  | c :: r, k + 1, acc, w, h => by
    obtain ⟨a, b⟩ := spl_mem r k acc w h
    refine ⟨fun d hd => ?_, by simp only [List.length_cons] at b ⊢; omega⟩
    rcases a d hd with z | z
    · exact .inl z
    · exact .inr (List.mem_cons_of_mem _ z)
theorem lenN {xs : List V} {n : Nat} (h : xs.length = n) : decide (V.int ((xs.length : Nat) : Int) = V.int (n : Nat)) = true := decide_eq_true (by rw [h])
theorem lenX {xs : List V} {n : Nat} (h : xs.length ≠ n) : decide (V.int ((xs.length : Nat) : Int) = V.int (n : Nat)) = false := decide_eq_false fun z => h (by injection z with z; omega)
def spReadRow (K : PySem.W.Frag) : Sp := fun vs H Q _ => ∃ (v : V) (r : Option (List Nat)) (B : Addr) (ls : List (List Nat)) (i m : Nat), vs = [v, .ref B, .int (i : Nat), .int (m : Nat)] ∧ TxV K H v r ∧ (∀ l, r = some l → AsciiL l) ∧ H B = some (.tup (ls.map nmV)) ∧ i ≤ 99 ∧ m ≤ 99 ∧ StepQ H Q (readRow ls i m r)
def spReadRows (K : PySem.W.Frag) (CR : Addr) : Sp := fun vs H Q E => ∃ (v : V) (r : Option (List (Option (List Nat)))) (B : Addr) (ls : List (List Nat)), vs = [v, .ref B] ∧ BoxV K H v r ∧ (∀ rs, r = some rs → rs.length ≤ 99 ∧ ∀ l, some l ∈ rs → AsciiL l) ∧ H B = some (.tup (ls.map nmV)) ∧
  (match rowsFault ls r with
    | some i => ErrI H CR E i
    | none => ∀ (T : Addr) (ts : List Addr) (rs : List (Option (List Nat))) H', r = some rs → Same H H' → H' T = some (.tup (ts.map V.ref)) → Paired (fun t st => RStAt H' t st) ts (readAll ls rs.length 0 rs) → Q (.ref T) H')
section
variable {P : Program} {w : World} {K : PySem.W.Frag} {mg : Str → Option Value} {base : Heap} {f : Addr} {fd : FuncData} {CR : Addr}
theorem c_read_row (T : Bt mg) (mstr : mg "str" = none) (RF : RoF K mg) (k_step : Cal P w K mg base 2 "_step" spStep) (k_goal : Cal P w K mg base 1 "_goal" spGoal) (F : FnP K "_read_row" s_read_row f fd) (hm : mg "_read_row" = some (.ref f)) : Cal P w K mg base 3 "_read_row" (spReadRow K) := by
  have hnd := sc_read_row.nd
  obtain ⟨tg, hgo⟩ := RF.mgo
  obtain ⟨tc, hco⟩ := RF.mco
  obtain ⟨aT, hte, eTe⟩ := RF.mte
  obtain ⟨aS, hsi, eSi⟩ := RF.msi
  refine cal_mk F hm sc_read_row (fun _ _ _ _ _ _ us hl => match us, hl with | [_, _, _, _], _ => rfl) (fun vs H Q E h => ?_) (fun cdv A outer s H vs Q E hr h => ?_)
  · obtain ⟨v, r, B, ls, i, m, rfl, _⟩ := h
    rfl
  · obtain ⟨v, r, B, ls, i, m, rfl, tx, ha, eB, hi, hm, q⟩ := h
    refine ⟨_, (pss_cons (ps_if (pt_not (pt_val (pe_callB call_isi (by rfl) T.m_isinstance (by decide +kernel) (pa_cons (pv 0) (pa_cons (pe_bltn (v := .ty "str") (by rfl) mstr (by decide +kernel) rfl) pa_nil)))))
      (pss_one (ps_ret pe_non))
      pss_nil)
      (pss_cons (ps_set (i := 4) hnd rfl (by first | exact Or.inl rfl | exact Or.inr rfl) (pe_split (pv 0) pe_str))
      (pss_cons (ps_if (PW.pt (pw_and (pt_cmpR op_eq (pe_callB call_len_seq (by rfl) T.m_len (by decide +kernel) (pa_cons (pv 4) pa_nil)) pe_int (nomark _)) (pw_and1 (pt_cmpR op_eq (pe_ix (show IxR _ (rIxL K) from ix_list) (pv 4) pe_int (fun _ _ => rfl)) (pe_glob (v := .str "go") (by rfl) hgo ⟨_, rfl⟩) (nomark _)))))
      (pss_one (ps_ret (pe_cal k_step hr (by omega) (by rfl) (pa_cons (pe_glob (v := .str "go") (by rfl) hgo ⟨_, rfl⟩) (pa_cons (pe_tup pa_nil) (pa_cons (pv 1) (pa_cons (pe_cal k_goal hr (by omega) (by rfl) (pa_cons (pe_ix (show IxR _ (rIxL K) from ix_list) (pv 4) pe_int (fun _ _ => rfl)) (pa_cons (pe_op op_add (pv 2) pe_int) (pa_cons (pv 3) pa_nil)))) pa_nil)))))))
      pss_nil)
      (pss_cons (ps_if (PW.pt (pw_and (pt_cmpR op_eq (pe_callB call_len_seq (by rfl) T.m_len (by decide +kernel) (pa_cons (pv 4) pa_nil)) pe_int (nomark _)) (pw_and1 (pt_cmpR (show OpR _ (compareOp .In) (rIn K false) from op_in_seq) (pe_ix (show IxR _ (rIxL K) from ix_list) (pv 4) pe_int (fun _ _ => rfl)) (pe_glob (v := .ref aT) (by rfl) hte rfl) (by rfl)))))
      (pss_one (ps_ret (pe_cal k_step hr (by omega) (by rfl) (pa_cons (pe_ix (show IxR _ (rIxL K) from ix_list) (pv 4) pe_int (fun _ _ => rfl)) (pa_cons (pe_tup (pa_cons (pe_ix (show IxR _ (rIxL K) from ix_list) (pv 4) pe_int (fun _ _ => rfl)) (pa_cons (pe_ix (show IxR _ (rIxL K) from ix_list) (pv 4) pe_int (fun _ _ => rfl)) pa_nil))) (pa_cons (pv 1) (pa_cons (pe_cal k_goal hr (by omega) (by rfl) (pa_cons (pe_ix (show IxR _ (rIxL K) from ix_list) (pv 4) pe_int (fun _ _ => rfl)) (pa_cons (pe_op op_add (pv 2) pe_int) (pa_cons (pv 3) pa_nil)))) pa_nil)))))))
      pss_nil)
      (pss_cons (ps_if (PW.pt (pw_and (pt_cmpR op_eq (pe_callB call_len_seq (by rfl) T.m_len (by decide +kernel) (pa_cons (pv 4) pa_nil)) pe_int (nomark _)) (pw_and1 (pt_cmpR op_eq (pe_ix (show IxR _ (rIxL K) from ix_list) (pv 4) pe_int (fun _ _ => rfl)) (pe_glob (v := .str "=") (by rfl) hco ⟨_, rfl⟩) (nomark _)))))
      (pss_one (ps_ret (pe_cal k_step hr (by omega) (by rfl) (pa_cons (pe_glob (v := .str "=") (by rfl) hco ⟨_, rfl⟩) (pa_cons (pe_tup (pa_cons (pe_ix (show IxR _ (rIxL K) from ix_list) (pv 4) pe_int (fun _ _ => rfl)) (pa_cons (pe_ix (show IxR _ (rIxL K) from ix_list) (pv 4) pe_int (fun _ _ => rfl)) pa_nil))) (pa_cons (pv 1) (pa_cons pe_non pa_nil)))))))
      pss_nil)
      (pss_cons (ps_if (PW.pt (pw_and (pt_cmpR op_eq (pe_callB call_len_seq (by rfl) T.m_len (by decide +kernel) (pa_cons (pv 4) pa_nil)) pe_int (nomark _)) (pw_and (pt_cmpR op_eq (pe_ix (show IxR _ (rIxL K) from ix_list) (pv 4) pe_int (fun _ _ => rfl)) (pe_glob (v := .str "=") (by rfl) hco ⟨_, rfl⟩) (nomark _)) (pw_and1 (pt_cmpR (show OpR _ (compareOp .In) (rIn K false) from op_in_seq) (pe_ix (show IxR _ (rIxL K) from ix_list) (pv 4) pe_int (fun _ _ => rfl)) (pe_glob (v := .ref aS) (by rfl) hsi rfl) (by rfl))))))
      (pss_one (ps_ret (pe_cal k_step hr (by omega) (by rfl) (pa_cons (pe_ix (show IxR _ (rIxL K) from ix_list) (pv 4) pe_int (fun _ _ => rfl)) (pa_cons (pe_tup (pa_cons (pe_ix (show IxR _ (rIxL K) from ix_list) (pv 4) pe_int (fun _ _ => rfl)) (pa_cons (pe_ix (show IxR _ (rIxL K) from ix_list) (pv 4) pe_int (fun _ _ => rfl)) (pa_cons (pe_ix (show IxR _ (rIxL K) from ix_list) (pv 4) pe_int (fun _ _ => rfl)) pa_nil)))) (pa_cons (pv 1) (pa_cons pe_non pa_nil)))))))
      pss_nil)
      (pss_one (ps_ret pe_non)))))))), ?_⟩
    cases r with
    | none =>
      obtain ⟨T0, ty, k⟩ := tx.ex
      exact ⟨_, rfl, _, _, _, _, _, rfl, .ty _, ty, k, _, rfl, iteT (q H (Same.refl _))⟩
    | some l =>
      obtain ⟨rfl, l4⟩ := tx
      have ha := ha l rfl
      refine ⟨_, rfl, _, _, _, _, _, rfl, .ty _, .base (.str _), (by rfl : PySem.W.kitOne K (.type "str") (.type "str") = some true), _, rfl, iteF ?_⟩
      dsimp only [tNext]
      refine ⟨_, rfl, ⟨_, rfl⟩, _, _, rfl, rfl, rfl, by rw [SX.S_len, sizeLine_eq]; omega, fun W nW => gname_go ?_⟩
      try dsimp only
      rw [show (Str.ofString " ") = S [32] from by decide +kernel, SX.split_S (by decide) (by decide)]
      replace q : StepQ H Q (readWs ls i m (TL.spl [32] 0 [] l)) := q
      have hw : ∀ x ∈ TL.spl [32] 0 [] l, AsciiL x ∧ x.length ≤ 10000 := fun x hx => by
        obtain ⟨a, b⟩ := spl_mem l 0 [] x hx
        refine ⟨fun c hc => ?_, by have b : x.length ≤ 0 + l.length := b; omega⟩
        rcases a c hc with z | z
        · cases z
        · exact ha c z
      generalize TL.spl [32] 0 [] l = ws at q hw ⊢
      have emap : (ws.map S).map V.str = ws.map nmV := by rw [List.map_map]; rfl
      rw [emap]
      have s1 := same_new (o := .lst (ws.map nmV)) nW
      have eW := upd_same (H := H) (a := W) (o := .lst (ws.map nmV))
      have eB1 := s1 _ _ eB
      replace q := StepQ.same q s1
      generalize upd H W (.lst (ws.map nmV)) = H1 at s1 eW eB1 q ⊢
      clear s1 nW
      have hgo9 : ∀ x : List Nat, decide (nmV x = V.str (Str.ofString "go")) = decide (x = goW) := fun x => by rw [nm_S, nm_eq]; rfl
      have hco9 : ∀ x : List Nat, decide (nmV x = V.str (Str.ofString "=")) = decide (x = eqW) := fun x => by rw [nm_S, nm_eq]; rfl
      have no : (ws.length ≠ 2 ∧ ws.length ≠ 3 ∧ ws.length ≠ 4 ∧ ws.length ≠ 5) ∨ (∃ a b, ws = [a, b]) ∨ (∃ a b c, ws = [a, b, c]) ∨ (∃ a b c d, ws = [a, b, c, d]) ∨ (∃ a b c d e, ws = [a, b, c, d, e]) := by
        match ws with
        | [] => exact .inl (by simp)
        | [a] => exact .inl (by simp)
        | [a, b] => exact .inr (.inl ⟨a, b, rfl⟩)
        | [a, b, c] => exact .inr (.inr (.inl ⟨a, b, c, rfl⟩))
        | [a, b, c, d] => exact .inr (.inr (.inr (.inl ⟨a, b, c, d, rfl⟩)))
        | [a, b, c, d, e] => exact .inr (.inr (.inr (.inr ⟨a, b, c, d, e, rfl⟩)))
        | a :: b :: c :: d :: e :: f :: r => exact .inl ⟨by simp, by simp, by simp, by simp⟩
      rcases no with ⟨n2, n3, n4, n5⟩ | ⟨a, b, rfl⟩ | ⟨a, b, c, rfl⟩ | ⟨a, b, c, d, rfl⟩ | ⟨a, b, c, d, e, rfl⟩
      · have hnone : readWs ls i m ws = none := by
          unfold readWs
          split <;> first | rfl | (exfalso; simp at n2 n3 n4 n5)
        rw [hnone] at q
        have lx : ∀ {n : Nat}, ws.length ≠ n → (ws.map nmV).length ≠ n := fun h => by rw [List.length_map]; exact h
        refine ⟨_, rfl, W, _, rfl, .inl (SqL.of eW), rfl, _, rfl, iteN2 (lenX (n := 2) (lx n2)) (iteF ?_)⟩
        dsimp only [tNext]
        refine ⟨_, rfl, W, _, rfl, .inl (SqL.of eW), rfl, _, rfl, iteN2 (lenX (n := 4) (lx n4)) (iteF ?_)⟩
        dsimp only [tNext]
        refine ⟨_, rfl, W, _, rfl, .inl (SqL.of eW), rfl, _, rfl, iteN2 (lenX (n := 3) (lx n3)) (iteF ?_)⟩
        dsimp only [tNext]
        refine ⟨_, rfl, W, _, rfl, .inl (SqL.of eW), rfl, _, rfl, iteN2 (lenX (n := 5) (lx n5)) (iteF ?_)⟩
        exact q _ (Same.refl _)
      · refine ⟨_, rfl, W, _, rfl, .inl (SqL.of eW), rfl, _, rfl, iteT2 (lenN (n := 2) rfl) ⟨_, rfl, W, _, 0, nmV a, rfl, rfl, SqL.of eW, rfl, rfl, _, rfl, ?_⟩⟩
        rw [hgo9]
        replace q : StepQ H1 Q (if decide (a = goW) = true then stepR ls goW [] (goalL b (i + 1) m) else none) := q
        obtain ⟨hb1, hb2⟩ := hw b (by simp)
        cases c : decide (a = goW) with
        | true =>
          rw [c, if_pos rfl] at q
          refine iteT ⟨Nat.zero_le _, fun O nO => ⟨_, rfl, _, rfl, W, _, 1, nmV b, rfl, rfl, SqL.of (same_new nO _ _ eW), rfl, _, rfl, _, _, rfl, rfl, _, rfl, ?_⟩⟩
          refine ⟨b, i + 1, m, rfl, hb1, hb2, hm, ?_⟩
          exact ⟨goW, O, B, [], ls, goalL b (i + 1) m, rfl, upd_same, same_new nO _ _ eB1, Nat.zero_le _, q.same (same_new nO)⟩
        | false =>
          rw [c, if_neg (by decide)] at q
          refine iteF ?_
          dsimp only [tNext]
          refine ⟨_, rfl, W, _, rfl, .inl (SqL.of eW), rfl, _, rfl, iteN2 (lenX (n := 4) (by simp)) (iteF ?_)⟩
          dsimp only [tNext]
          refine ⟨_, rfl, W, _, rfl, .inl (SqL.of eW), rfl, _, rfl, iteN2 (lenX (n := 3) (by simp)) (iteF ?_)⟩
          dsimp only [tNext]
          refine ⟨_, rfl, W, _, rfl, .inl (SqL.of eW), rfl, _, rfl, iteN2 (lenX (n := 5) (by simp)) (iteF ?_)⟩
          dsimp only [tNext]
          exact q _ (Same.refl _)
      · replace q : StepQ H1 Q (if decide (b = eqW) = true then stepR ls eqW [a, c] none else none) := q
        refine ⟨_, rfl, W, _, rfl, .inl (SqL.of eW), rfl, _, rfl, iteN2 (lenX (n := 2) (by simp)) (iteF ?_)⟩
        dsimp only [tNext]
        refine ⟨_, rfl, W, _, rfl, .inl (SqL.of eW), rfl, _, rfl, iteN2 (lenX (n := 4) (by simp)) (iteF ?_)⟩
        dsimp only [tNext]
        refine ⟨_, rfl, W, _, rfl, .inl (SqL.of eW), rfl, _, rfl, iteT2 (lenN (n := 3) rfl) ⟨_, rfl, W, _, 1, nmV b, rfl, rfl, SqL.of eW, rfl, rfl, _, rfl, ?_⟩⟩
        rw [hco9]
        cases c9 : decide (b = eqW) with
        | true =>
          rw [c9, if_pos rfl] at q
          refine iteT ⟨_, rfl, W, _, 0, nmV a, rfl, rfl, SqL.of eW, rfl, _, rfl, W, _, 2, nmV c, rfl, rfl, SqL.of eW, rfl, by show 2 ≤ sizeLine; decide, fun O nO => ⟨_, rfl, ?_⟩⟩
          exact ⟨eqW, O, B, [a, c], ls, none, rfl, upd_same, same_new nO _ _ eB1, by simp, q.same (same_new nO)⟩
        | false =>
          rw [c9, if_neg (by decide)] at q
          refine iteF ?_
          dsimp only [tNext]
          refine ⟨_, rfl, W, _, rfl, .inl (SqL.of eW), rfl, _, rfl, iteN2 (lenX (n := 5) (by simp)) (iteF ?_)⟩
          dsimp only [tNext]
          exact q _ (Same.refl _)
      · replace q : StepQ H1 Q (if testW a = true then stepR ls a [b, c] (goalL d (i + 2) m) else none) := q
        refine ⟨_, rfl, W, _, rfl, .inl (SqL.of eW), rfl, _, rfl, iteN2 (lenX (n := 2) (by simp)) (iteF ?_)⟩
        dsimp only [tNext]
        refine ⟨_, rfl, W, _, rfl, .inl (SqL.of eW), rfl, _, rfl, iteT2 (lenN (n := 4) rfl) ⟨_, rfl, W, _, 0, nmV a, rfl, rfl, SqL.of eW, rfl, _, _, rfl, .inr (eTe H1), rfl, names_flat _, _, rfl, ?_⟩⟩
        rw [if_neg Bool.false_ne_true, inV_names]
        obtain ⟨hd1, hd2⟩ := hw d (by simp)
        cases c9 : testW a with
        | true =>
          rw [c9, if_pos rfl] at q
          rw [show decide (a ∈ [sameW, unlikeW]) = true from c9]
          refine iteT ⟨_, rfl, W, _, 0, nmV a, rfl, rfl, SqL.of eW, rfl, _, rfl, W, _, 1, nmV b, rfl, rfl, SqL.of eW, rfl, _, rfl, W, _, 2, nmV c, rfl, rfl, SqL.of eW, rfl, by show 2 ≤ sizeLine; decide, fun O nO => ?_⟩
          refine ⟨_, rfl, _, rfl, W, _, 3, nmV d, rfl, rfl, SqL.of (same_new nO _ _ eW), rfl, _, rfl, _, _, rfl, rfl, _, rfl, ?_⟩
          refine ⟨d, i + 2, m, rfl, hd1, hd2, hm, ?_⟩
          exact ⟨a, O, B, [b, c], ls, goalL d (i + 2) m, rfl, upd_same, same_new nO _ _ eB1, by simp, q.same (same_new nO)⟩
        | false =>
          rw [c9, if_neg (by decide)] at q
          rw [show decide (a ∈ [sameW, unlikeW]) = false from c9]
          refine iteF ?_
          dsimp only [tNext]
          refine ⟨_, rfl, W, _, rfl, .inl (SqL.of eW), rfl, _, rfl, iteN2 (lenX (n := 3) (by simp)) (iteF ?_)⟩
          dsimp only [tNext]
          refine ⟨_, rfl, W, _, rfl, .inl (SqL.of eW), rfl, _, rfl, iteN2 (lenX (n := 5) (by simp)) (iteF ?_)⟩
          dsimp only [tNext]
          exact q _ (Same.refl _)
      · replace q : StepQ H1 Q (if (decide (b = eqW) && signW d) = true then stepR ls d [a, c, e] none else none) := q
        refine ⟨_, rfl, W, _, rfl, .inl (SqL.of eW), rfl, _, rfl, iteN2 (lenX (n := 2) (by simp)) (iteF ?_)⟩
        dsimp only [tNext]
        refine ⟨_, rfl, W, _, rfl, .inl (SqL.of eW), rfl, _, rfl, iteN2 (lenX (n := 4) (by simp)) (iteF ?_)⟩
        dsimp only [tNext]
        refine ⟨_, rfl, W, _, rfl, .inl (SqL.of eW), rfl, _, rfl, iteN2 (lenX (n := 3) (by simp)) (iteF ?_)⟩
        dsimp only [tNext]
        refine ⟨_, rfl, W, _, rfl, .inl (SqL.of eW), rfl, _, rfl, iteT2 (lenN (n := 5) rfl) ⟨_, rfl, W, _, 1, nmV b, rfl, rfl, SqL.of eW, rfl, rfl, _, rfl, ?_⟩⟩
        rw [hco9]
        cases c9 : decide (b = eqW) with
        | true =>
          rw [c9, Bool.true_and] at q
          refine iteT ⟨_, rfl, W, _, 3, nmV d, rfl, rfl, SqL.of eW, rfl, _, _, rfl, .inr (eSi H1), rfl, names_flat _, _, rfl, ?_⟩
          rw [if_neg Bool.false_ne_true, inV_names]
          cases c8 : signW d with
          | true =>
            rw [c8, if_pos rfl] at q
            rw [show decide (d ∈ signsW) = true from c8]
            refine iteT ⟨_, rfl, W, _, 3, nmV d, rfl, rfl, SqL.of eW, rfl, _, rfl, W, _, 0, nmV a, rfl, rfl, SqL.of eW, rfl, _, rfl, W, _, 2, nmV c, rfl, rfl, SqL.of eW, rfl, _, rfl, W, _, 4, nmV e, rfl, rfl, SqL.of eW, rfl, by show 3 ≤ sizeLine; decide, fun O nO => ⟨_, rfl, ?_⟩⟩
            exact ⟨d, O, B, [a, c, e], ls, none, rfl, upd_same, same_new nO _ _ eB1, by simp, q.same (same_new nO)⟩
          | false =>
            rw [c8, if_neg (by decide)] at q
            rw [show decide (d ∈ signsW) = false from c8]
            exact iteF (q _ (Same.refl _))
        | false =>
          rw [c9, Bool.false_and, if_neg (by decide)] at q
          exact iteF (q _ (Same.refl _))
end
end L2.K33
set_option Elab.async false
set_option linter.all false
set_option maxRecDepth 100000
set_option maxHeartbeats 8000000
namespace L2.K33
open PySem PySem.Spec PyProof.Rows L2.Tb
open SX (S)
section
variable {P : Program} {w : World} {K : PySem.W.Frag} {mg : Str → Option Value} {base : Heap} {f : Addr} {fd : FuncData} {CR : Addr}
theorem RStAt.put {H : Hp} {t L : Addr} {xs ys : List V} {st : RSt} (h : RStAt H t st) (e : H L = some (.lst xs)) : RStAt (upd H L (.lst ys)) t st := by
  obtain ⟨nt, a, b⟩ := h
  refine ⟨nt, ?_, ?_⟩
  · rw [upd_ne fun z => ?_]
    · exact a
    · rw [z, e] at a
      cases a
  · rw [upd_ne fun z => ?_]
    · exact b
    · rw [z, e] at b
      cases b
theorem filt1 {α : Type} (p : α → Bool) (x : α) : ([x].filter p).length = if p x = true then 1 else 0 := by
  cases c : p x <;> simp [c]
theorem c_read_rows (T : Bt mg) (RF : RoF K mg) (k_read_row : Cal P w K mg base 3 "_read_row" (spReadRow K)) (eInvalidRows : ErC P w K mg base "InvalidRows" "index" bVE CR) (tyInvalidRows : PySem.W.typeIn K (.ref CR) = some (.type "type")) (F : FnP K "read_rows" s_read_rows f fd) (hm : mg "read_rows" = some (.ref f)) :
    CalX P w K mg base 4 "read_rows" (spReadRows K CR) := by
  have hnd := sc_read_rows.nd
  obtain ⟨aT, hte, eTe⟩ := RF.mte
  obtain ⟨t1, hro⟩ := RF.mro
  obtain ⟨t2, hts⟩ := RF.mts
  refine calX_of F hm (fun _ _ _ _ _ _ us hl => match us, hl with | [_, _], _ => rfl) (F.ok sc_read_rows (fun vs H Q E h => ?_) (fun cdv A outer s H vs Q E hr h => ?_))
  · obtain ⟨v, r, B, ls, rfl, _⟩ := h
    rfl
  · obtain ⟨v, r, B, ls, rfl, bx, ha, eB, q⟩ := h
    refine ⟨_, (pss_cons (ps_if (PW.pt (pw_or (pt_not (pt_val (pe_callB call_isi (by rfl) T.m_isinstance (by decide +kernel) (pa_cons (pv 0) (pa_cons (pe_bltn (v := .ty "tuple") (by rfl) T.m_tuple (by decide +kernel) rfl) pa_nil))))) (pw_or1 (pt_cmpR op_eq (pe_callB call_len_seq (by rfl) T.m_len (by decide +kernel) (pa_cons (pv 0) pa_nil)) pe_int (nomark _)))))
      (pss_one (ps_raise (by rfl) (takes_of rfl rfl rfl rfl) (pmk_er eInvalidRows tyInvalidRows hr (by omega) (by rfl) pe_non)))
      pss_nil)
      (pss_cons (ps_set (i := 2) hnd rfl (by first | exact Or.inl rfl | exact Or.inr rfl) (pe_lst pa_nil))
      (pss_cons (ps_for (passes_of rfl) (by rfl) (pi_enumT (by rfl) T.m_enumerate (pa_cons (pv 0) pa_nil)) (pg_tup (by rfl) (pgs_cons (pg_name (i := 3) hnd rfl (by first | exact Or.inl rfl | exact Or.inr rfl)) (pgs_cons (pg_name (i := 4) hnd rfl (by first | exact Or.inl rfl | exact Or.inr rfl)) pgs_nil)))
      (pss_cons (ps_set (i := 5) hnd rfl (by first | exact Or.inl rfl | exact Or.inr rfl) (pe_cal k_read_row hr (by omega) (by rfl) (pa_cons (pv 4) (pa_cons (pv 1) (pa_cons (pv 3) (pa_cons (pe_callB call_len_seq (by rfl) T.m_len (by decide +kernel) (pa_cons (pv 0) pa_nil)) pa_nil))))))
      (pss_cons (ps_if (PW.pt (pw_or (pt_cmpR op_eq (pv 3) (pe_glob (v := .int 12) (by rfl) hro ⟨_, rfl⟩) (nomark _)) (pw_or1 (pt_cmpR op_isN (pv 5) pe_non (nomark _)))))
      (pss_one (ps_raise (by rfl) (takes_of rfl rfl rfl rfl) (pmk_er eInvalidRows tyInvalidRows hr (by omega) (by rfl) (pv 3))))
      pss_nil)
      (pss_cons (ps_expr (pe_bm PySem.F.plainAttrs_list PySem.F.slot_list_append PySem.F.type_list_append mt_append (pv 2) (pa_cons (pv 5) pa_nil)))
      (pss_one (ps_if (pt_cmpR op_gt (pe_callB call_len_seq (by rfl) T.m_len (by decide +kernel) (pa_cons (pe_lc (own := [("step", 6)]) (by rfl) hnd (pi_list (pv 2)) (blkOk_by (own := [("step", 6)]) (N := N_read_rows) (sc := defScope s_read_rows) (by decide +kernel)) (fun _ _ _ _ _ => (pg_name (i := 6) hnd rfl (by first | exact Or.inl rfl | exact Or.inr rfl))) (fun _ _ _ _ _ => (pts_one (pt_cmpR (show OpR _ (compareOp .In) (rIn K false) from op_in_seq) (pe_ix (show IxR _ (rIxT K) from ix_tup) (pv 6) pe_int (fun _ _ => rfl)) (pe_glob (v := .ref aT) (by rfl) hte rfl) (by rfl)))) (fun _ _ _ _ _ => (pv 6))) pa_nil)) (pe_glob (v := .int 4) (by rfl) hts ⟨_, rfl⟩) (nomark _))
      (pss_one (ps_raise (by rfl) (takes_of rfl rfl rfl rfl) (pmk_er eInvalidRows tyInvalidRows hr (by omega) (by rfl) (pv 3))))
      pss_nil))))))
      (pss_one (ps_ret (pe_callTy call_tuple_of (by rfl) T.m_tuple (by decide +kernel) (pa_cons (pv 2) pa_nil))))))), ?_⟩
    cases r with
    | none =>
      obtain ⟨T0, ty, k⟩ := bx.ex
      exact ⟨_, rfl, _, _, _, _, _, rfl, .ty _, ty, k, _, rfl, iteT (iteT fun d H' s n x => q d H' s n x)⟩
    | some rs =>
      obtain ⟨N, xs, rfl, eN, pd, hl⟩ := bx
      obtain ⟨l99, ha⟩ := ha rs rfl
      have xl := pd.length
      refine ⟨_, rfl, _, _, _, _, _, rfl, .ty _, .base (.tup eN), (by rfl : PySem.W.kitOne K (.type "tuple") (.type "tuple") = some true), _, rfl, iteF ⟨_, rfl, N, _, rfl, .inr (SqT.of eN), rfl, _, rfl, ?_⟩⟩
      by_cases c0 : rs = []
      · subst c0
        refine iteT2 (lenN (n := 0) xl) ?_
        exact fun d H' s n x => q d H' s n x
      · refine iteN2 (lenX (n := 0) fun z => c0 (List.eq_nil_of_length_eq_zero (xl.symm.trans z))) ?_
        dsimp only [tNext]
        have q : (match (rowsF ls rs.length 0 0 rs).map some with
          | some i => ErrI H CR E i
          | none => ∀ (T : Addr) (ts : List Addr) (rs' : List (Option (List Nat))) H', some rs = some rs' → Same H H' → H' T = some (.tup (ts.map V.ref)) → Paired (fun t st => RStAt H' t st) ts (readAll ls rs'.length 0 rs') → Q (.ref T) H') := by
          unfold rowsFault at q
          dsimp only at q
          rw [if_neg c0] at q
          exact q
        refine ⟨Nat.zero_le _, fun L nL => gname_go ?_⟩
        try dsimp only
        have s0 := same_new (o := .lst []) nL
        refine ⟨_, rfl, N, _, rfl, SqT.of (s0 _ _ eN), for_enumT (K := K) (a := N) (xs := xs) (fun i σ' G => Same H G ∧ ∃ (sts : List RSt) (ts : List Addr) (x3 x4 x5 x6 : Option V), σ' = [some (.ref N), some (.ref B), some (.ref L), x3, x4, x5, x6] ∧ sts.length = i ∧ G L = some (.lst (ts.map V.ref)) ∧ Paired (fun t st => RStAt G t st) ts sts ∧
          rowsF ls rs.length 0 0 rs = rowsF ls rs.length i (sts.filter fun st => testW st.word).length (rs.drop i) ∧ readAll ls rs.length 0 rs = sts ++ readAll ls rs.length i (rs.drop i)) ⟨s0, [], [], _, _, _, _, rfl, rfl, upd_same, .nil, rfl, rfl⟩ (fun i σ' G _ h => SqT.of (h.1 _ _ eN)) ?_ ?_⟩
        · rintro i y σ' G T9 hi ⟨sG, sts, ts, x3, x4, x5, x6, rfl, sl, eL, pt, hF, hA⟩ nT
          obtain ⟨r, hr9, tx⟩ := pairedNth pd hi
          have il : i < rs.length := (List.getElem?_eq_some_iff.mp hr9).1
          have s1 := sG.trans (same_new (o := .tup [.int (i : Nat), y]) nT)
          have sT := same_new (o := .tup [.int (i : Nat), y]) nT
          have eT9 := upd_same (H := G) (a := T9) (o := .tup [.int (i : Nat), y])
          have eL1 := sT _ _ eL
          have pt1 := paired_imp (S := fun t st => RStAt _ t st) (fun _ _ z => RStAt.same z sT) pt
          generalize upd G T9 (.tup [.int (i : Nat), y]) = G1 at s1 sT eT9 eL1 pt1 ⊢
          rw [drop_at hr9] at hF hA
          refine ⟨T9, _, rfl, SqT.of eT9, rfl, _, _, rfl, _, _, rfl, rfl, ?_⟩
          try dsimp only
          have bad : rowsF ls rs.length 0 0 rs = some i → ∀ {G2 : Hp}, Same H G2 → ErrI G2 CR E (some i) := fun h {G2} s => by
            rw [h] at q
            exact ErrI.same q s
          refine ⟨_, rfl, _, rfl, _, rfl, _, rfl, N, _, rfl, .inr (SqT.of (s1 _ _ eN)), ?_⟩
          rw [xl]
          refine ⟨y, r, B, ls, i, rs.length, rfl, tx.same s1, fun l e => ha l (by rw [← e]; exact List.mem_of_getElem? hr9), s1 _ _ eB, by omega, l99, ?_⟩
          have fault : i = 12 ∨ readRow ls i rs.length r = none → rowsF ls rs.length 0 0 rs = some i := fun h => by
            rw [hF]
            unfold rowsF
            rcases h with h | h
            · rw [if_pos h]
            · rw [h]
              by_cases c : i = 12
              · rw [if_pos c]
              · rw [if_neg c]
          cases er : readRow ls i rs.length r with
          | none =>
            intro G2 s2
            refine gname_go ?_
            try dsimp only
            refine ⟨_, rfl, rfl, _, rfl, ?_⟩
            by_cases c : i = 12
            · refine iteT2 (decide_eq_true (by rw [c]; rfl)) (iteT ⟨_, rfl, fun d H' s n x => bad (fault (.inr er)) (s1.trans s2) d H' s n x⟩)
            · refine iteN2 (decide_eq_false fun z => c (by injection z with z; omega)) ⟨_, rfl, rfl, _, rfl, iteT2 (by decide +kernel) ⟨_, rfl, fun d H' s n x => bad (fault (.inr er)) (s1.trans s2) d H' s n x⟩⟩
          | some st =>
            intro t G2 s2 nt eSt
            refine gname_go ?_
            try dsimp only
            refine ⟨_, rfl, rfl, _, rfl, ?_⟩
            by_cases c : i = 12
            · refine iteT2 (decide_eq_true (by rw [c]; rfl)) (iteT ⟨_, rfl, fun d H' s n x => bad (fault (.inl c)) (s1.trans s2) d H' s n x⟩)
            · refine iteN2 (decide_eq_false fun z => c (by injection z with z; omega)) ⟨_, rfl, rfl, _, rfl, iteN2 (decide_eq_false (by intro z; cases z)) ?_⟩
              dsimp only [tNext]
              have eL2 := s2 _ _ eL1
              have n12 : i < 99 := by omega
              refine ⟨_, rfl, .inl ⟨rfl, _, SqL.of eL2⟩, _, rfl, L, _, _, rfl, rfl, eL2, by rw [List.length_map, pt.length, sl, sizeLine_eq]; omega, ?_⟩
              have tL : L ≠ t := fun z => by
                rw [← z, eL1] at nt
                cases nt
              have sx : Same H (upd G2 L (.lst (ts.map V.ref ++ [.ref t]))) := same_put nL (s1.trans s2)
              have pt3 : Paired (fun t8 st => RStAt (upd G2 L (.lst (ts.map V.ref ++ [.ref t]))) t8 st) (ts ++ [t]) (sts ++ [st]) := Paired.snoc (paired_imp (fun _ _ z => (RStAt.same z s2).put eL2) pt1) (eSt.put eL2)
              have eL3 := upd_same (H := G2) (a := L) (o := .lst (ts.map V.ref ++ [.ref t]))
              rw [show ts.map V.ref ++ [.ref t] = (ts ++ [t]).map V.ref by rw [List.map_append]; rfl] at sx pt3 eL3 ⊢
              generalize upd G2 L (.lst ((ts ++ [t]).map V.ref)) = G3 at sx pt3 eL3 ⊢
              refine ⟨_, rfl, L, rfl, ⟨_, SqL.of eL3⟩, fun D nD => ?_⟩
              refine lc_list (xs := (ts ++ [t]).map V.ref) (fun j G4 => Same G3 G4 ∧ ∃ fl : List V, G4 D = some (.lst fl) ∧ fl.length = (((sts ++ [st]).take j).filter fun st => testW st.word).length) ⟨same_new nD, [], upd_same, rfl⟩ (fun j G4 _ z => SqL.of (z.1 _ _ eL3)) ?_ ?_
              · rintro j x G4 hx ⟨s4, fl, e4, l4⟩
                rw [List.getElem?_map] at hx
                obtain ⟨t5, ht5, rfl⟩ := Option.map_eq_some_iff.mp hx
                obtain ⟨st5, hs5, nt5, e5, _⟩ := pairedNth pt3 ht5
                have jl := (List.getElem?_eq_some_iff.mp hs5).1
                have fle : fl.length ≤ 100 := by
                  rw [l4]
                  refine Nat.le_trans (List.length_filter_le ..) ?_
                  rw [List.length_take]
                  simp only [List.length_append, List.length_singleton] at jl ⊢
                  omega
                refine ⟨rfl, _, rfl, t5, _, 0, nmV st5.word, rfl, rfl, SqT.of (s4 _ _ e5), rfl, _, _, rfl, .inr (eTe G4), rfl, names_flat _, _, rfl, ?_⟩
                rw [if_neg Bool.false_ne_true, inV_names, show decide (st5.word ∈ [sameW, unlikeW]) = testW st5.word from rfl]
                cases c5 : testW st5.word with
                | true => exact iteT ⟨_, rfl, _, e4, by rw [sizeLine_eq]; omega, same_put nD s4, _, upd_same, by rw [take_at hs5, List.filter_append, List.length_append, List.length_append, l4, filt1, c5]; rfl⟩
                | false => exact iteF ⟨s4, fl, e4, by rw [take_at hs5, List.filter_append, List.length_append, l4, filt1, c5]; rfl⟩
              · rintro G4 ⟨s4, fl, e4, l4⟩
                rw [show (((ts ++ [t]).map V.ref).length) = (sts ++ [st]).length by rw [List.length_map]; exact pt3.length, List.take_length, List.filter_append, List.length_append] at l4
                have lone : ([st].filter fun st => testW st.word).length = if testW st.word = true then 1 else 0 := filt1 _ _
                rw [lone] at l4
                have hF2 : rowsF ls rs.length 0 0 rs = (if i = 12 then some i else match readRow ls i rs.length r with
                  | none => some i
                  | some st => if 4 < (sts.filter fun st => testW st.word).length + (if testW st.word = true then 1 else 0) then some i else rowsF ls rs.length (i + 1) ((sts.filter fun st => testW st.word).length + (if testW st.word = true then 1 else 0)) (rs.drop (i + 1))) := hF
                rw [er, if_neg c] at hF2
                dsimp only at hF2
                refine ⟨D, _, rfl, .inl (SqL.of e4), _, _, rfl, rfl, _, rfl, ?_⟩
                rw [l4]
                by_cases c9 : 4 < (sts.filter fun st => testW st.word).length + (if testW st.word = true then 1 else 0)
                · rw [if_pos c9] at hF2
                  exact iteT2 (decide_eq_true (by omega)) ⟨_, rfl, fun d H' s n x => bad hF2 (sx.trans s4) d H' s n x⟩
                · rw [if_neg c9] at hF2
                  refine iteN2 (decide_eq_false (by omega)) ⟨sx.trans s4, sts ++ [st], ts ++ [t], _, _, _, _, rfl, by rw [List.length_append, sl]; rfl, s4 _ _ eL3, paired_imp (fun _ _ z => RStAt.same z s4) pt3, ?_, ?_⟩
                  · rw [List.filter_append, List.length_append, lone]
                    exact hF2
                  · rw [hA]
                    show _ ++ ((readRow ls i rs.length r).getD _ :: _) = _
                    rw [er, List.append_assoc]
                    rfl
        · rintro σ' G ⟨sG, sts, ts, x3, x4, x5, x6, rfl, sl, eL, pt, hF, hA⟩
          rw [List.drop_eq_nil_of_le (by rw [xl]; exact Nat.le_refl _)] at hF hA
          rw [hF] at q
          refine ⟨_, rfl, L, _, rfl, .inl ⟨SqL.of eL, fun T9 nT => ?_⟩⟩
          have hA : readAll ls rs.length 0 rs = sts := hA.trans (List.append_nil _)
          exact q T9 ts rs _ rfl (sG.trans (same_new nT)) upd_same (by rw [hA]; exact paired_imp (fun _ _ z => RStAt.same z (same_new nT)) pt)
end
end L2.K33
set_option Elab.async false
set_option linter.all false
set_option maxRecDepth 100000
set_option maxHeartbeats 4000000
/-! len(x) by an own __len__; the truth of x by an own __len__ or __bool__ -/
namespace L2.Tb
open PySem PySem.Spec PyProof.Rows
section
variable {prog : Program} {w : World} {A : Around} {E : Value → Shared → Prop} {s : Shared} {K : PySem.W.Frag} {x C f : Addr} {ox : Obj} {od : Option Obj}
theorem lenO_body {Q : Value → Shared → Prop} (X : K.In s.heap) (I : PySem.W.InstAt s.heap x ox C od) (hs : PySem.W.findIn K (.ref C) "__len__" = some (some (.ref f))) (hf : PySem.W.isFn K (.ref f) = true)
    (h : wpAny (model prog w) A (call (.ref f) [.ref x]) (PySem.W.LenBack Q) E s) : wpAny (model prog w) A (Builtin.«len» ⟨[.ref x], []⟩) (fun fin s' => ∃ r, fin = .done (.ret r) ∧ Q r s') E s := by
  unfold Builtin.«len»
  refine wpAny_bind (m := oneArg "len" _) (wpAny_pure ?_)
  refine wpAny_bind (m := callSpecial? (.ref x) (Str.ofString "__len__")) (PySem.W.special_fn X I hs (beq_iff_eq.mp hf) (wpAny_mono h (fun r s' hr => ?_) fun _ _ y => y))
  cases r <;> first | exact hr.elim | skip
  rename_i n u
  obtain ⟨⟨h0, h1⟩, hq⟩ := hr
  refine wpAny_bind (wpAny_holding (wpAny_pure ?_))
  refine wpAny_bind (wpAny_letGo ?_)
  show wpAny _ _ (if n < 0 then _ else _) _ _ _
  rw [if_neg (by omega)]
  show wpAny _ _ (if n ≥ 2 ^ 63 then _ else _) _ _ _
  rw [if_neg (by omega)]
  exact wpAny_bind (wpAny_mkInt (wpAny_pure ⟨_, rfl, hq⟩))
theorem lenO_truthy {Q : Bool → Shared → Prop} (X : K.In s.heap) (I : PySem.W.InstAt s.heap x ox C od) (hs : PySem.W.findIn K (.ref C) "__len__" = some (some (.ref f))) (hb : PySem.W.findIn K (.ref C) "__bool__" = some none) (hf : PySem.W.isFn K (.ref f) = true)
    (h : wpAny (model prog w) A.in1 (call (.ref f) [.ref x]) (PySem.W.LenBack fun r s' => ∃ n t, r = .int n t ∧ Q (n != 0) s') E s) : wpAny (model prog w) A (truthy (.ref x)) Q E s := by
  have key : wpAny (model prog w) A (runValue (.builtin "len" ⟨[.ref x], []⟩)) (fun r s' => ∃ n t, r = .int n t ∧ Q (n != 0) s') E s := by
    refine wpAny_runValue (codeAny_builtin entry_len ?_)
    rw [Around.under_plainId plain_len _]
    exact wpAny_mono (lenO_body X I hs hf h) (fun fin s' h' => by obtain ⟨r, rfl, hq⟩ := h'; exact hq) fun _ _ e => e
  have hsp : ∀ {Q' : Option Value → Shared → Prop}, Q' (some (.ref f)) s → wpAny (model prog w) A (specialOf (.ref x) "__len__") Q' E s := fun q => by
    unfold specialOf
    exact wpAny_bind (I.type.here ((PySem.W.looks_findIn X hs).here q))
  unfold truthy
  refine wpAny_bind (m := callSpecial? (.ref x) (Str.ofString "__bool__")) (wpAny_bind (wpAny_bind (I.type.here ((PySem.W.looks_findIn X hb).here (wpAny_pure ?_)))))
  refine wpAny_bind (hsp ?_)
  show wpAny _ _ (if (some (Value.ref f)).isNone = true then _ else _) _ _ _
  rw [if_neg (by simp)]
  exact wpAny_bind (wpAny_mono key (fun r s' h' => by obtain ⟨n, t, rfl, hq⟩ := h'; exact wpAny_pure hq) fun _ _ e => e)
end
section
variable {X : Cx} {C f : Addr} {fd : FuncData} {ps : List Str} {sp : Sp} {k : Nat}
def rLenOwn (C : Addr) (sp : Sp) : List V → Hp → VK → Prop := fun xs H Q => ∃ (a dx : Addr) (fs : List (Str × V)), xs = [.ref a] ∧ H a = some (.ins C dx fs) ∧ sp [.ref a] H (fun v H' => ∃ n : Int, v = .int n ∧ 0 ≤ n ∧ n < 2 ^ 63 ∧ Q (.int n) H') E0
theorem call_lenOwn (F : FnOk X.prog X.w X.K X.mg X.base L2.CX0 k f fd ps sp) (hr : Room (k + 1) X.A) (hs : PySem.W.findIn X.K (.ref C) "__len__" = some (some (.ref f))) (hf : PySem.W.isFn X.K (.ref f) = true) (hb : Binds X.K fd ps []) : CallR X (.builtin "len") (rLenOwn C sp) := by
  intro pins s σ H xs us Q I r h
  obtain ⟨a, dx, fs, rfl, ea, h⟩ := h
  rw [Vals.ref1 r]
  obtain ⟨mA, O, _⟩ := ins_get I.hok ea
  obtain ⟨od, J, _⟩ := O.look
  obtain ⟨m, hF⟩ := I.fr
  have hl := F.len _ _ _ _ h
  refine PySem.W.len_K hF I.ok.mod.kin J hs hf (wpAny_call (codeAny_mono (F.run X.A.in1 X.stack s H ⟨[.ref a], []⟩ [.ref a] [.ref a] _ E0 hr.in1 I.env0.in1 (by
    have z := hb s [.ref a] I.kIn (by simpa using hl)
    simpa using z) (.cons rfl .nil) h) fun r s' hq => ?_))
  match r, hq with
  | .error e, hq => exact hq.elim
  | .ok (.ret u), hq =>
    obtain ⟨v, H', I', rv, n, ev, h0, h1, q⟩ := I.after hq
    rw [ev] at rv
    obtain ⟨t, rfl⟩ := (show ∃ t, u = Value.int n t from rv)
    exact ⟨⟨h0, h1⟩, .int n, H', I'.tok _, ⟨_, rfl⟩, q⟩
def rTruLen (C : Addr) (sp : Sp) : V → Hp → (Bool → Hp → Prop) → Prop := fun x H Q => ∃ (a dx : Addr) (fs : List (Str × V)), x = .ref a ∧ H a = some (.ins C dx fs) ∧ sp [.ref a] H (fun v H' => ∃ n : Int, v = .int n ∧ 0 ≤ n ∧ n < 2 ^ 63 ∧ Q (n != 0) H') E0
theorem tru_lenOwn (F : FnOk X.prog X.w X.K X.mg X.base L2.CX0 k f fd ps sp) (hr : Room (k + 1) X.A) (hs : PySem.W.findIn X.K (.ref C) "__len__" = some (some (.ref f))) (hbo : PySem.W.findIn X.K (.ref C) "__bool__" = some none) (hf : PySem.W.isFn X.K (.ref f) = true) (hb : Binds X.K fd ps []) : TruR X (rTruLen C sp) := by
  intro pins s σ H x v Q I r h
  obtain ⟨a, dx, fs, rfl, ea, h⟩ := h
  obtain rfl : v = Value.ref a := r
  obtain ⟨mA, O, _⟩ := ins_get I.hok ea
  obtain ⟨od, J, _⟩ := O.look
  have hl := F.len _ _ _ _ h
  refine lenO_truthy I.kIn J hs hbo hf (wpAny_call (codeAny_mono (F.run X.A.in1 X.stack s H ⟨[.ref a], []⟩ [.ref a] [.ref a] _ E0 hr.in1 I.env0.in1 (by
    have z := hb s [.ref a] I.kIn (by simpa using hl)
    simpa using z) (.cons rfl .nil) h) fun r s' hq => ?_))
  match r, hq with
  | .error e, hq => exact hq.elim
  | .ok (.ret u), hq =>
    obtain ⟨v, H', I', rv, n, ev, h0, h1, q⟩ := I.after hq
    rw [ev] at rv
    obtain ⟨t, rfl⟩ := (show ∃ t, u = Value.int n t from rv)
    exact ⟨⟨h0, h1⟩, n, _, rfl, H', I'.tok _, q⟩
def rTruBool (C : Addr) (sp : Sp) : V → Hp → (Bool → Hp → Prop) → Prop := fun x H Q => ∃ (a dx : Addr) (fs : List (Str × V)), x = .ref a ∧ H a = some (.ins C dx fs) ∧ sp [.ref a] H (fun v H' => ∃ b, v = .bl b ∧ Q b H') E0
theorem tru_boolOwn (F : FnOk X.prog X.w X.K X.mg X.base L2.CX0 k f fd ps sp) (hr : Room k X.A) (hs : PySem.W.findIn X.K (.ref C) "__bool__" = some (some (.ref f))) (hf : PySem.W.isFn X.K (.ref f) = true) (hb : Binds X.K fd ps []) : TruR X (rTruBool C sp) := by
  intro pins s σ H x v Q I r h
  obtain ⟨a, dx, fs, rfl, ea, h⟩ := h
  obtain rfl : v = Value.ref a := r
  obtain ⟨mA, O, _⟩ := ins_get I.hok ea
  obtain ⟨od, J, _⟩ := O.look
  obtain ⟨m, hF⟩ := I.fr
  have hl := F.len _ _ _ _ h
  refine PySem.W.truthy_K hF I.ok.mod.kin J hs hf (wpAny_call (codeAny_mono (F.run X.A X.stack s H ⟨[.ref a], []⟩ [.ref a] [.ref a] _ E0 hr I.env0 (by
    have z := hb s [.ref a] I.kIn (by simpa using hl)
    simpa using z) (.cons rfl .nil) h) fun r s' hq => ?_))
  match r, hq with
  | .error e, hq => exact hq.elim
  | .ok (.ret u), hq =>
    obtain ⟨v, H', I', rv, b, ev, q⟩ := I.after hq
    rw [ev] at rv
    obtain rfl : u = Value.bool b := rv
    exact ⟨H', I', q⟩
/-- not x, by a rule for the truth -/
theorem pe_notR {a : Expr} {ta : TE} {r : V → Hp → (Bool → Hp → Prop) → Prop} {pos : Pos} (ha : PE X a ta) (hr : TruR X r) : PE X (.UnaryOp .Not a pos) (fun σ H Q => ta σ H fun x H' => r x H' fun b H2 => Q (.bl (!b)) H2) := by
  refine ⟨fun pins s σ H Q I h => ?_⟩
  refine UnaryOp_ (thn (ha.run pins s σ H _ I h) fun v s1 ⟨x, H1, I1, r1, q1⟩ => ?_)
  exact not_of (thn (hr pins s1 σ H1 x v _ I1 r1 q1) fun c s2 ⟨H2, I2, q2⟩ => ⟨.bl (!c), H2, I2, rfl, q2⟩)
end
end L2.Tb
set_option Elab.async false
set_option linter.all false
set_option maxRecDepth 100000
set_option maxHeartbeats 8000000
namespace L2.K33
open PySem PySem.Spec PyProof.Rows L2.Tb
open SX (S)
abbrev s_check_kind : Stmt := top 30
abbrev N_check_kind : List Str := ["kind"]
theorem sc_check_kind : FnScope N_check_kind ["kind"] (defScope s_check_kind) := ⟨rfl, rfl, rfl, by decide +kernel, rfl, by decide +kernel, by decide +kernel⟩
/-- a kind, or what is none -/
def spCheck (K : PySem.W.Frag) (C CN : Addr) : Sp := fun vs H Q E => ∃ v : V, vs = [v] ∧
  ((∃ (a : Addr) (z : Str) (b : Bool), v = .ref a ∧ KindAt C H a z b ∧ Q .non H) ∨ (∃ t, TyX K H v t ∧ PySem.W.kitOne K t (.ref C) = some false ∧ ∀ d H', Same H H' → H d = none → H' d = some (.xd [("given", v)]) → E (.ref CN) (some d) H'))
section
variable {P : Program} {w : World} {K : PySem.W.Frag} {mg : Str → Option Value} {base : Heap} {f : Addr} {fd : FuncData} {C dL CT CF CN : Addr} {es : Array DictEntry} {n : Nat}
theorem c_check (T : Bt mg) (KF : KiF P w K mg base C dL CT CF es n) (KG : KiG K w mg C dL) (eN : ErC P w K mg base "NotAKind" "given" bVE CN) (tyN : PySem.W.typeIn K (.ref CN) = some (.type "type")) (F : FnP K "check_kind" s_check_kind f fd) : FnOk P w K mg base (L2.CX P w) 3 f fd ["kind"] (spCheck K C CN) := by
  have hnd := sc_check_kind.nd
  refine F.ok sc_check_kind (fun vs H Q E h => ?_) (fun cdv A outer s H vs Q E hr h => ?_)
  · obtain ⟨v, rfl, _⟩ := h
    rfl
  · obtain ⟨v, rfl, h⟩ := h
    refine ⟨_, (pss_one (ps_if (pt_not (pt_val (pe_callB call_isi (by rfl) T.m_isinstance (by decide +kernel) (pa_cons (pv 0) (pa_cons (pe_glob (v := .ref C) (by rfl) KF.mgC rfl) pa_nil)))))
      (pss_one (ps_raise (by rfl) (takes_of rfl rfl rfl rfl) (pmk_er eN tyN hr (by omega) (by rfl) (pv 0))))
      pss_nil)), ?_⟩
    rcases h with ⟨a, z, b, rfl, ⟨dx, e⟩, q⟩ | ⟨t, ty, kn, q⟩
    · exact ⟨_, rfl, _, _, _, _, _, rfl, .own C, .base (.ins e KF.cls KG.ex.ha KG.ex.hn KG.ex.ht KG.ex.hm), KG.self, true, rfl, iteF q⟩
    · exact ⟨_, rfl, _, _, _, _, _, rfl, .own C, ty, kn, false, rfl, iteT ⟨_, rfl, q⟩⟩
end
abbrev s_sinit : Stmt := inClass (top 44) 0
abbrev N_sinit : List Str := ["self", "kind", "boxes", "rows"]
theorem sc_sinit : FnScope N_sinit ["self", "kind", "boxes", "rows"] (defScope s_sinit) := ⟨rfl, rfl, rfl, by decide +kernel, rfl, by decide +kernel, by decide +kernel⟩
abbrev s_skind : Stmt := inClass (top 44) 2
abbrev N_skind : List Str := ["self"]
theorem sc_skind : FnScope N_skind ["self"] (defScope s_skind) := ⟨rfl, rfl, rfl, by decide +kernel, rfl, by decide +kernel, by decide +kernel⟩
abbrev s_sboxes : Stmt := inClass (top 44) 3
abbrev N_sboxes : List Str := ["self"]
theorem sc_sboxes : FnScope N_sboxes ["self"] (defScope s_sboxes) := ⟨rfl, rfl, rfl, by decide +kernel, rfl, by decide +kernel, by decide +kernel⟩
abbrev s_srows : Stmt := inClass (top 44) 4
abbrev N_srows : List Str := ["self"]
theorem sc_srows : FnScope N_srows ["self"] (defScope s_srows) := ⟨rfl, rfl, rfl, by decide +kernel, rfl, by decide +kernel, by decide +kernel⟩
abbrev s_slen : Stmt := inClass (top 44) 7
abbrev N_slen : List Str := ["self"]
theorem sc_slen : FnScope N_slen ["self"] (defScope s_slen) := ⟨rfl, rfl, rfl, by decide +kernel, rfl, by decide +kernel, by decide +kernel⟩
abbrev s_seq : Stmt := inClass (top 44) 8
abbrev N_seq : List Str := ["self", "other"]
theorem sc_seq : FnScope N_seq ["self", "other"] (defScope s_seq) := ⟨rfl, rfl, rfl, by decide +kernel, rfl, by decide +kernel, by decide +kernel⟩
abbrev s_sstr : Stmt := inClass (top 44) 9
abbrev N_sstr : List Str := ["self"]
theorem sc_sstr : FnScope N_sstr ["self"] (defScope s_sstr) := ⟨rfl, rfl, rfl, by decide +kernel, rfl, by decide +kernel, by decide +kernel⟩
/-! ### scripts -/
structure Scr where
  knd : Str × Bool
  nms : List (List Nat)
  rws : List (List Nat)
deriving DecidableEq
def Scr.steps (d : Scr) : List RSt := readAll d.nms d.rws.length 0 (d.rws.map some)
def scF (T tk bx rw : V) : List (Str × V) := [("_steps", T), ("_kind", tk), ("_boxes", bx), ("_rows", rw)]
def ScAt (C SC : Addr) (H : Hp) (a : Addr) (d : Scr) : Prop := ∃ (dx T tk bx rw : Addr) (ts : List Addr), H a = some (.ins SC dx (scF (.ref T) (.ref tk) (.ref bx) (.ref rw))) ∧ KindAt C H tk d.knd.1 d.knd.2 ∧ H bx = some (.tup (d.nms.map nmV)) ∧
  H rw = some (.tup (d.rws.map nmV)) ∧ H T = some (.tup (ts.map V.ref)) ∧ Paired (fun t st => RStAt H t st) ts d.steps
theorem ScAt.same {C SC : Addr} {H H' : Hp} {a : Addr} {d : Scr} (h : ScAt C SC H a d) (s : Same H H') : ScAt C SC H' a d := by
  obtain ⟨dx, T, tk, bx, rw, ts, h1, h2, h3, h4, h5, h6⟩ := h
  exact ⟨dx, T, tk, bx, rw, ts, s _ _ h1, h2.same s, s _ _ h3, s _ _ h4, s _ _ h5, paired_imp (fun _ _ z => RStAt.same z s) h6⟩
/-- of right sizes -/
structure ScOk (d : Scr) : Prop where
  knd : wordsD.contains d.knd.1 = true
  nmsL : d.nms.length ≤ 6
  nms : ∀ l ∈ d.nms, l.length ≤ 8
  rwsL : d.rws.length ≤ 99
  rws : ∀ l ∈ d.rws, l.length ≤ 10000
  nmsA : ∀ l ∈ d.nms, AsciiL l
  rwsA : ∀ l ∈ d.rws, AsciiL l
def scPage (d : Scr) : List Nat := TL.joinL [10] (cds (kindS d.knd.1 d.knd.2) :: TL.joinL [32] d.nms :: d.rws)
def ErrG (H : Hp) (C : Addr) (E : XK) (v : V) : Prop := ∀ d H', Same H H' → H d = none → H' d = some (.xd [("given", v)]) → E (.ref C) (some d) H'
theorem ErrG.same {H H1 : Hp} {C : Addr} {E : XK} {v : V} (h : ErrG H C E v) (s : Same H H1) : ErrG H1 C E v := fun d H' s2 n e => h d H' (s.trans s2) (none_back s n) e
/-- what is known of the kinds here -/
structure KiS (P : Program) (w : World) (K : PySem.W.Frag) (mg : Str → Option Value) (base : Heap) (C dL CT CF CX CN : Addr) (es : Array DictEntry) (n : Nat) : Prop where
  mstr : mg "str" = none
  kf : KiF P w K mg base C dL CT CF es n
  kg : KiG K w mg C dL
  mkr : ∃ fi fdi, Mk K C fi ∧ FnOk P w K mg base (L2.CX P w) 3 fi fdi ["self", "turns", "calm"] (spKinit K C CT CF) ∧ KBn K fdi ["self", "turns", "calm"] 2 ["calm"] (fun us ws => us ++ ws) (fun us ws => us ++ ws)
  str : ∃ f fd, PySem.W.findIn K (.ref C) "__str__" = some (some (.ref f)) ∧ PySem.W.isFn K (.ref f) = true ∧ FnOk P w K mg base L2.CX0 1 f fd ["self"] (spKstr C) ∧ Binds K fd ["self"] []
  eq : ∃ f fd, PySem.W.findIn K (.ref C) "__eq__" = some (some (.ref f)) ∧ PySem.W.isFn K (.ref f) = true ∧ FnOk P w K mg base L2.CX0 1 f fd ["self", "other"] (spKeq K C) ∧ Binds K fd ["self", "other"] []
  ne : PySem.W.findIn K (.ref C) "__ne__" = some (some (.builtin "object.__ne__"))
  rd : ∃ mc p g fd, ClX.CRead K C mc ∧ ClX.CMet K C mc "read" p g ∧ FnOk P w K mg base (L2.CX P w) 5 g fd ["cls", "text"] (spKread K C CX) ∧ FnR P w K mg base (L2.CX P w) 5 g (spKread K C CX)
/-- the class Script -/
structure ScF (K : PySem.W.Frag) (mg : Str → Option Value) (SC : Addr) : Prop where
  mgS : mg "Script" = some (.ref SC)
  cls : Cls K SC
  noS : NoAttr K SC "_steps"
  noK : NoAttr K SC "_kind"
  noB : NoAttr K SC "_boxes"
  noR : NoAttr K SC "_rows"
  ex : InsC K SC
  self : PySem.W.kitOne K (.ref SC) (.ref SC) = some true
def spSinit (K : PySem.W.Frag) (C SC CN CI CR : Addr) : Sp := fun vs H Q E => ∃ (a dx : Addr) (vk vb vr : V), vs = [.ref a, vk, vb, vr] ∧ H a = some (.ins SC dx []) ∧
  ((∃ t, TyX K H vk t ∧ PySem.W.kitOne K t (.ref C) = some false ∧ ErrG H CN E vk) ∨
   (∃ (tk : Addr) (z : Str) (b : Bool) (rb : Option (List (Option (List Nat)))), vk = .ref tk ∧ KindAt C H tk z b ∧ BoxV K H vb rb ∧
    ((∃ i, boxesF rb = some i ∧ ErrI H CI E i) ∨
     (∃ (ls : List (List Nat)) (rr : Option (List (Option (List Nat)))), rb = some (ls.map some) ∧ boxesF rb = none ∧ BoxV K H vr rr ∧ (∀ rs, rr = some rs → rs.length ≤ 99 ∧ ∀ l, some l ∈ rs → AsciiL l) ∧
      ((∃ i, rowsFault ls rr = some i ∧ ErrI H CR E i) ∨
       (∃ rws, rr = some (rws.map some) ∧ rowsFault ls rr = none ∧ ∀ H', SameB a H H' → ScAt C SC H' a ⟨(z, b), ls, rws⟩ → Q .non H'))))))
theorem paired_all {K : PySem.W.Frag} {H : Hp} {ls : List (List Nat)} {xs : List V} (p : Paired (TxV K H) xs (ls.map some)) : xs = ls.map nmV := by
  have := paired_names (pre := ls) p (by rw [← List.length_map (f := some) (as := ls), List.take_length])
  rwa [← List.length_map (f := some) (as := ls), ← p.length, List.take_length] at this
theorem KindAt.sameB {C a : Addr} {H H' : Hp} {t : Addr} {z : Str} {b : Bool} {C2 dx2 : Addr} {fs : List (Str × V)} (h : KindAt C H t z b) (e : H a = some (.ins C2 dx2 fs)) (hf : fs = []) (s : SameB a H H') : KindAt C H' t z b := by
  obtain ⟨dx, h⟩ := h
  refine ⟨dx, s _ _ (fun q => ?_) h⟩
  rw [q, e, hf] at h
  have h := Option.some.inj h
  injection h with _ _ h
  cases h
section
variable {P : Program} {w : World} {K : PySem.W.Frag} {mg : Str → Option Value} {base : Heap} {f : Addr} {fd : FuncData} {C dL CT CF CX CN SC CI CR : Addr} {es : Array DictEntry} {n : Nat}
theorem c_sinit (T : Bt mg) (SF : ScF K mg SC) (x_check_kind : CalX P w K mg base 3 "check_kind" (spCheck K C CN)) (x_check_boxes : CalX P w K mg base 4 "check_boxes" (spCheckBoxes K CI)) (x_read_rows : CalX P w K mg base 4 "read_rows" (spReadRows K CR))
    (F : FunD K "__init__" "Script.__init__" (defArgs s_sinit) (defBody s_sinit) (defScope s_sinit) [] [] f fd) : FnOk P w K mg base (L2.CX P w) 5 f fd ["self", "kind", "boxes", "rows"] (spSinit K C SC CN CI CR) := by
  have hnd := sc_sinit.nd
  refine F.ok sc_sinit (fun vs H Q E h => ?_) (fun cdv A outer s H vs Q E hr h => ?_)
  · obtain ⟨a, dx, vk, vb, vr, rfl, _⟩ := h
    rfl
  · obtain ⟨a, dx, vk, vb, vr, rfl, ea, h⟩ := h
    refine ⟨_, (pss_cons (ps_expr (pe_calX x_check_kind hr (by omega) (by rfl) (passes_call (takes_of rfl rfl rfl rfl) (fun _ _ _ _ h => h)) (pa_cons (pv 1) pa_nil)))
      (pss_cons (ps_expr (pe_calX x_check_boxes hr (by omega) (by rfl) (passes_call (takes_of rfl rfl rfl rfl) (fun _ _ _ _ h => h)) (pa_cons (pv 2) pa_nil)))
      (pss_cons (ps_fld (pv 0) (pe_calX x_read_rows hr (by omega) (by rfl) (passes_call (takes_of rfl rfl rfl rfl) (fun _ _ _ _ h => h)) (pa_cons (pv 3) (pa_cons (pv 2) pa_nil))) (by rfl))
      (pss_cons (ps_fld (pv 0) (pv 1) (by rfl))
      (pss_cons (ps_fld (pv 0) (pv 2) (by rfl))
      (pss_one (ps_fld (pv 0) (pv 3) (by rfl)))))))), ?_⟩
    rcases h with ⟨t, ty, kn, q⟩ | ⟨tk, z, b, rb, rfl, ek, bx, h⟩
    · exact ⟨_, rfl, vk, rfl, .inr ⟨t, ty, kn, q⟩⟩
    · refine ⟨_, rfl, _, rfl, .inl ⟨tk, z, b, rfl, ek, ?_⟩⟩
      rcases h with ⟨i, hi, q⟩ | ⟨ls, rr, rfl, hn, br, ha, h⟩
      · exact ⟨_, rfl, vb, rb, rfl, bx, by rw [hi]; exact q⟩
      · refine ⟨_, rfl, vb, _, rfl, bx, ?_⟩
        rw [hn]
        intro H1 s1
        obtain ⟨N, xs, rfl, eN, pN, _⟩ := bx
        rw [paired_all pN] at eN
        refine ⟨_, rfl, _, rfl, vr, rr, N, ls, rfl, br.same s1, ha, s1 _ _ eN, ?_⟩
        rcases h with ⟨i, hi, q⟩ | ⟨rws, rfl, hr9, q⟩
        · rw [hi]
          exact ErrI.same q s1
        · rw [hr9]
          intro Tt ts rs H2 hrs s2 eT pT
          cases hrs
          obtain ⟨R, ys, rfl, eR, pR, _⟩ := br
          rw [paired_all pR] at eR
          rw [List.length_map] at pT
          have s3 := s1.trans s2
          have ea3 := s3 _ _ ea
          refine ⟨_, rfl, a, SC, dx, _, rfl, ea3, SF.cls, SF.noS, by decide, ?_⟩
          refine ⟨_, rfl, _, rfl, a, SC, dx, _, rfl, upd_same, SF.cls, SF.noK, Nat.le_of_ble_eq_true rfl, ?_⟩
          refine ⟨_, rfl, _, rfl, a, SC, dx, _, rfl, upd_same, SF.cls, SF.noB, Nat.le_of_ble_eq_true rfl, ?_⟩
          refine ⟨_, rfl, _, rfl, a, SC, dx, _, rfl, upd_same, SF.cls, SF.noR, Nat.le_of_ble_eq_true rfl, ?_⟩
          have keep : ∀ (G : Hp) (o1 o2 o3 o4 : HO) b o, b ≠ a → G b = some o → (upd (upd (upd (upd G a o1) a o2) a o3) a o4) b = some o := fun G o1 o2 o3 o4 b o nb e => by
            rw [upd_ne nb, upd_ne nb, upd_ne nb, upd_ne nb]
            exact e
          have tupA : ∀ {b xs}, H2 b = some (.tup xs) → b ≠ a := fun {b xs} e q => by
            rw [q, ea3] at e
            cases e
          refine q _ (fun b o nb e => keep _ _ _ _ _ _ _ nb (s3 _ _ e)) ⟨dx, Tt, tk, N, R, ts, upd_same, ?_, keep _ _ _ _ _ _ _ (tupA (s3 _ _ eN)) (s3 _ _ eN), keep _ _ _ _ _ _ _ (tupA (s3 _ _ eR)) (s3 _ _ eR), keep _ _ _ _ _ _ _ (tupA eT) eT, ?_⟩
          · exact (ek.same s3).sameB ea3 rfl fun b o nb e => keep _ _ _ _ _ _ _ nb e
          · refine paired_imp (fun t st h => ?_) pT
            obtain ⟨nt, h1, h2⟩ := h
            exact ⟨nt, keep _ _ _ _ _ _ _ (tupA h1) h1, keep _ _ _ _ _ _ _ (tupA h2) h2⟩
end
end L2.K33
set_option Elab.async false
set_option linter.all false
set_option maxRecDepth 100000
set_option maxHeartbeats 8000000
namespace L2.K33
open PySem PySem.Spec PyProof.Rows L2.Tb
open SX (S)
/-! ### texts as data -/
def nmD (l : List Nat) : PyData := .str (S l)
theorem names_dp {K : PySem.W.Frag} {H : Hp} : ∀ ls : List (List Nat), DpAll K H (ls.map nmV) (ls.map nmD)
  | [] => .nil
  | l :: ls => .cons (.str _) (names_dp ls)
theorem names_eqv : ∀ a b : List (List Nat), PyData.eqvAll (a.map nmD) (b.map nmD) = decide (a = b)
  | [], [] => by simp [PyData.eqvAll]
  | [], _ :: _ => by simp [PyData.eqvAll]
  | _ :: _, [] => by simp [PyData.eqvAll]
  | x :: a, y :: b => by
    have ih := names_eqv a b
    have e : PyData.eqv (nmD x) (nmD y) = decide (x = y) := by
      unfold nmD
      simp only [PyData.eqv]
      exact SX.S_beq_eq
    simp only [List.map_cons, PyData.eqvAll, e, ih, List.cons.injEq]
    by_cases h1 : x = y <;> by_cases h2 : a = b <;> simp [h1, h2]
theorem strOk_A {l : List Nat} (h : AsciiL l) : PyData.strOk (S l) = true := by
  unfold PyData.strOk
  rw [← Array.all_toList]
  exact List.all_eq_true.mpr fun c hc => decide_eq_true (Nat.lt_trans (h c hc) (by decide))
theorem names_lay : ∀ ls : List (List Nat), (∀ l ∈ ls, AsciiL l) → PyData.canLayAll0 (ls.map nmD) = true
  | [], _ => by simp [PyData.canLayAll0]
  | l :: ls, h => by simp [PyData.canLayAll0, nmD, PyData.canLay0, names_lay ls fun x hx => h x (List.mem_cons_of_mem _ hx), strOk_A (h l List.mem_cons_self)]
theorem names_depth : ∀ ls : List (List Nat), PyData.depthAll (ls.map nmD) = 0
  | [] => by simp [PyData.depthAll]
  | l :: ls => by simp [PyData.depthAll, nmD, PyData.depth, names_depth ls]
theorem names_shaped {ls : List (List Nat)} (h : ∀ l ∈ ls, AsciiL l) : SeqAt.shaped (.tuple (ls.map nmD)) = true := by
  show (PyData.canLay0 (.tuple (ls.map nmD)) && decide (PyData.depth (.tuple (ls.map nmD)) ≤ 64)) = true
  rw [Bool.and_eq_true]
  exact ⟨by simp only [PyData.canLay0]; exact names_lay ls h, decide_eq_true (by have := names_depth ls; simp only [PyData.depth]; omega)⟩
theorem tup_eqv (a b : List (List Nat)) : PyData.eqv (.tuple (a.map nmD)) (.tuple (b.map nmD)) = decide (a = b) := by
  simp only [PyData.eqv]
  exact names_eqv a b
/-! ### promises -/
def spSkind (C SC : Addr) : Sp := fun vs H Q _ => ∃ (a : Addr) (d : Scr), vs = [.ref a] ∧ ScAt C SC H a d ∧ ∀ tk, KindAt C H tk d.knd.1 d.knd.2 → Q (.ref tk) H
def spSboxes (C SC : Addr) : Sp := fun vs H Q _ => ∃ (a : Addr) (d : Scr), vs = [.ref a] ∧ ScAt C SC H a d ∧ ∀ bx, H bx = some (.tup (d.nms.map nmV)) → Q (.ref bx) H
def spSrows (C SC : Addr) : Sp := fun vs H Q _ => ∃ (a : Addr) (d : Scr), vs = [.ref a] ∧ ScAt C SC H a d ∧ ∀ rw, H rw = some (.tup (d.rws.map nmV)) → Q (.ref rw) H
def spSlen (C SC : Addr) : Sp := fun vs H Q _ => ∃ (a : Addr) (d : Scr), vs = [.ref a] ∧ ScAt C SC H a d ∧ Q (.int (d.rws.length : Nat)) H
def spSeq (K : PySem.W.Frag) (C SC : Addr) : Sp := fun vs H Q _ => ∃ (a : Addr) (d : Scr) (y : V), vs = [.ref a, y] ∧ ScAt C SC H a d ∧ ScOk d ∧
  ((∃ (c : Addr) (d2 : Scr), y = .ref c ∧ ScAt C SC H c d2 ∧ ScOk d2 ∧ Q (.bl (decide (d = d2))) H) ∨ (∃ t, TyX K H y t ∧ PySem.W.kitOne K t (.ref SC) = some false ∧ Q (.bl false) H))
def spSstr (C SC : Addr) : Sp := fun vs H Q _ => ∃ (a : Addr) (d : Scr), vs = [.ref a] ∧ ScAt C SC H a d ∧ ScOk d ∧ ∀ H', Same H H' → Q (.str (S (scPage d))) H'
theorem nameB_ascii {l : List Nat} (h : nameB l = true) : AsciiL l := by
  cases l with
  | nil => exact fun c hc => by cases hc
  | cons a r =>
    simp only [nameB, lowB, Bool.and_eq_true, Nat.ble_eq] at h
    intro c hc
    rcases List.mem_cons.mp hc with rfl | hc
    · omega
    · have := List.all_eq_true.mp h.2.2 c hc
      simp only [signB, lowB, Bool.or_eq_true, Bool.and_eq_true, Nat.ble_eq] at this
      omega
theorem words_len : ∀ z ∈ wordsD, z.length ≤ 10 ∧ (kindS z true).length ≤ 20 ∧ (kindS z false).length ≤ 20 := by decide +kernel
theorem kindS_len {z : Str} (h : wordsD.contains z = true) (b : Bool) : z.length ≤ 10 ∧ (kindS z b).length ≤ 20 := by
  obtain ⟨a, b1, b2⟩ := words_len z (List.contains_iff_mem.mp h)
  exact ⟨a, by cases b <;> assumption⟩
section
variable {P : Program} {w : World} {K : PySem.W.Frag} {mg : Str → Option Value} {base : Heap} {f : Addr} {fd : FuncData} {C dL CT CF CX CN SC : Addr} {es : Array DictEntry} {n : Nat}
theorem c_skind (SF : ScF K mg SC) (F : FunD K "kind" "Script.kind" (defArgs s_skind) (defBody s_skind) (defScope s_skind) [] [] f fd) : FnOk P w K mg base L2.CX0 1 f fd ["self"] (spSkind C SC) := by
  have hnd := sc_skind.nd
  refine F.ok sc_skind (fun vs H Q E h => ?_) (fun cdv A outer s H vs Q E hr h => ?_)
  · obtain ⟨a, d, rfl, _⟩ := h
    rfl
  · obtain ⟨a, d, rfl, ⟨dx, Tt, tk, bx, rw_, ts, h1, h2, h3, h4, h5, h6⟩, q⟩ := h
    exact ⟨_, (pss_one (ps_ret (pe_fld (pv 0) (by rfl)))), _, rfl, a, SC, dx, _, _, rfl, h1, SF.cls, SF.noK, rfl, q tk h2⟩
theorem c_sboxes (SF : ScF K mg SC) (F : FunD K "boxes" "Script.boxes" (defArgs s_sboxes) (defBody s_sboxes) (defScope s_sboxes) [] [] f fd) : FnOk P w K mg base L2.CX0 1 f fd ["self"] (spSboxes C SC) := by
  have hnd := sc_sboxes.nd
  refine F.ok sc_sboxes (fun vs H Q E h => ?_) (fun cdv A outer s H vs Q E hr h => ?_)
  · obtain ⟨a, d, rfl, _⟩ := h
    rfl
  · obtain ⟨a, d, rfl, ⟨dx, Tt, tk, bx, rw_, ts, h1, h2, h3, h4, h5, h6⟩, q⟩ := h
    exact ⟨_, (pss_one (ps_ret (pe_fld (pv 0) (by rfl)))), _, rfl, a, SC, dx, _, _, rfl, h1, SF.cls, SF.noB, rfl, q bx h3⟩
theorem c_srows (SF : ScF K mg SC) (F : FunD K "rows" "Script.rows" (defArgs s_srows) (defBody s_srows) (defScope s_srows) [] [] f fd) : FnOk P w K mg base L2.CX0 1 f fd ["self"] (spSrows C SC) := by
  have hnd := sc_srows.nd
  refine F.ok sc_srows (fun vs H Q E h => ?_) (fun cdv A outer s H vs Q E hr h => ?_)
  · obtain ⟨a, d, rfl, _⟩ := h
    rfl
  · obtain ⟨a, d, rfl, ⟨dx, Tt, tk, bx, rw_, ts, h1, h2, h3, h4, h5, h6⟩, q⟩ := h
    exact ⟨_, (pss_one (ps_ret (pe_fld (pv 0) (by rfl)))), _, rfl, a, SC, dx, _, _, rfl, h1, SF.cls, SF.noR, rfl, q rw_ h4⟩
theorem c_slen (T : Bt mg) (SF : ScF K mg SC) (F : FunD K "__len__" "Script.__len__" (defArgs s_slen) (defBody s_slen) (defScope s_slen) [] [] f fd) : FnOk P w K mg base L2.CX0 1 f fd ["self"] (spSlen C SC) := by
  have hnd := sc_slen.nd
  refine F.ok sc_slen (fun vs H Q E h => ?_) (fun cdv A outer s H vs Q E hr h => ?_)
  · obtain ⟨a, d, rfl, _⟩ := h
    rfl
  · obtain ⟨a, d, rfl, ⟨dx, Tt, tk, bx, rw_, ts, h1, h2, h3, h4, h5, h6⟩, q⟩ := h
    refine ⟨_, (pss_one (ps_ret (pe_callB call_len_seq (by rfl) T.m_len (by decide +kernel) (pa_cons (pe_fld (pv 0) (by rfl)) pa_nil)))), _, rfl, a, SC, dx, _, _, rfl, h1, SF.cls, SF.noR, rfl, rw_, _, rfl, .inr (SqT.of h4), ?_⟩
    rw [List.length_map]
    exact q
theorem c_seq (T : Bt mg) (SF : ScF K mg SC) (KS : KiS P w K mg base C dL CT CF CX CN es n) (F : FunD K "__eq__" "Script.__eq__" (defArgs s_seq) (defBody s_seq) (defScope s_seq) [] [] f fd) : FnOk P w K mg base L2.CX0 2 f fd ["self", "other"] (spSeq K C SC) := by
  have hnd := sc_seq.nd
  obtain ⟨fe, fde, he, hef, Fe, Be⟩ := KS.eq
  refine F.ok sc_seq (fun vs H Q E h => ?_) (fun cdv A outer s H vs Q E hr h => ?_)
  · obtain ⟨a, d, y, rfl, _⟩ := h
    rfl
  · obtain ⟨a, d, y, rfl, ⟨dx, Tt, tk, bx, rw_, ts, h1, h2, h3, h4, h5, h6⟩, ok1, q⟩ := h
    refine ⟨_, (pss_one (ps_ret (pe_and (pe_callB call_isi (by rfl) T.m_isinstance (by decide +kernel) (pa_cons (pv 1) (pa_cons (pe_glob (v := .ref SC) (by rfl) SF.mgS rfl) pa_nil))) (pe_and (pe_cmpR (show OpR _ (compareOp .Eq) (rOwnEq K C (spKeq K C)) from op_ownEq Fe (hr.mono (by omega)) he hef Be) (pe_fld (pv 0) (by rfl)) (pe_fld (pv 1) (by rfl)) (nomark _)) (pe_and (pe_cmpR (op_eqD hr.units) (pe_fld (pv 0) (by rfl)) (pe_fld (pv 1) (by rfl)) (nomark _)) (pe_one (pe_cmpR (op_eqD hr.units) (pe_fld (pv 0) (by rfl)) (pe_fld (pv 1) (by rfl)) (nomark _)))))))), ?_⟩
    rcases q with ⟨c, d2, rfl, ⟨dx2, Tt2, tk2, bx2, rw2, ts2, g1, g2, g3, g4, g5, g6⟩, ok2, q⟩ | ⟨t, ty, kn, q⟩
    · have hd : decide (d = d2) = ((decide (d.knd.1 = d2.knd.1) && decide (d.knd.2 = d2.knd.2)) && (decide (d.nms = d2.nms) && decide (d.rws = d2.rws))) := by
        obtain ⟨⟨k1, k2⟩, n1, r1⟩ := d
        obtain ⟨⟨k3, k4⟩, n2, r2⟩ := d2
        simp only [Scr.mk.injEq, Prod.mk.injEq]
        by_cases a1 : k1 = k3 <;> by_cases a2 : k2 = k4 <;> by_cases a3 : n1 = n2 <;> by_cases a4 : r1 = r2 <;> simp [a1, a2, a3, a4]
      refine ⟨_, rfl, _, _, _, _, _, rfl, .own SC, .base (.ins g1 SF.cls SF.ex.ha SF.ex.hn SF.ex.ht SF.ex.hm), SF.self, true, rfl, iteT ?_⟩
      obtain ⟨dk, ek⟩ := id h2
      obtain ⟨dk2, ek2⟩ := id g2
      refine ⟨_, rfl, a, SC, dx, _, _, rfl, h1, SF.cls, SF.noK, rfl, _, rfl, c, SC, dx2, _, _, rfl, g1, SF.cls, SF.noK, rfl, tk, dk, _, _, rfl, ek, .base (.ins ek2 KS.kf.cls KS.kg.ex.ha KS.kg.ex.hn KS.kg.ex.ht KS.kg.ex.hm), ?_, ?_⟩
      · simp [PySem.W.notFirst]
      · refine ⟨tk, d.knd.1, d.knd.2, _, rfl, h2, .inl ⟨tk2, d2.knd.1, d2.knd.2, rfl, g2, ?_⟩⟩
        refine ⟨_, rfl, ?_⟩
        rw [hd] at q
        cases c1 : (decide (d.knd.1 = d2.knd.1) && decide (d.knd.2 = d2.knd.2)) with
        | false =>
          rw [c1, Bool.false_and] at q
          exact iteF q
        | true =>
          rw [c1, Bool.true_and] at q
          refine iteT ⟨_, rfl, a, SC, dx, _, _, rfl, h1, SF.cls, SF.noB, rfl, _, rfl, c, SC, dx2, _, _, rfl, g1, SF.cls, SF.noB, rfl, _, _, .tup (SqT.of h3) (names_dp _), .tup (SqT.of g3) (names_dp _), names_shaped ok1.nmsA, names_shaped ok2.nmsA, _, rfl, ?_⟩
          rw [tup_eqv]
          cases c2 : decide (d.nms = d2.nms) with
          | false =>
            rw [c2, Bool.false_and] at q
            exact iteF q
          | true =>
            rw [c2, Bool.true_and] at q
            refine iteT ⟨_, rfl, a, SC, dx, _, _, rfl, h1, SF.cls, SF.noR, rfl, _, rfl, c, SC, dx2, _, _, rfl, g1, SF.cls, SF.noR, rfl, _, _, .tup (SqT.of h4) (names_dp _), .tup (SqT.of g4) (names_dp _), names_shaped ok1.rwsA, names_shaped ok2.rwsA, ?_⟩
            rw [tup_eqv]
            exact q
    · exact ⟨_, rfl, _, _, _, _, _, rfl, .own SC, ty, kn, false, rfl, iteF q⟩
theorem c_sstr (SF : ScF K mg SC) (KS : KiS P w K mg base C dL CT CF CX CN es n) (F : FunD K "__str__" "Script.__str__" (defArgs s_sstr) (defBody s_sstr) (defScope s_sstr) [] [] f fd) : FnOk P w K mg base L2.CX0 4 f fd ["self"] (spSstr C SC) := by
  have hnd := sc_sstr.nd
  have mstr := KS.mstr
  obtain ⟨fs, fds, hs, hsf, Fs, Bs⟩ := KS.str
  refine F.ok sc_sstr (fun vs H Q E h => ?_) (fun cdv A outer s H vs Q E hr h => ?_)
  · obtain ⟨a, d, rfl, _⟩ := h
    rfl
  · obtain ⟨a, d, rfl, ⟨dx, Tt, tk, bx, rw_, ts, h1, h2, h3, h4, h5, h6⟩, ok, q⟩ := h
    refine ⟨_, (pss_one (ps_ret (pe_join pe_str (pe_lst (pa_cons (pe_callTy (call_strOwn Fs (hr.mono (by omega)) hs hsf Bs) (by rfl) mstr (by decide +kernel) (pa_cons (pe_fld (pv 0) (by rfl)) pa_nil)) (pa_cons (pe_join pe_str (pe_fld (pv 0) (by rfl))) (StX.pa_star (pe_fld (pv 0) (by rfl)) pa_nil))))))), ?_⟩
    obtain ⟨dk, ek⟩ := id h2
    obtain ⟨z10, k20⟩ := kindS_len ok.knd d.knd.2
    have map2 : ∀ l : List (List Nat), l.map nmV = (l.map S).map V.str := fun l => by rw [List.map_map]; rfl
    have n8 : ((d.nms.map S).map (·.length)).sum ≤ 6 * 8 := by
      refine Nat.le_trans (sum_le (B := 8) fun x hx => ?_) ?_
      · simp only [List.map_map, List.mem_map, Function.comp] at hx
        obtain ⟨l, hl, rfl⟩ := hx
        rw [SX.S_len]
        exact ok.nms l hl
      · rw [List.length_map, List.length_map]
        exact Nat.mul_le_mul_right _ ok.nmsL
    refine ⟨⟨_, rfl⟩, _, rfl, a, SC, dx, _, _, rfl, h1, SF.cls, SF.noK, rfl, tk, dk, _, rfl, ek, ⟨tk, d.knd.1, d.knd.2, rfl, h2, by omega, _, rfl, ?_⟩⟩
    refine ⟨⟨_, rfl⟩, _, rfl, a, SC, dx, _, _, rfl, h1, SF.cls, SF.noB, rfl, _, bx, d.nms.map S, rfl, rfl, .inr (SqT.of (by rw [h3, map2])), ?_, ?_⟩
    · rw [List.length_map, show (Str.ofString " ").length = 1 by decide +kernel]
      have := ok.nmsL
      omega
    · rw [show (Str.ofString " ") = S [32] from by decide +kernel, SX.join_S]
      refine ⟨_, rfl, a, SC, dx, _, _, rfl, h1, SF.cls, SF.noR, rfl, rw_, _, rfl, .inl (SqT.of h4), ?_⟩
      have rl := ok.rwsL
      refine ⟨?_, fun L nL => ?_⟩
      · rw [sizeLine_eq]
        simp only [List.length_cons, List.length_append, List.length_map, List.length_nil]
        omega
      · have hl : (V.str (kindS d.knd.1 d.knd.2) :: V.str (S (TL.joinL [32] d.nms)) :: (d.rws.map nmV ++ [])) = ((cds (kindS d.knd.1 d.knd.2) :: TL.joinL [32] d.nms :: d.rws).map S).map V.str := by
          rw [List.append_nil]
          simp only [List.map_cons, cds_S]
          rw [← map2]
        refine ⟨_, L, (cds (kindS d.knd.1 d.knd.2) :: TL.joinL [32] d.nms :: d.rws).map S, rfl, rfl, .inl (SqL.of (by rw [upd_same, ← hl])), ?_, ?_⟩
        · have j48 : (TL.joinL [32] d.nms).length ≤ 6 * 9 := Nat.le_trans (join_len (B := 8) _ ok.nms) (Nat.mul_le_mul_right _ ok.nmsL)
          have b1 : (((cds (kindS d.knd.1 d.knd.2) :: TL.joinL [32] d.nms :: d.rws).map S).map (·.length)).sum ≤ 101 * 10000 := by
            refine Nat.le_trans (sum_le (B := 10000) fun x hx => ?_) ?_
            · simp only [List.map_map, List.mem_map, Function.comp] at hx
              obtain ⟨l, hl, rfl⟩ := hx
              rw [SX.S_len]
              rcases List.mem_cons.mp hl with rfl | hl
              · rw [cds_len]
                omega
              · rcases List.mem_cons.mp hl with rfl | hl
                · omega
                · exact ok.rws l hl
            · simp only [List.length_map, List.length_cons]
              exact Nat.mul_le_mul_right _ (by omega)
          rw [List.length_map, show (Str.ofString "\n").length = 1 by decide +kernel]
          simp only [List.length_cons]
          omega
        · rw [show (Str.ofString "\n") = S [10] from by decide +kernel, SX.join_S]
          exact q _ (same_new nL)
end
end L2.K33
set_option Elab.async false
set_option linter.all false
set_option maxRecDepth 100000
set_option maxHeartbeats 4000000
/-! C(e, ..) where C stands in a local variable -/
namespace L2.Tb
open PySem PySem.Spec PyProof.Rows
section
variable {X : Cx} {CX : CXT} {k i : Nat} {f C : Addr} {fd : FuncData} {ps : List Str} {sp : Sp} {E : XK} {x : Str} {p pos : Pos} {e : Expr} {es : List Expr} {t : TA} {ds : List Value} {dvs : List V}
def tMakeV (i : Nat) (C : Addr) (sp : Sp) (dvs : List V) (E : XK) (t : TA) : TE := fun σ H Q => σ[i]? = some (some (.ref C)) ∧ tMake C sp dvs E t σ H Q
theorem pe_makeV (M : Mk X.K C f) (F : FnOk X.prog X.w X.K X.mg X.base CX k f fd ps sp) {j : Nat} (hr : Room j X.A) (hj : k + 1 ≤ j) (hN : X.N[i]? = some x) (hv : Vis X.env.scope x) (hb : Binds X.K fd ps ds) (hdv : Vals dvs ds) (hx : Passes CX X E) (ha : PA X (e :: es) t)
    (hd : (x == ("__debug__" : Str)) = false := by decide) (hcd : (x == ("__classdict__" : Str)) = false := by decide)
    (he : starEach (e :: es) X.env = (false, eval e X.env) :: starEach es X.env := by rfl) (hpl : (backTo pos (starEach es X.env)).any (·.1) = false := by rfl) : PE X (.Call (.Name x p) (e :: es) [] pos) (tMakeV i C sp dvs E t) := by
  refine ⟨fun pins s σ H Q I ⟨hs, h⟩ => wpAny_Call_Name_kw (thn ((pe_var (pos := p) (i := i) hN hv hd hcd).run pins s σ H (fun v H1 => v = .ref C ∧ H1 = H) I ⟨.ref C, hs, rfl, rfl⟩) fun u s1 hh => ?_)⟩
  obtain ⟨v, H1, I1, r1, ev, eH⟩ := hh
  subst ev eH
  cases r1
  refine PySem.W.callWith_K (h₀ := X.base) I1.ok.mod.kin M.kp (thn (ha.run pos pins s1 σ H1 _ I1 h) fun us s2 ⟨vs, H2, I2, r, q⟩ => ⟨I2.kIn, ?_⟩) he hpl
  exact run_make M F (hr.mono hj) hb hdv hx I2 r q
end
end L2.Tb
set_option Elab.async false
set_option linter.all false
set_option maxRecDepth 100000
set_option maxHeartbeats 8000000
namespace L2.K33
open PySem PySem.Spec PyProof.Rows L2.Tb
open SX (S)
abbrev s_sread : Stmt := inClass (top 44) 1
abbrev N_sread : List Str := ["cls", "text", "lines", "boxes", "rows"]
theorem sc_sread : FnScope N_sread ["cls", "text"] (defScope s_sread) := ⟨rfl, rfl, rfl, by decide +kernel, rfl, by decide +kernel, by decide +kernel⟩
/-- what a right script's data are -/
structure ScR (d : Scr) : Prop where
  ok : ScOk d
  nl : NamesL d.nms
  n1 : 1 ≤ d.nms.length
  r1 : 1 ≤ d.rws.length
  bF : boxesF (some (d.nms.map some)) = none
  rF : rowsFault d.nms (some (d.rws.map some)) = none
  rl : ∀ l ∈ d.rws, 10 ∉ l
theorem read_kind : ∀ z ∈ wordsD, (offCalm (kindS z true) = z ∧ (!decide (V.str z = V.str (kindS z true))) = true ∧ 10 ∉ cds (kindS z true)) ∧ (offCalm (kindS z false) = z ∧ (!decide (V.str z = V.str (kindS z false))) = false ∧ 10 ∉ cds (kindS z false)) := by decide +kernel
theorem read_kind2 {z : Str} (h : wordsD.contains z = true) (b : Bool) : offCalm (kindS z b) = z ∧ (!decide (V.str z = V.str (kindS z b))) = b ∧ 10 ∉ cds (kindS z b) := by
  have := read_kind z (List.contains_iff_mem.mp h)
  cases b
  · exact this.2
  · exact this.1
theorem nameB_no {l : List Nat} (h : nameB l = true) {c : Nat} (hc : signB c = false) : c ∉ l := by
  intro hm
  cases l with
  | nil => cases hm
  | cons a r =>
    simp only [nameB, Bool.and_eq_true] at h
    rcases List.mem_cons.mp hm with rfl | hm
    · rw [show signB c = true by unfold signB; rw [h.1]; rfl] at hc
      cases hc
    · rw [List.all_eq_true.mp h.2.2 c hm] at hc
      cases hc
theorem join_no {s c : Nat} (hs : c ≠ s) : ∀ ls : List (List Nat), (∀ l ∈ ls, c ∉ l) → c ∉ TL.joinL [s] ls
  | [], _ => by simp [TL.joinL]
  | [p], h => by
    have := h p List.mem_cons_self
    simpa [TL.joinL] using this
  | p :: q :: r, h => by
    have ih := join_no hs (q :: r) fun l hl => h l (List.mem_cons_of_mem _ hl)
    have hp := h p List.mem_cons_self
    show c ∉ (p ++ ([s] ++ TL.joinL [s] (q :: r)))
    simp only [List.mem_append, List.mem_singleton, not_or]
    exact ⟨hp, hs, ih⟩
theorem cutV_from {xs : List V} {s : Nat} (h : s ≤ xs.length) : cutV xs (some (s : Int)) none = xs.drop s := by
  unfold cutV
  rw [HT.sIx_none, HT.sIx_nat, Nat.min_eq_left h, List.take_of_length_le (by rw [List.length_drop]; exact Nat.le_refl _)]
theorem paired_self2 {K : PySem.W.Frag} {H : Hp} : ∀ {ls : List (List Nat)}, (∀ l ∈ ls, l.length ≤ 10000) → Paired (TxV K H) (ls.map nmV) (ls.map some)
  | [], _ => .nil
  | l :: ls, h => .cons ⟨rfl, h l List.mem_cons_self⟩ (paired_self2 fun x hx => h x (List.mem_cons_of_mem _ hx))
theorem boxV_some {K : PySem.W.Frag} {H : Hp} {a : Addr} {ls : List (List Nat)} (e : H a = some (.tup (ls.map nmV))) (h : ∀ l ∈ ls, l.length ≤ 10000) (hl : ls.length ≤ 10000) : BoxV K H (.ref a) (some (ls.map some)) := ⟨a, _, rfl, e, paired_self2 h, by rw [List.length_map]; exact hl⟩
def spSread (C SC : Addr) : Sp := fun vs H Q _ => ∃ d : Scr, vs = [.ref SC, nmV (scPage d)] ∧ ScR d ∧ (scPage d).length ≤ 100000 ∧ ∀ a H', Same H H' → H a = none → ScAt C SC H' a d → Q (.ref a) H'
section
variable {P : Program} {w : World} {K : PySem.W.Frag} {mg : Str → Option Value} {base : Heap} {f fi : Addr} {fd fdi : FuncData} {C dL CT CF CX CN SC CI CR : Addr} {es : Array DictEntry} {n : Nat}
theorem c_sread (T : Bt mg) (SF : ScF K mg SC) (KS : KiS P w K mg base C dL CT CF CX CN es n) (SM : Mk K SC fi) (Fi : FnOk P w K mg base (L2.CX P w) 5 fi fdi ["self", "kind", "boxes", "rows"] (spSinit K C SC CN CI CR)) (Bi : Binds K fdi ["self", "kind", "boxes", "rows"] [])
    (F : FunD K "read" "Script.read" (defArgs s_sread) (defBody s_sread) (defScope s_sread) [] [] f fd) : FnOk P w K mg base L2.CX0 7 f fd ["cls", "text"] (spSread C SC) := by
  have hnd := sc_sread.nd
  have mstr := KS.mstr
  have KF := KS.kf
  obtain ⟨mc, pc, gc, fdc, RC, RM, _, FR⟩ := KS.rd
  refine F.ok sc_sread (fun vs H Q E h => ?_) (fun cdv A outer s H vs Q E hr h => ?_)
  · obtain ⟨d, rfl, _⟩ := h
    rfl
  · obtain ⟨d, rfl, ok, l4, q⟩ := h
    refine ⟨_, (pss_cons (ps_if (pt_not (pt_val (pe_callB call_isi (by rfl) T.m_isinstance (by decide +kernel) (pa_cons (pv 1) (pa_cons (pe_bltn (v := .ty "str") (by rfl) mstr (by decide +kernel) rfl) pa_nil)))))
      (pss_one ps_never)
      pss_nil)
      (pss_cons (ps_set (i := 2) hnd rfl (by first | exact Or.inl rfl | exact Or.inr rfl) (pe_split (pv 1) pe_str))
      (pss_cons (ps_if (pt_cmpR op_lt (pe_callB call_len_seq (by rfl) T.m_len (by decide +kernel) (pa_cons (pv 2) pa_nil)) pe_int (nomark _))
      (pss_one ps_never)
      pss_nil)
      (pss_cons (ps_par (i := 3) (j := 4) (by rfl) hnd rfl rfl (by decide) (by rfl) (by rfl) (pa_cons (pe_callTy call_tuple_of (by rfl) T.m_tuple (by decide +kernel) (pa_cons (pe_split (pe_ix (show IxR _ (rIxL K) from ix_list) (pv 2) pe_int (fun _ _ => rfl)) pe_str) pa_nil)) (pa_cons (pe_callTy call_tuple_of (by rfl) T.m_tuple (by decide +kernel) (pa_cons (pe_slice sl_list (pv 2) (po_some pe_int) po_none) pa_nil)) pa_nil)) (by rfl))
      (pss_one (ps_try_asMany rfl rfl hnd (fun W pn xe tk _ => pss_one (ps_ret (pe_makeV (i := 0) SM Fi hr (by omega) rfl (by first | exact Or.inl rfl | exact Or.inr rfl) Bi .nil pass_none (pa_cons (ClX.pe_cmeth (pe_glob (v := .ref C) (by rfl) KF.mgC rfl) RC RM FR (hr.mono (by omega)) pass_none (pa_cons (pe_ix (show IxR _ (rIxL K) from ix_list) (pv 2) pe_int (fun _ _ => rfl)) pa_nil)) (pa_cons (pv 3) (pa_cons (pv 4) pa_nil)))))) (HdsAs.stop _))))))), ?_⟩
    refine ⟨_, rfl, _, _, _, _, _, rfl, .ty _, .base (.str _), (by rfl : PySem.W.kitOne K (.type "str") (.type "str") = some true), _, rfl, iteF ?_⟩
    dsimp only [tNext]
    refine ⟨_, rfl, ⟨_, rfl⟩, _, _, rfl, rfl, rfl, by rw [SX.S_len, sizeLine_eq]; omega, fun W nW => gname_go ?_⟩
    try dsimp only
    obtain ⟨rk1, rk2, rk3⟩ := read_kind2 ok.ok.knd d.knd.2
    have hcut : Txt.split (S (scPage d)) (Str.ofString "\n") = (cds (kindS d.knd.1 d.knd.2) :: TL.joinL [32] d.nms :: d.rws).map S := by
      rw [show (Str.ofString "\n") = S [10] from by decide +kernel, SX.split_S (by decide) (by decide)]
      refine congrArg (List.map S) (SX.spl_join (by simp) fun p hp => ?_)
      rcases List.mem_cons.mp hp with rfl | hp
      · exact rk3
      · rcases List.mem_cons.mp hp with rfl | hp
        · exact join_no (by decide) _ fun l hl => nameB_no (ok.nl.ok l hl) (by decide)
        · exact ok.rl p hp
    have hcut2 : Txt.split (S (TL.joinL [32] d.nms)) (Str.ofString " ") = d.nms.map S := by
      rw [show (Str.ofString " ") = S [32] from by decide +kernel, SX.split_S (by decide) (by decide)]
      refine congrArg (List.map S) (SX.spl_join ?_ fun p hp => nameB_no (ok.nl.ok p hp) (by decide))
      intro z
      have := ok.n1
      rw [z] at this
      exact absurd this (by decide)
    have map2 : ∀ l : List (List Nat), (l.map S).map V.str = l.map nmV := fun l => by rw [List.map_map]; rfl
    rw [hcut, map2]
    have sW := same_new (o := .lst ((cds (kindS d.knd.1 d.knd.2) :: TL.joinL [32] d.nms :: d.rws).map nmV)) nW
    have eW := upd_same (H := H) (a := W) (o := .lst ((cds (kindS d.knd.1 d.knd.2) :: TL.joinL [32] d.nms :: d.rws).map nmV))
    generalize upd H W (.lst ((cds (kindS d.knd.1 d.knd.2) :: TL.joinL [32] d.nms :: d.rws).map nmV)) = H1 at sW eW ⊢
    have r1 := ok.r1
    refine ⟨_, rfl, W, _, rfl, .inl (SqL.of eW), _, _, rfl, rfl, _, rfl, ?_⟩
    refine iteN2 (decide_eq_false (by simp only [List.length_map, List.length_cons]; omega)) ?_
    dsimp only [tNext]
    have j54 : (TL.joinL [32] d.nms).length ≤ 6 * 9 := Nat.le_trans (join_len (B := 8) _ ok.ok.nms) (Nat.mul_le_mul_right _ ok.ok.nmsL)
    refine ⟨_, rfl, W, _, 1, nmV (TL.joinL [32] d.nms), rfl, rfl, SqL.of eW, atI_nat (j := 1) rfl, ⟨_, rfl⟩, _, _, rfl, rfl, rfl, by rw [SX.S_len, sizeLine_eq]; omega, fun W2 nW2 => ?_⟩
    rw [hcut2, map2]
    refine ⟨W2, _, rfl, .inl ⟨SqL.of upd_same, fun B nB => ?_⟩⟩
    have s2 := (same_new (o := .lst (d.nms.map nmV)) nW2).trans (same_new (o := .tup (d.nms.map nmV)) nB)
    have eB := upd_same (H := upd H1 W2 (.lst (d.nms.map nmV))) (a := B) (o := .tup (d.nms.map nmV))
    generalize upd (upd H1 W2 (.lst (d.nms.map nmV))) B (.tup (d.nms.map nmV)) = H2 at s2 eB ⊢
    refine ⟨_, rfl, _, rfl, W, _, rfl, SqL.of (s2 _ _ eW), fun W3 nW3 => ?_⟩
    rw [show cutV ((cds (kindS d.knd.1 d.knd.2) :: TL.joinL [32] d.nms :: d.rws).map nmV) (some 2) none = d.rws.map nmV from (cutV_from (s := 2) (by simp)).trans rfl]
    refine ⟨W3, _, rfl, .inl ⟨SqL.of upd_same, fun R nR => ?_⟩⟩
    have s3 := (same_new (o := .lst (d.rws.map nmV)) nW3).trans (same_new (o := .tup (d.rws.map nmV)) nR)
    have eR := upd_same (H := upd H2 W3 (.lst (d.rws.map nmV))) (a := R) (o := .tup (d.rws.map nmV))
    generalize upd (upd H2 W3 (.lst (d.rws.map nmV))) R (.tup (d.rws.map nmV)) = H3 at s3 eR ⊢
    refine ⟨_, _, rfl, ?_⟩
    try dsimp only
    have s13 := s2.trans s3
    have k20 := (kindS_len ok.ok.knd d.knd.2).2
    have hoff : wordsD.contains (offCalm (kindS d.knd.1 d.knd.2)) = true := by rw [rk1]; exact ok.ok.knd
    refine ⟨rfl, rfl, _, rfl, W, _, 0, nmV (cds (kindS d.knd.1 d.knd.2)), rfl, rfl, SqL.of (s13 _ _ eW), atI_nat (j := 0) rfl, ?_⟩
    refine ⟨nmV (cds (kindS d.knd.1 d.knd.2)), rfl, .inl ⟨kindS d.knd.1 d.knd.2, (nm_S _).symm, by omega, hoff, fun tk H4 s4 nk ka => ?_⟩⟩
    rw [rk1, rk2] at ka
    have sall := (sW.trans s13).trans s4
    refine ⟨_, rfl, _, rfl, fun x dx nx ndx nxd => ?_⟩
    have sx : Same H4 (upd (upd H4 dx (.own x)) x (.ins SC dx [])) := fun b o e => by
      rw [upd_ne (ne_of_none e nx), upd_ne (ne_of_none e ndx)]
      exact e
    refine ⟨x, dx, .ref tk, .ref B, .ref R, rfl, upd_same, .inr ⟨tk, d.knd.1, d.knd.2, some (d.nms.map some), rfl, ka.same sx, boxV_some (sx _ _ (s4 _ _ (s3 _ _ eB))) (fun l hl => Nat.le_trans (ok.ok.nms l hl) (by decide)) (by have := ok.ok.nmsL; omega), .inr ⟨d.nms, some (d.rws.map some), rfl, ok.bF, boxV_some (sx _ _ (s4 _ _ eR)) ok.ok.rws (by have := ok.ok.rwsL; omega), fun rs hrs => ?_, .inr ⟨d.rws, rfl, ok.rF, fun H5 s5 sc => ⟨rfl, ?_⟩⟩⟩⟩⟩
    · cases hrs
      refine ⟨by rw [List.length_map]; exact ok.ok.rwsL, fun l hl => ?_⟩
      obtain ⟨y, hy, e⟩ := List.mem_map.mp hl
      cases e
      exact ok.ok.rwsA _ hy
    · refine q x H5 (fun b o e => ?_) (none_back sall nx) sc
      have e4 := sall _ _ e
      exact s5 _ _ (ne_of_none e4 nx) (sx _ _ e4)
end
end L2.K33
set_option Elab.async false
set_option linter.all false
set_option maxRecDepth 100000
set_option maxHeartbeats 8000000
namespace L2.K33
open PySem PySem.Spec PyProof.Rows L2.Tb
open SX (S)
/-! ### rows that are made are right -/
def rstOf (ls : List (List Nat)) : Stp → RSt
  | .tst u a b g => ⟨cds (tstS u), [ls.getD a [], ls.getD b []], some g⟩
  | .go g => ⟨goW, [], some g⟩
  | .cp a b => ⟨eqW, [ls.getD a [], ls.getD b []], none⟩
  | .op s a b c => ⟨cds (opS s), [ls.getD a [], ls.getD b [], ls.getD c []], none⟩
theorem getD_mem {ls : List (List Nat)} {a : Nat} (h : a < ls.length) : ls.getD a [] ∈ ls := by
  have e : ls.getD a [] = ls[a] := by simp [List.getD, h]
  rw [e]
  exact List.getElem_mem h
theorem tst_test : ∀ u : Bool, testW (cds (tstS u)) = true := by decide +kernel
theorem op_sign : ∀ s : Nat, s < 3 → signW (cds (opS s)) = true ∧ testW (cds (opS s)) = false ∧ decide (cds (opS s) = goW) = false := by decide +kernel
theorem num_no : ∀ g : Nat, g < 100 → 32 ∉ decL g ∧ 10 ∉ decL g := by decide +kernel
theorem row_words {ls : List (List Nat)} (nl : NamesL ls) {d : Stp} (h : StIn ls.length d) : ∀ p ∈ wordsOf ls d, 32 ∉ p ∧ 10 ∉ p := by
  have nm : ∀ a, a < ls.length → 32 ∉ ls.getD a [] ∧ 10 ∉ ls.getD a [] := fun a ha => ⟨nameB_no (nl.ok _ (getD_mem ha)) (by decide), nameB_no (nl.ok _ (getD_mem ha)) (by decide)⟩
  have tw : ∀ u : Bool, 32 ∉ cds (tstS u) ∧ 10 ∉ cds (tstS u) := by decide +kernel
  have ow : ∀ s : Nat, s < 3 → 32 ∉ cds (opS s) ∧ 10 ∉ cds (opS s) := by decide +kernel
  have gw : 32 ∉ cds (Str.ofString "go") ∧ 10 ∉ cds (Str.ofString "go") := by decide +kernel
  have ew : (32 : Nat) ∉ [61] ∧ (10 : Nat) ∉ [61] := by decide
  cases d with
  | go g =>
    intro p hp
    simp only [wordsOf, List.mem_cons, List.not_mem_nil, or_false] at hp
    rcases hp with rfl | rfl
    · exact gw
    · exact num_no g (by have : g ≤ 12 := h; omega)
  | tst u a b g =>
    obtain ⟨ha, hb, hg⟩ := (show a < ls.length ∧ b < ls.length ∧ g ≤ 12 from h)
    intro p hp
    simp only [wordsOf, List.mem_cons, List.not_mem_nil, or_false] at hp
    rcases hp with rfl | rfl | rfl | rfl
    · exact tw u
    · exact nm a ha
    · exact nm b hb
    · exact num_no g (by omega)
  | cp a b =>
    obtain ⟨ha, hb⟩ := (show a < ls.length ∧ b < ls.length from h)
    intro p hp
    simp only [wordsOf, List.mem_cons, List.not_mem_nil, or_false] at hp
    rcases hp with rfl | rfl | rfl
    · exact nm a ha
    · exact ew
    · exact nm b hb
  | op s a b c =>
    obtain ⟨hs, ha, hb, hc⟩ := (show s < 3 ∧ a < ls.length ∧ b < ls.length ∧ c < ls.length from h)
    intro p hp
    simp only [wordsOf, List.mem_cons, List.not_mem_nil, or_false] at hp
    rcases hp with rfl | rfl | rfl | rfl | rfl
    · exact nm a ha
    · exact ew
    · exact nm b hb
    · exact ow s hs
    · exact nm c hc
theorem row_split {ls : List (List Nat)} (nl : NamesL ls) {d : Stp} (h : StIn ls.length d) : TL.spl [32] 0 [] (rowL ls d) = wordsOf ls d :=
  SX.spl_join (by cases d <;> simp [wordsOf]) fun p hp => (row_words nl h p hp).1
theorem row_read {ls : List (List Nat)} (nl : NamesL ls) {d : Stp} {m k : Nat} (hm : m ≤ 12) (h : StAt ls.length m k d) : readRow ls k m (some (rowL ls d)) = some (rstOf ls d) := by
  show readWs ls k m (TL.spl [32] 0 [] (rowL ls d)) = _
  rw [row_split nl (h.in_ hm)]
  have mm : ∀ a, a < ls.length → decide (ls.getD a [] ∈ ls) = true := fun a ha => decide_eq_true (getD_mem ha)
  cases d with
  | go g =>
    obtain ⟨h1, h2⟩ := (show k + 1 ≤ g ∧ g ≤ m from h)
    show (if decide (cds (Str.ofString "go") = goW) = true then stepR ls goW [] (goalL (decL g) (k + 1) m) else none) = _
    rw [if_pos (by decide +kernel), goal_some (by omega) h1 h2 rfl]
    rfl
  | tst u a b g =>
    obtain ⟨ha, hb, h1, h2⟩ := (show a < ls.length ∧ b < ls.length ∧ k + 2 ≤ g ∧ g ≤ m from h)
    show (if testW (cds (tstS u)) = true then stepR ls (cds (tstS u)) [ls.getD a [], ls.getD b []] (goalL (decL g) (k + 2) m) else none) = _
    rw [if_pos (tst_test u), goal_some (by omega) h1 h2 rfl]
    unfold stepR
    rw [show (some g).isNone = false from rfl, Bool.false_and, if_neg (by decide), List.all_cons, List.all_cons, List.all_nil, mm a ha, mm b hb]
    rfl
  | cp a b =>
    obtain ⟨ha, hb⟩ := (show a < ls.length ∧ b < ls.length from h)
    show (if decide (([61] : List Nat) = eqW) = true then stepR ls eqW [ls.getD a [], ls.getD b []] none else none) = _
    rw [if_pos (by decide +kernel)]
    unfold stepR
    rw [show (decide (eqW = goW) || testW eqW) = false by decide +kernel, Bool.and_false, if_neg (by decide), List.all_cons, List.all_cons, List.all_nil, mm a ha, mm b hb]
    rfl
  | op s a b c =>
    obtain ⟨hs, ha, hb, hc⟩ := (show s < 3 ∧ a < ls.length ∧ b < ls.length ∧ c < ls.length from h)
    obtain ⟨o1, o2, o3⟩ := op_sign s hs
    show (if (decide (([61] : List Nat) = eqW) && signW (cds (opS s))) = true then stepR ls (cds (opS s)) [ls.getD a [], ls.getD b [], ls.getD c []] none else none) = _
    rw [o1, Bool.and_true, if_pos (by decide +kernel)]
    unfold stepR
    rw [o2, o3, Bool.or_false, Bool.and_false, if_neg (by decide), List.all_cons, List.all_cons, List.all_cons, List.all_nil, mm a ha, mm b hb, mm c hc]
    rfl
theorem rst_test {ls : List (List Nat)} {w m k : Nat} {d : Stp} (h : StAt w m k d) : testW (rstOf ls d).word = isT d := by
  cases d with
  | tst u a b g => exact tst_test u
  | go g => exact (by decide +kernel : testW goW = false)
  | cp a b => exact (by decide +kernel : testW eqW = false)
  | op s a b c => exact (op_sign s h.1).2.1
theorem rowsF_ok {ls : List (List Nat)} (nl : NamesL ls) {m : Nat} (hm : m ≤ 12) : ∀ (ds : List Stp) (i t : Nat), i + ds.length ≤ 12 → (∀ k d, ds[k]? = some d → StAt ls.length m (i + k) d) → t + (ds.filter isT).length ≤ 4 → rowsF ls m i t ((ds.map (rowL ls)).map some) = none
  | [], _, _, _, _, _ => rfl
  | d :: ds, i, t, hi, ha, ht => by
    have h0 := ha 0 d rfl
    rw [List.length_cons] at hi
    show (if i = 12 then some i else match readRow ls i m (some (rowL ls d)) with
      | none => some i
      | some st => if 4 < t + (if testW st.word = true then 1 else 0) then some i else rowsF ls m (i + 1) (t + (if testW st.word = true then 1 else 0)) ((ds.map (rowL ls)).map some)) = none
    rw [if_neg (by omega), row_read nl hm (k := i) h0]
    dsimp only
    rw [rst_test (k := i) h0]
    have hf : ((d :: ds).filter isT).length = (if isT d = true then 1 else 0) + (ds.filter isT).length := by
      cases c : isT d with
      | true => rw [List.filter_cons_of_pos c, List.length_cons, if_pos rfl]; omega
      | false => rw [List.filter_cons_of_neg (by rw [c]; decide), if_neg (by decide)]; omega
    rw [hf] at ht
    rw [if_neg (by omega)]
    refine rowsF_ok nl hm ds (i + 1) _ (by omega) (fun k e hk => ?_) (by omega)
    have := ha (k + 1) e hk
    rwa [show i + (k + 1) = i + 1 + k by omega] at this
theorem readAll_ok {ls : List (List Nat)} (nl : NamesL ls) {m : Nat} (hm : m ≤ 12) : ∀ (ds : List Stp) (i : Nat), (∀ k d, ds[k]? = some d → StAt ls.length m (i + k) d) → readAll ls m i ((ds.map (rowL ls)).map some) = ds.map (rstOf ls)
  | [], _, _ => rfl
  | d :: ds, i, ha => by
    show (readRow ls i m (some (rowL ls d))).getD _ :: readAll ls m (i + 1) ((ds.map (rowL ls)).map some) = _
    rw [row_read nl hm (k := i) (ha 0 d rfl), readAll_ok nl hm ds (i + 1) fun k e hk => ?_]
    · rfl
    · have := ha (k + 1) e hk
      rwa [show i + (k + 1) = i + 1 + k by omega] at this
theorem namesF_ok {most : Nat} : ∀ (ls pre : List (List Nat)), (∀ l ∈ ls, nameB l = true) → (pre ++ ls).Nodup → pre.length + ls.length ≤ most → namesF most [] pre (ls.map some) = none
  | [], _, _, _, _ => rfl
  | l :: ls, pre, hn, hd, hl => by
    rw [List.length_cons] at hl
    show (if pre.length = most ∨ nameB l = false ∨ l ∈ ([] : List (List Nat)) ∨ l ∈ pre then some pre.length else namesF most [] (pre ++ [l]) (ls.map some)) = none
    rw [if_neg]
    · refine namesF_ok ls (pre ++ [l]) (fun x hx => hn x (List.mem_cons_of_mem _ hx)) (by rw [List.append_assoc]; exact hd) (by rw [List.length_append, List.length_singleton]; omega)
    · rintro (z | z | z | z)
      · omega
      · rw [hn l List.mem_cons_self] at z
        cases z
      · cases z
      · have := (List.nodup_append.mp hd).2.2 l z l List.mem_cons_self
        exact this rfl
theorem row_ascii {ls : List (List Nat)} (nl : NamesL ls) {d : Stp} (h : StIn ls.length d) : AsciiL (rowL ls d) := by
  have nm : ∀ a, a < ls.length → AsciiL (ls.getD a []) := fun a ha => nameB_ascii (nl.ok _ (getD_mem ha))
  have key : ∀ ws : List (List Nat), (∀ w ∈ ws, AsciiL w) → AsciiL (TL.joinL [32] ws) := fun ws hw c hc => by
    by_cases z : c < 128
    · exact z
    · exact absurd hc (join_no (by omega) ws fun l hl hm => z (hw l hl c hm))
  refine key _ fun w hw => ?_
  have tw : ∀ u : Bool, ∀ c ∈ cds (tstS u), c < 128 := by decide +kernel
  have ow : ∀ s : Nat, s < 3 → ∀ c ∈ cds (opS s), c < 128 := by decide +kernel
  have gw : ∀ c ∈ cds (Str.ofString "go"), c < 128 := by decide +kernel
  have ew : ∀ c ∈ ([61] : List Nat), c < 128 := by decide
  have dw : ∀ g, g < 100 → ∀ c ∈ decL g, c < 128 := by decide +kernel
  cases d with
  | go g =>
    simp only [wordsOf, List.mem_cons, List.not_mem_nil, or_false] at hw
    rcases hw with rfl | rfl
    · exact gw
    · exact dw g (by have : g ≤ 12 := h; omega)
  | tst u a b g =>
    obtain ⟨ha, hb, hg⟩ := (show a < ls.length ∧ b < ls.length ∧ g ≤ 12 from h)
    simp only [wordsOf, List.mem_cons, List.not_mem_nil, or_false] at hw
    rcases hw with rfl | rfl | rfl | rfl
    · exact tw u
    · exact nm a ha
    · exact nm b hb
    · exact dw g (by omega)
  | cp a b =>
    obtain ⟨ha, hb⟩ := (show a < ls.length ∧ b < ls.length from h)
    simp only [wordsOf, List.mem_cons, List.not_mem_nil, or_false] at hw
    rcases hw with rfl | rfl | rfl
    · exact nm a ha
    · exact ew
    · exact nm b hb
  | op s a b c =>
    obtain ⟨hs, ha, hb, hc⟩ := (show s < 3 ∧ a < ls.length ∧ b < ls.length ∧ c < ls.length from h)
    simp only [wordsOf, List.mem_cons, List.not_mem_nil, or_false] at hw
    rcases hw with rfl | rfl | rfl | rfl | rfl
    · exact nm a ha
    · exact ew
    · exact nm b hb
    · exact ow s hs
    · exact nm c hc
def scOf (pr : Str × Bool) (ls : List (List Nat)) (ds : List Stp) : Scr := ⟨pr, ls, ds.map (rowL ls)⟩
theorem scOf_right {pr : Str × Bool} {ls : List (List Nat)} {ds : List Stp} (hp : pr ∈ pairD) (nl : NamesL ls) (n1 : 1 ≤ ls.length) (n6 : ls.length ≤ 6) (d1 : 1 ≤ ds.length) (d12 : ds.length ≤ 12) (st : StepsL ls.length ds.length ds) : ScR (scOf pr ls ds) := by
  have hin : ∀ d ∈ ds, StIn ls.length d := fun d hd => by
    obtain ⟨k, hk⟩ := List.mem_iff_getElem?.mp hd
    exact (st.at_ k d hk).in_ d12
  have pw : ∀ d ∈ pairD, wordsD.contains d.1 = true := by decide +kernel
  refine ⟨⟨pw pr hp, n6, fun l hl => (nameB_len (nl.ok l hl)).2, by show (ds.map _).length ≤ 99; rw [List.length_map]; omega, fun l hl => ?_, fun l hl => nameB_ascii (nl.ok l hl), fun l hl => ?_⟩, nl, n1, by show 1 ≤ (ds.map _).length; rw [List.length_map]; exact d1, ?_, ?_, fun l hl => ?_⟩
  · obtain ⟨d, hd, rfl⟩ := List.mem_map.mp hl
    exact Nat.le_trans (row_len nl (hin d hd)) (by decide)
  · obtain ⟨d, hd, rfl⟩ := List.mem_map.mp hl
    exact row_ascii nl (hin d hd)
  · show (match namesF 6 [] [] (ls.map some) with
      | some k => some (some k)
      | none => if ls.map some = [] then some none else none) = none
    rw [namesF_ok ls [] nl.ok nl.nd (by simpa using n6)]
    dsimp only
    rw [if_neg]
    intro z
    have := congrArg List.length z
    simp only [List.length_map, List.length_nil] at this
    omega
  · show (if (ds.map (rowL ls)).map some = [] then some none else (rowsF ls ((ds.map (rowL ls)).map some).length 0 0 ((ds.map (rowL ls)).map some)).map some) = none
    rw [if_neg, List.length_map, List.length_map, rowsF_ok nl d12 ds 0 0 (by omega) (fun k d hk => by rw [Nat.zero_add]; exact st.at_ k d hk) (by have := st.few; omega)]
    · rfl
    · intro z
      have := congrArg List.length z
      simp only [List.length_map, List.length_nil] at this
      omega
  · obtain ⟨d, hd, rfl⟩ := List.mem_map.mp hl
    exact join_no (by decide) _ fun p hp => (row_words nl (hin d hd) p hp).2
end L2.K33
set_option Elab.async false
set_option linter.all false
set_option maxRecDepth 100000
set_option maxHeartbeats 8000000
namespace L2.K33
open PySem PySem.Spec PyProof.Rows L2.Tb
open SX (S)
abbrev s_script : Stmt := top 58
abbrev N_script : List Str := ["_law_pair", "_law_names_here", "_law_steps_here", "_law_each", "_law_lines"]
theorem sc_script : FnScope N_script ["_law_pair", "_law_names_here", "_law_steps_here"] (defScope s_script) := ⟨rfl, rfl, rfl, by decide +kernel, rfl, by decide +kernel, by decide +kernel⟩
/-- what the law has in hand -/
structure ArgAt (H : Hp) (tp L Sd : Addr) (pr : Str × Bool) (ls : List (List Nat)) (ds : List Stp) : Prop where
  ep : PairAt H tp pr
  hp : pr ∈ pairD
  eL : H L = some (.lst (ls.map nmV))
  nl : NamesL ls
  n6 : ls.length ≤ 6
  eS : ∃ ts : List Addr, H Sd = some (.lst (ts.map V.ref)) ∧ Paired (fun t d => StepAt H t d) ts ds
  hin : ∀ d ∈ ds, StIn ls.length d
  d12 : ds.length ≤ 12
  ok : ScR (scOf pr ls ds)
theorem ArgAt.same {H H' : Hp} {tp L Sd : Addr} {pr : Str × Bool} {ls : List (List Nat)} {ds : List Stp} (h : ArgAt H tp L Sd pr ls ds) (s : Same H H') : ArgAt H' tp L Sd pr ls ds := by
  obtain ⟨ts, a, b⟩ := h.eS
  exact ⟨s _ _ h.ep, h.hp, s _ _ h.eL, h.nl, h.n6, ⟨ts, s _ _ a, paired_imp (fun _ _ z => s _ _ z) b⟩, h.hin, h.d12, h.ok⟩
def spScript (C SC : Addr) : Sp := fun vs H Q _ => ∃ (tp L Sd : Addr) (pr : Str × Bool) (ls : List (List Nat)) (ds : List Stp), vs = [.ref tp, .ref L, .ref Sd] ∧ ArgAt H tp L Sd pr ls ds ∧ ∀ a H', Same H H' → H a = none → ScAt C SC H' a (scOf pr ls ds) → Q (.ref a) H'
theorem made_ok {K : PySem.W.Frag} {C CT CF : Addr} {H : Hp} {z : Str} {b : Bool} {Qf : VK} {E : XK} {x dx : Addr} (hz : wordsD.contains z = true) (hx : H x = none) (hdx : H dx = none) (q : ∀ H', Same H H' → KindAt C H' x z b → Qf .non H') :
    spKinit K C CT CF [.ref x, .str z, .bl b] (upd (upd H dx (.own x)) x (.ins C dx [])) Qf E := by
  refine ⟨x, dx, .str z, .bl b, rfl, upd_same, .inl ⟨z, b, rfl, hz, rfl, q _ (fun c o h => ?_) ⟨dx, upd_same⟩⟩⟩
  rw [upd_ne (ne_of_none h hx), upd_ne (ne_of_none h hx), upd_ne (ne_of_none h hx), upd_ne (ne_of_none h hdx)]
  exact h
theorem pair_word : ∀ d ∈ pairD, wordsD.contains d.1 = true := by decide +kernel
/-- a right script is made by Script's __init__ -/
theorem init_right {K : PySem.W.Frag} {C SC CN CI CR : Addr} {H : Hp} {d : Scr} {tk B R x dx : Addr} {Qf : VK} {E : XK} (ok : ScR d) (ka : KindAt C H tk d.knd.1 d.knd.2) (eB : H B = some (.tup (d.nms.map nmV))) (eR : H R = some (.tup (d.rws.map nmV))) (nx : H x = none) (ndx : H dx = none)
    (q : ∀ H', Same H H' → ScAt C SC H' x d → Qf .non H') : spSinit K C SC CN CI CR [.ref x, .ref tk, .ref B, .ref R] (upd (upd H dx (.own x)) x (.ins SC dx [])) Qf E := by
  have sx : Same H (upd (upd H dx (.own x)) x (.ins SC dx [])) := fun b o e => by
    rw [upd_ne (ne_of_none e nx), upd_ne (ne_of_none e ndx)]
    exact e
  refine ⟨x, dx, .ref tk, .ref B, .ref R, rfl, upd_same, .inr ⟨tk, d.knd.1, d.knd.2, some (d.nms.map some), rfl, ka.same sx, boxV_some (sx _ _ eB) (fun l hl => Nat.le_trans (ok.ok.nms l hl) (by decide)) (by have := ok.ok.nmsL; omega), .inr ⟨d.nms, some (d.rws.map some), rfl, ok.bF, boxV_some (sx _ _ eR) ok.ok.rws (by have := ok.ok.rwsL; omega), fun rs hrs => ?_, .inr ⟨d.rws, rfl, ok.rF, fun H5 s5 sc => ?_⟩⟩⟩⟩
  · cases hrs
    refine ⟨by rw [List.length_map]; exact ok.ok.rwsL, fun l hl => ?_⟩
    obtain ⟨y, hy, e⟩ := List.mem_map.mp hl
    cases e
    exact ok.ok.rwsA _ hy
  · exact q H5 (fun b o e => s5 _ _ (ne_of_none e nx) (sx _ _ e)) sc
section
variable {P : Program} {w : World} {K : PySem.W.Frag} {mg : Str → Option Value} {base : Heap} {f fi : Addr} {fd fdi : FuncData} {C dL CT CF CX CN SC CI CR : Addr} {es : Array DictEntry} {n : Nat}
theorem c_script (T : Bt mg) (SF : ScF K mg SC) (KS : KiS P w K mg base C dL CT CF CX CN es n) (SM : Mk K SC fi) (FiS : FnOk P w K mg base (L2.CX P w) 5 fi fdi ["self", "kind", "boxes", "rows"] (spSinit K C SC CN CI CR)) (BiS : Binds K fdi ["self", "kind", "boxes", "rows"] [])
    (k_row : Cal P w K mg base 1 "_law_row" spRow) (F : FnP K "_law_script" s_script f fd) (hm : mg "_law_script" = some (.ref f)) : Cal P w K mg base 7 "_law_script" (spScript C SC) := by
  have hnd := sc_script.nd
  have KF := KS.kf
  obtain ⟨fk, fdk, KM, Fi, B1⟩ := KS.mkr
  refine cal_mk F hm sc_script (fun _ _ _ _ _ _ us hl => match us, hl with | [_, _, _], _ => rfl) (fun vs H Q E h => ?_) (fun cdv A outer s H vs Q E hr h => ?_)
  · obtain ⟨tp, L, Sd, pr, ls, ds, rfl, _⟩ := h
    rfl
  · obtain ⟨tp, L, Sd, pr, ls, ds, rfl, ar, q⟩ := h
    refine ⟨_, (pss_cons (ps_set (i := 4) hnd rfl (by first | exact Or.inl rfl | exact Or.inr rfl) (pe_callTy call_tuple_of (by rfl) T.m_tuple (by decide +kernel) (pa_cons (pe_lc (own := [("_law_each", 3)]) (tt := tYes) (by rfl) hnd (pi_list (pv 2)) (blkOk_by (own := [("_law_each", 3)]) (N := N_script) (sc := defScope s_script) (by decide +kernel)) (fun _ _ _ _ _ => (pg_name (i := 3) hnd rfl (by first | exact Or.inl rfl | exact Or.inr rfl))) (fun _ _ _ _ _ => pts_nil) (fun _ _ _ _ _ => (pe_cal k_row hr (by omega) (by rfl) (pa_cons (pv 3) (pa_cons (pv 1) pa_nil))))) pa_nil)))
      (pss_one (ps_ret (pe_make SM FiS (hr.mono (by omega)) (by rfl) SF.mgS BiS .nil pass_none (pa_cons (pe_makeK KM Fi (hr.mono (by omega)) (by rfl) KF.mgC B1 pass_none (pa_cons (pe_ix (show IxR _ (rIxT K) from ix_tup) (pv 0) pe_int (fun _ _ => rfl)) pa_nil) (pk_cons (pe_ix (show IxR _ (rIxT K) from ix_tup) (pv 0) pe_int (fun _ _ => rfl)) pk_nil)) (pa_cons (pe_callTy call_tuple_of (by rfl) T.m_tuple (by decide +kernel) (pa_cons (pv 1) pa_nil)) (pa_cons (pv 4) pa_nil))))))), ?_⟩
    obtain ⟨ts, eS, pd⟩ := ar.eS
    refine ⟨_, rfl, Sd, rfl, ⟨_, SqL.of eS⟩, fun D nD => ?_⟩
    refine lc_list (xs := ts.map V.ref) (fun i G => Same H G ∧ G D = some (.lst (((ds.take i).map (rowL ls)).map nmV))) ⟨same_new nD, upd_same⟩ (fun i G _ y => SqL.of (y.1 _ _ eS)) ?_ ?_
    · rintro i y G hi ⟨sg, eg⟩
      rw [List.getElem?_map] at hi
      obtain ⟨t, ht, rfl⟩ := Option.map_eq_some_iff.mp hi
      obtain ⟨d, hd, hs⟩ := pairedNth pd ht
      have il : i < ds.length := (List.getElem?_eq_some_iff.mp hd).1
      refine ⟨rfl, ?_⟩
      unfold tYes
      dsimp only
      rw [if_pos rfl]
      refine ⟨_, rfl, _, rfl, t, L, d, ls, rfl, sg _ _ hs, sg _ _ ar.eL, ar.nl, Nat.le_trans ar.n6 (by decide), ar.hin d (List.mem_of_getElem? hd), fun G2 s2 => ?_⟩
      refine ⟨_, s2 _ _ eg, ?_, same_pt nD (sg.trans s2), ?_⟩
      · rw [List.length_map, List.length_map, List.length_take, sizeLine_eq]
        have := ar.d12
        omega
      · rw [upd_same, take_at hd, List.map_append, List.map_append]
        rfl
    · rintro G ⟨sg, eg⟩
      rw [show (ds.take (ts.map V.ref).length) = ds by rw [List.length_map, pd.length]; exact List.take_length] at eg
      refine ⟨D, _, rfl, .inl ⟨SqL.of eg, fun R nR => gname_go ?_⟩⟩
      try dsimp only
      have s1 := sg.trans (same_new (o := .tup ((ds.map (rowL ls)).map nmV)) nR)
      have eR := upd_same (H := G) (a := R) (o := .tup ((ds.map (rowL ls)).map nmV))
      have ar1 := ar.same s1
      generalize upd G R (.tup ((ds.map (rowL ls)).map nmV)) = G1 at s1 eR ar1 ⊢
      refine ⟨_, rfl, tp, _, _, _, rfl, rfl, SqT.of ar1.ep, rfl, _, rfl, tp, _, _, _, rfl, rfl, SqT.of ar1.ep, rfl, rfl, rfl, fun x dx hx hdx ne => ?_⟩
      refine made_ok (pair_word pr ar.hp) hx hdx fun G2 s2 ka => ⟨rfl, ?_⟩
      have ar2 := ar1.same s2
      refine ⟨_, rfl, L, _, rfl, .inl ⟨SqL.of ar2.eL, fun B nB => ⟨_, rfl, fun y dy hy hdy nyd => ?_⟩⟩⟩
      have s3 := same_new (o := .tup (ls.map nmV)) nB
      exact init_right (d := scOf pr ls ds) ar.ok (ka.same s3) upd_same (s3 _ _ (s2 _ _ eR)) hy hdy fun G4 s4 sc => ⟨rfl, q y G4 (((s1.trans s2).trans s3).trans s4) (none_back ((s1.trans s2).trans s3) hy) sc⟩
end
end L2.K33
set_option Elab.async false
set_option linter.all false
set_option maxRecDepth 100000
set_option maxHeartbeats 4000000
/-! sorted(xs), xs a list of tuples (or of lists) of ints, each of any length -/
namespace L2.Tb
open PySem PySem.Spec PyProof.Rows PySem.W
theorem eachMap {α β : Type} {R : α → β → Prop} (f : β → α) : ∀ ks : List β, (∀ p ∈ ks, R (f p) p) → EachIs R (ks.map f) ks
  | [], _ => .nil
  | k :: ks, h => .cons (h k List.mem_cons_self) (eachMap f ks fun p hp => h p (List.mem_cons_of_mem _ hp))
theorem eachMap_back {α β : Type} {f : β → α} : ∀ {l : List α} {ks : List β}, EachIs (fun v p => v = f p) l ks → l = ks.map f
  | _, _, .nil => rfl
  | _, _, .cons h t => by rw [List.map_cons, ← eachMap_back t, h]
theorem readsAll_ints_of {h : Heap} : ∀ {vs : List Value} {ns : List Int}, IntsAre vs ns → ReadsAll h vs (ns.map .int) []
  | _, _, .nil => .nil
  | _, _, .cons n t r => .cons (as := []) (.int n t) (readsAll_ints_of r)
theorem readsAll_vals {h : Heap} : ∀ {ns : List Int} {vs : List Value}, Vals (ns.map V.int) vs → ReadsAll h vs (ns.map .int) []
  | [], _, r => by
    cases r
    exact .nil
  | n :: ns, _, r => by
    cases r with
    | cons a b =>
      obtain ⟨t, rfl⟩ := a
      exact .cons (as := []) (.int n t) (readsAll_vals b)
theorem alike_tup (xs ys : List Int) : alike (.tuple (xs.map .int)) (.tuple (ys.map .int)) = true := by
  simpa [alike] using alike_ints xs ys
theorem alike_lst (xs ys : List Int) : alike (.list (xs.map .int)) (.list (ys.map .int)) = true := by
  simpa [alike] using alike_ints xs ys
theorem dataLe_tups {β : Type} (x : β → List Int) : dataLe false (fun b => .tuple ((x b).map .int)) = fun p q => decide (x p ≤ x q) := by
  rw [← dataLe_rows]
  funext p q
  show (!dataLt (.tuple _) (.tuple _)) = (!dataLt (.list _) (.list _))
  rw [dataLt_list, dataLt_tuple]
section
variable {P : Program} {w : World} {A : Around} {s : Shared}
/-- all tuples, some may be empty: at most one -/
theorem sortsAt_one {vs : List Value} {ds : List PyData} (e : EachIs (fun v d => ∃ as, Reads s.heap v d as) vs ds) (hal : AllAlike ds) (ht : ∀ d ∈ ds, ∃ xs, d = .tuple xs) (one : vs.length ≤ 1) (hu : ∀ d, d ∈ ds → A.units + d.depth < cLine) : SortsAt P w A s (dataKind s.heap ds) vs := by
  have room : ∀ {d d' : PyData}, d ∈ ds → A.units + min d.depth d'.depth < cLine := fun {d d'} hd => Nat.lt_of_le_of_lt (Nat.add_le_add_left (Nat.min_le_left _ _) _) (hu d hd)
  refine ⟨fun v hv => ?_, tuples' false, ?_, fun h2 => absurd h2 (by omega)⟩
  · obtain ⟨d, hd, as, r⟩ := e.left v hv
    exact ⟨_, dataKind_some hal hd r⟩
  · intro E x y a b Q ha hb hq
    obtain ⟨d, as, hd, ra, rfl⟩ := dataKind_inv ha
    obtain ⟨d', as', hd', rb, rfl⟩ := dataKind_inv hb
    have hdd := hal d hd d' hd'
    have hroom := room (d' := d') hd
    obtain ⟨r1, rfl⟩ := ht d hd
    obtain ⟨r2, rfl⟩ := ht d' hd'
    have hq' : Q (dataLt (.tuple r1) (.tuple r2)) s := hq
    rw [dataLt_tuple] at hq'
    cases ra with
    | @tuple l o xs n _ _ h1 h2 h3 h4 =>
      cases rb with
      | @tuple l' o' xs' n' _ _ k1 k2 k3 k4 =>
        have n1 : xs.size = r1.length := by simpa using SeqAt.ReadsAll.length _ _ _ h4
        have n2 : xs'.size = r2.length := by simpa using SeqAt.ReadsAll.length _ _ _ k4
        refine kat_lt h1 h3 k1 k3 (katLex_alike r1 r2 0 _ _ _ _ h4 k4 (by simpa [alike] using hdd) (by have q := SeqAt.room_in hroom; omega) (fun hb => by cases hb) (by rw [n1, n2]) hq')
end
theorem depth_tup (xs : List Int) : (PyData.tuple (xs.map .int)).depth = 1 := by
  have := depth_ints xs
  simp [PyData.depth, this]
theorem depth_lst (xs : List Int) : (PyData.list (xs.map .int)).depth = 1 := by
  have := depth_ints xs
  simp [PyData.depth, this]
/-- by the lists' order -/
def byLe {α : Type} (p q : α × List Int) : Bool := decide (p.2 ≤ q.2)
def rSortR (K : PySem.W.Frag) : List V → Hp → VK → Prop := fun vs H Q => ∃ (a : Addr) (ks : List (Addr × List Int)), vs = [.ref a] ∧ SqL K H a (ks.map fun p => V.ref p.1) ∧ ks.length ≤ sizeLine ∧
  (((∀ p ∈ ks, SqT K H p.1 (p.2.map V.int)) ∧ (ks.length ≤ 1 ∨ ∀ p ∈ ks, p.2 ≠ [])) ∨ ∀ p ∈ ks, SqL K H p.1 (p.2.map V.int)) ∧
  ∀ (p : Addr), H p = none → Q (.ref p) (upd H p (.lst ((ks.mergeSort byLe).map fun q => V.ref q.1)))
theorem cr_sortR {X : Cx} (hu : X.A.units + 64 < cLine) : CallR X (.builtin "sorted") (rSortR X.K) := by
  intro pins s σ H vs us Q I r h
  obtain ⟨a, ks, rfl, hs, few, tp, q⟩ := h
  obtain ⟨its, rv, pl, _⟩ := I.list hs
  rw [Vals.ref1 r]
  have ei : its = ks.map fun p => Value.ref p.1 := refs_of_vals rv
  have fin : ∀ out : List Value, EachIs (fun v (p : Addr × List Int) => v = Value.ref p.1) out (ks.mergeSort byLe) → ∃ (v : V) (H' : Hp), Inv X pins σ H' { s with heap := sortedAll s.heap its out.toArray } ∧ RelV v (Value.ref (s.heap.objs.size + 1)) ∧ Q v H' := fun out e => by
    have e := eachMap_back e
    obtain ⟨ep, at_⟩ := PyProof.Rows.sortedAll_at s.heap its out.toArray
    refine ⟨.ref _, upd H (s.heap.objs.size + 1) (.lst ((ks.mergeSort byLe).map fun q => V.ref q.1)), I.laid (t' := s.toks) (fun _ _ => PyProof.Rows.sortedAll_old) (Nat.le_succ _) ⟨?_, out, ep, ?_, at_⟩, rfl, q _ (I.hok.fresh (Nat.le_succ _))⟩
    · rw [List.length_map, List.length_mergeSort]
      exact few
    · rw [e]
      exact vals_of_refs _
  have lk : ks.length ≤ sizeLine := few
  rcases tp with ⟨tp, ne⟩ | tp
  · have rd : ∀ p ∈ ks, ∃ as, Reads s.heap (.ref p.1) (.tuple (p.2.map .int)) as := fun p hp => by
      obtain ⟨b, items, e, ⟨ob, g1, g2, m, g3⟩, ia⟩ := tupI_raw I (tp p hp)
      injection e with e
      subst e
      exact ⟨_, .tuple g1 g2 g3 (readsAll_ints_of ia)⟩
    rcases ne with one | ne
    · have er : EachIs (fun v (b : Addr × List Int) => ∃ as, Reads (sortingHeap (copyHeap s.heap its) (s.heap.objs.size + 1) its) v (.tuple (b.2.map .int)) as) its ks := by
        rw [ei]
        refine eachMap _ ks fun p hp => ?_
        obtain ⟨as, z⟩ := rd p hp
        exact ⟨as, PyProof.Rows.Reads.keeps (fun _ _ => sorting_copy_old) z⟩
      have hal : AllAlike (ks.map fun b : Addr × List Int => PyData.tuple (b.2.map .int)) := AllAlike.of fun b b' => alike_tup b.2 b'.2
      refine sorted_vals (κ := dataKind (sortingHeap (copyHeap s.heap its) (s.heap.objs.size + 1) its) (ks.map fun b => PyData.tuple (b.2.map .int))) pl.isList (sortsAt_one (s := { s with heap := sortingHeap (copyHeap s.heap its) (s.heap.objs.size + 1) its }) (each_map (R := fun v d => ∃ as, Reads (sortingHeap (copyHeap s.heap its) (s.heap.objs.size + 1) its) v d as) (fun b : Addr × List Int => PyData.tuple (b.2.map .int)) er) hal (fun d hd => ?_) (by rw [ei, List.length_map]; exact one) fun d hd => ?_) (by rw [ei, List.length_map]; exact lk) (fin _ ?_)
      · obtain ⟨p, _, rfl⟩ := List.mem_map.mp hd
        exact ⟨_, rfl⟩
      · obtain ⟨p, _, rfl⟩ := List.mem_map.mp hd
        rw [depth_tup]
        show X.A.units + 1 + 1 + 1 < _
        omega
      · have z := sortVals_data (R := fun v (p : Addr × List Int) => v = Value.ref p.1) (enc := fun b : Addr × List Int => PyData.tuple (b.2.map .int)) false (by rw [ei]; exact eachMap _ ks fun _ _ => rfl) er hal
        rw [dataLe_tups] at z
        exact z
    · refine sorted_data (R := fun v (p : Addr × List Int) => v = Value.ref p.1) (bs := ks) (enc := fun b => PyData.tuple (b.2.map .int)) pl.isList (by rw [ei]; exact eachMap _ ks fun _ _ => rfl) (by rw [ei]; exact eachMap _ ks rd) (AllAlike.of fun b b' => alike_tup b.2 b'.2) (.inl fun d hd => ?_) lk (fun b _ => by rw [depth_tup]; omega) fun out _ e => ?_
      · obtain ⟨p, hp, rfl⟩ := List.mem_map.mp hd
        cases e : p.2 with
        | nil => exact absurd e (ne p hp)
        | cons x r => exact ⟨.int x, r.map .int, rfl⟩
      · rw [dataLe_tups] at e
        exact fin out e
  · have rd : ∀ p ∈ ks, ∃ as, Reads s.heap (.ref p.1) (.list (p.2.map .int)) as := fun p hp => by
      obtain ⟨its2, rv2, pl2, _⟩ := I.list (tp p hp)
      obtain ⟨o, g1, g2, m, g3⟩ := pl2.isList
      exact ⟨_, .list g1 g2 g3 (readsAll_vals rv2)⟩
    refine sorted_data (R := fun v (p : Addr × List Int) => v = Value.ref p.1) (bs := ks) (enc := fun b => PyData.list (b.2.map .int)) pl.isList (by rw [ei]; exact eachMap _ ks fun _ _ => rfl) (by rw [ei]; exact eachMap _ ks rd) (AllAlike.of fun b b' => alike_lst b.2 b'.2) (.inr fun d hd => ?_) lk (fun b _ => by rw [depth_lst]; omega) fun out _ e => ?_
    · obtain ⟨p, _, rfl⟩ := List.mem_map.mp hd
      exact ⟨nofun, nofun⟩
    · rw [dataLe_rows] at e
      exact fin out e
end L2.Tb
set_option Elab.async false
set_option linter.all false
set_option maxRecDepth 100000
set_option maxHeartbeats 8000000
namespace L2.K33
open PySem PySem.Spec PyProof.Rows L2.Tb
open SX (S)
/-! ### ways: by what may come next -/
def pth (nx : Nat → List Nat) (row : Nat) : Nat → Nat → List (List Nat)
  | 0, _ => []
  | f + 1, i => if i = row then [[]] else if row < i then [] else (nx i).flatMap fun n => (pth nx row f n).map (i :: ·)
def ways (nx : Nat → List Nat) (row i : Nat) : List (List Nat) := pth nx row (row + 1 - i) i
def Fwd (nx : Nat → List Nat) (row : Nat) : Prop := ∀ i, i < row → ∀ n ∈ nx i, i < n
theorem pth_more {nx : Nat → List Nat} {row : Nat} (fw : Fwd nx row) : ∀ f g i, row + 1 ≤ f + i → row + 1 ≤ g + i → pth nx row f i = pth nx row g i
  | 0, 0, _, _, _ => rfl
  | 0, g + 1, i, h, _ => by
    show [] = if i = row then [[]] else if row < i then [] else _
    rw [if_neg (by omega), if_pos (by omega)]
  | f + 1, 0, i, _, h => by
    show (if i = row then [[]] else if row < i then [] else _) = []
    rw [if_neg (by omega), if_pos (by omega)]
  | f + 1, g + 1, i, h1, h2 => by
    show (if i = row then [[]] else if row < i then [] else (nx i).flatMap fun n => (pth nx row f n).map (i :: ·)) = if i = row then [[]] else if row < i then [] else (nx i).flatMap fun n => (pth nx row g n).map (i :: ·)
    by_cases c : i = row
    · rw [if_pos c, if_pos c]
    · by_cases d : row < i
      · rw [if_neg c, if_neg c, if_pos d, if_pos d]
      · rw [if_neg c, if_neg c, if_neg d, if_neg d]
        have : ∀ n ∈ nx i, (pth nx row f n).map (i :: ·) = (pth nx row g n).map (i :: ·) := fun n hn => by
          have := fw i (by omega) n hn
          rw [pth_more fw f g n (by omega) (by omega)]
        rw [List.flatMap_def, List.flatMap_def, List.map_congr_left this]
theorem ways_row {nx : Nat → List Nat} {row : Nat} : ways nx row row = [[]] := by
  unfold ways
  rw [show row + 1 - row = 0 + 1 by omega]
  show (if row = row then [[]] else _) = _
  rw [if_pos rfl]
theorem ways_gt {nx : Nat → List Nat} {row i : Nat} (h : row < i) : ways nx row i = [] := by
  unfold ways
  rw [show row + 1 - i = 0 by omega]
  rfl
theorem ways_lt {nx : Nat → List Nat} {row i : Nat} (fw : Fwd nx row) (h : i < row) : ways nx row i = (nx i).flatMap fun n => (ways nx row n).map (i :: ·) := by
  unfold ways
  rw [show row + 1 - i = (row - i) + 1 by omega]
  show (if i = row then [[]] else if row < i then [] else (nx i).flatMap fun n => (pth nx row (row - i) n).map (i :: ·)) = _
  rw [if_neg (by omega), if_neg (by omega)]
  have : ∀ n ∈ nx i, (pth nx row (row - i) n).map (i :: ·) = (pth nx row (row + 1 - n) n).map (i :: ·) := fun n hn => by
    have := fw i h n hn
    rw [pth_more fw (row - i) (row + 1 - n) n (by omega) (by omega)]
  rw [List.flatMap_def, List.flatMap_def, List.map_congr_left this]
/-- from the last place down -/
theorem down_ind {row : Nat} {p : Nat → Prop} (base : ∀ i, row < i → p i) (top : p row) (step : ∀ i, i < row → (∀ n, i < n → p n) → p i) : ∀ i, p i := by
  have key : ∀ k i, row + 1 - i ≤ k → p i := fun k => by
    induction k with
    | zero => exact fun i h => base i (by omega)
    | succ k ih =>
      intro i h
      by_cases c : i < row
      · exact step i c fun n hn => ih n (by omega)
      · by_cases d : i = row
        · rw [d]; exact top
        · exact base i (by omega)
  exact fun i => key _ i (Nat.le_refl _)
/-! the stack -/
def flat (nx : Nat → List Nat) (row : Nat) (st : List (List Nat × Nat)) : List (List Nat) := st.flatMap fun p => (ways nx row p.2).map (p.1 ++ ·)
def wgt (row : Nat) (st : List (List Nat × Nat)) : Nat := (st.map fun p => 3 ^ (row + 1 - p.2)).sum
theorem flat_app {nx : Nat → List Nat} {row : Nat} (a b : List (List Nat × Nat)) : flat nx row (a ++ b) = flat nx row a ++ flat nx row b := List.flatMap_append ..
theorem flat_one {nx : Nat → List Nat} {row : Nat} (p : List Nat × Nat) : flat nx row [p] = (ways nx row p.2).map (p.1 ++ ·) := by
  show _ ++ [] = _
  rw [List.append_nil]
theorem flat_next {nx : Nat → List Nat} {row i : Nat} (fw : Fwd nx row) (h : i < row) (w : List Nat) : flat nx row ((nx i).map fun n => (w ++ [i], n)) = (ways nx row i).map (w ++ ·) := by
  rw [ways_lt fw h]
  unfold flat
  rw [List.flatMap_map, List.map_flatMap]
  congr 1
  funext n
  show (ways nx row n).map ((w ++ [i]) ++ ·) = _
  rw [List.map_map]
  congr 1
  funext u
  show w ++ [i] ++ u = w ++ (i :: u)
  rw [List.append_assoc]
  rfl
theorem wgt_app {row : Nat} (a b : List (List Nat × Nat)) : wgt row (a ++ b) = wgt row a + wgt row b := by
  unfold wgt
  rw [List.map_append, List.sum_append]
theorem wgt_one {row : Nat} (p : List Nat × Nat) : wgt row [p] = 3 ^ (row + 1 - p.2) := by
  show _ + 0 = _
  rfl
theorem pow_pos3 (n : Nat) : 1 ≤ 3 ^ n := Nat.one_le_pow _ _ (by decide)
theorem wgt_len {row : Nat} : ∀ st : List (List Nat × Nat), st.length ≤ wgt row st
  | [] => Nat.le_refl _
  | p :: st => by
    have a := wgt_len (row := row) st
    have b := pow_pos3 (row + 1 - p.2)
    have e : wgt row (p :: st) = 3 ^ (row + 1 - p.2) + wgt row st := rfl
    rw [e, List.length_cons]
    omega
theorem pow_step {row i n : Nat} (h : i < n) (hi : i < row) : 3 * 3 ^ (row + 1 - n) ≤ 3 ^ (row + 1 - i) := by
  have e : 3 ^ (row - i + 1) = 3 ^ (row - i) * 3 := Nat.pow_succ ..
  rw [show row + 1 - i = row - i + 1 by omega, e]
  have : 3 ^ (row + 1 - n) ≤ 3 ^ (row - i) := Nat.pow_le_pow_right (by decide) (by omega)
  omega
theorem wgt_next {nx : Nat → List Nat} {row i : Nat} (fw : Fwd nx row) (h : i < row) (two : (nx i).length ≤ 2) (w : List Nat) : wgt row ((nx i).map fun n => (w ++ [i], n)) < 3 ^ (row + 1 - i) := by
  have ps := pow_pos3 (row + 1 - i)
  match e : nx i, two with
  | [], _ => exact ps
  | [a], _ =>
    have := pow_step (fw i h a (by rw [e]; exact List.mem_cons_self)) h
    show 3 ^ (row + 1 - a) + 0 < _
    omega
  | [a, b], _ =>
    have h1 := pow_step (fw i h a (by rw [e]; exact List.mem_cons_self)) h
    have h2 := pow_step (fw i h b (by rw [e]; simp)) h
    show 3 ^ (row + 1 - a) + (3 ^ (row + 1 - b) + 0) < _
    omega
theorem ways_len {nx : Nat → List Nat} {row : Nat} (fw : Fwd nx row) (two : ∀ i, i < row → (nx i).length ≤ 2) : ∀ i, (ways nx row i).length ≤ 3 ^ (row + 1 - i) := by
  refine down_ind (row := row) (fun i h => ?_) ?_ fun i h ih => ?_
  · rw [ways_gt h]
    exact Nat.zero_le _
  · rw [ways_row]
    exact pow_pos3 _
  · rw [ways_lt fw h]
    have ps := pow_pos3 (row + 1 - i)
    match e : nx i, two i h with
    | [], _ => exact Nat.zero_le _
    | [a], _ =>
      have l := fw i h a (by rw [e]; exact List.mem_cons_self)
      have h1 := pow_step l h
      have h2 := ih a l
      rw [List.flatMap_cons, List.flatMap_nil, List.append_nil, List.length_map]
      omega
    | [a, b], _ =>
      have l := fw i h a (by rw [e]; exact List.mem_cons_self)
      have l' := fw i h b (by rw [e]; simp)
      have h1 := pow_step l h
      have h2 := ih a l
      have h1' := pow_step l' h
      have h2' := ih b l'
      rw [List.flatMap_cons, List.flatMap_cons, List.flatMap_nil, List.append_nil, List.length_append, List.length_map, List.length_map]
      omega
/-- where a way begins -/
theorem ways_head {nx : Nat → List Nat} {row i : Nat} (fw : Fwd nx row) {w : List Nat} (h : w ∈ ways nx row i) : (i = row ∧ w = []) ∨ (i < row ∧ ∃ n u, n ∈ nx i ∧ u ∈ ways nx row n ∧ w = i :: u) := by
  by_cases c : i < row
  · rw [ways_lt fw c] at h
    obtain ⟨n, hn, h⟩ := List.mem_flatMap.mp h
    obtain ⟨u, hu, rfl⟩ := List.mem_map.mp h
    exact .inr ⟨c, n, u, hn, hu, rfl⟩
  · by_cases d : i = row
    · subst d
      rw [ways_row] at h
      exact .inl ⟨rfl, List.mem_singleton.mp h⟩
    · rw [ways_gt (by omega)] at h
      cases h
theorem ways_nodup {nx : Nat → List Nat} {row : Nat} (fw : Fwd nx row) (nd : ∀ i, i < row → (nx i).Nodup) : ∀ i, (ways nx row i).Nodup := by
  refine down_ind (row := row) (fun i h => ?_) ?_ fun i h ih => ?_
  · rw [ways_gt h]
    exact .nil
  · rw [ways_row]
    exact List.nodup_cons.mpr ⟨by simp, .nil⟩
  · rw [ways_lt fw h]
    have key : ∀ l : List Nat, l.Nodup → (∀ n ∈ l, i < n) → (l.flatMap fun n => (ways nx row n).map (i :: ·)).Nodup := by
      intro l
      induction l with
      | nil => exact fun _ _ => .nil
      | cons n l ihl =>
        intro hd hl
        obtain ⟨h1, h2⟩ := List.nodup_cons.mp hd
        rw [List.flatMap_cons]
        refine List.nodup_append.mpr ⟨?_, ihl h2 fun m hm => hl m (List.mem_cons_of_mem _ hm), ?_⟩
        · exact List.Pairwise.map _ (fun a b hab z => hab (List.cons.inj z).2) (ih n (hl n List.mem_cons_self))
        · intro a ha b hb hab
          subst hab
          obtain ⟨u, hu, rfl⟩ := List.mem_map.mp ha
          obtain ⟨m, hm, hb⟩ := List.mem_flatMap.mp hb
          obtain ⟨v, hv, e⟩ := List.mem_map.mp hb
          have e : v = u := (List.cons.inj e).2
          subst e
          have nm : n ≠ m := fun z => h1 (z ▸ hm)
          rcases ways_head fw hu with ⟨a1, a2⟩ | ⟨a1, x, y, _, _, a2⟩
          · rcases ways_head fw hv with ⟨b1, _⟩ | ⟨_, x', y', _, _, b2⟩
            · omega
            · rw [a2] at b2
              cases b2
          · rcases ways_head fw hv with ⟨_, b2⟩ | ⟨_, x', y', _, _, b2⟩
            · rw [a2] at b2
              cases b2
            · rw [a2] at b2
              exact nm (List.cons.inj b2).1
    exact key _ (nd i h) (fw i h)
theorem ways_lt_row {nx : Nat → List Nat} {row : Nat} (fw : Fwd nx row) : ∀ i, ∀ w ∈ ways nx row i, (∀ x ∈ w, x < row) ∧ w.length ≤ row - i := by
  refine down_ind (row := row) (fun i h w hw => ?_) (fun w hw => ?_) fun i h ih w hw => ?_
  · rw [ways_gt h] at hw
    cases hw
  · rw [ways_row] at hw
    rw [List.mem_singleton.mp hw]
    exact ⟨(fun x hx => by cases hx), Nat.zero_le _⟩
  · rcases ways_head fw hw with ⟨a, _⟩ | ⟨_, n, u, hn, hu, rfl⟩
    · omega
    · have l := fw i h n hn
      obtain ⟨b1, b2⟩ := ih n l u hu
      refine ⟨fun x hx => ?_, ?_⟩
      · rcases List.mem_cons.mp hx with rfl | hx
        · exact h
        · exact b1 x hx
      · rcases ways_head fw hu with ⟨_, rfl⟩ | ⟨c, _⟩
        · rw [List.length_cons, List.length_nil]
          omega
        · rw [List.length_cons]
          omega
/-! ### walks by one choice -/
def wlk (b : Nat → Nat) (row : Nat) : Nat → Nat → List Nat × Nat
  | 0, i => ([], i)
  | f + 1, i => if i < row then (i :: (wlk b row f (b i)).1, (wlk b row f (b i)).2) else ([], i)
theorem wlk_lt {b : Nat → Nat} {row f i : Nat} (h : i < row) : wlk b row (f + 1) i = (i :: (wlk b row f (b i)).1, (wlk b row f (b i)).2) := by
  show (if i < row then _ else _) = _
  rw [if_pos h]
theorem wlk_ge {b : Nat → Nat} {row f i : Nat} (h : ¬ i < row) : wlk b row f i = ([], i) := by
  cases f with
  | zero => rfl
  | succ f =>
    show (if i < row then _ else _) = _
    rw [if_neg h]
theorem wlk_mem {nx : Nat → List Nat} {row : Nat} (fw : Fwd nx row) {b : Nat → Nat} (hb : ∀ i, i < row → b i ∈ nx i) : ∀ f i, row ≤ f + i → (wlk b row f i).2 = row → (wlk b row f i).1 ∈ ways nx row i
  | 0, i, hf, h => by
    have h : i = row := h
    subst h
    rw [ways_row]
    exact List.mem_singleton.mpr rfl
  | f + 1, i, hf, h => by
    by_cases c : i < row
    · rw [wlk_lt c] at h ⊢
      have l := fw i c _ (hb i c)
      rw [ways_lt fw c]
      exact List.mem_flatMap.mpr ⟨b i, hb i c, List.mem_map.mpr ⟨_, wlk_mem fw hb f (b i) (by omega) h, rfl⟩⟩
    · rw [wlk_ge c] at h ⊢
      have h : i = row := h
      subst h
      rw [ways_row]
      exact List.mem_singleton.mpr rfl
/-- only places ahead matter -/
theorem wlk_congr {nx : Nat → List Nat} {row : Nat} (fw : Fwd nx row) {b b' : Nat → Nat} (hb : ∀ i, i < row → b i ∈ nx i) : ∀ f i, (∀ j, i ≤ j → j < row → b j = b' j) → wlk b row f i = wlk b' row f i
  | 0, _, _ => rfl
  | f + 1, i, h => by
    by_cases c : i < row
    · rw [wlk_lt c, wlk_lt c, ← h i (Nat.le_refl _) c, wlk_congr fw hb f (b i) fun j hj => h j (Nat.le_trans (Nat.le_of_lt (fw i c _ (hb i c))) hj)]
    · rw [wlk_ge c, wlk_ge c]
theorem wlk_ex {nx : Nat → List Nat} {row : Nat} (fw : Fwd nx row) (some1 : ∀ i, i < row → ∃ n, n ∈ nx i) : ∀ i, ∀ w ∈ ways nx row i, ∃ b : Nat → Nat, (∀ j, j < row → b j ∈ nx j) ∧ ∀ f, row ≤ f + i → wlk b row f i = (w, row) := by
  have dflt : ∃ d : Nat → Nat, ∀ j, j < row → d j ∈ nx j := ⟨fun j => (nx j).headD 0, fun j hj => by
    obtain ⟨n, hn⟩ := some1 j hj
    cases e : nx j with
    | nil => rw [e] at hn; cases hn
    | cons x r =>
      show (nx j).headD 0 ∈ x :: r
      rw [e]
      exact List.mem_cons_self⟩
  obtain ⟨d, hd⟩ := dflt
  refine down_ind (row := row) (fun i h w hw => ?_) (fun w hw => ?_) fun i h ih w hw => ?_
  · rw [ways_gt h] at hw
    cases hw
  · rw [ways_row] at hw
    rw [List.mem_singleton.mp hw]
    exact ⟨d, hd, fun f _ => wlk_ge (Nat.lt_irrefl _)⟩
  · rcases ways_head fw hw with ⟨a, _⟩ | ⟨_, n, u, hn, hu, rfl⟩
    · omega
    · have l := fw i h n hn
      obtain ⟨b, h1, h2⟩ := ih n l u hu
      have hb : ∀ j, j < row → (fun j => if j = i then n else b j) j ∈ nx j := fun j hj => by
        show (if j = i then n else b j) ∈ nx j
        by_cases c : j = i
        · rw [if_pos c, c]; exact hn
        · rw [if_neg c]; exact h1 j hj
      refine ⟨fun j => if j = i then n else b j, hb, fun f hf => ?_⟩
      obtain ⟨g, rfl⟩ : ∃ g, f = g + 1 := ⟨f - 1, by omega⟩
      rw [wlk_lt h, if_pos rfl, wlk_congr fw hb g n (b' := b) fun j hj _ => if_neg (by omega), h2 g (by omega)]
/-- all numbers' bits -/
theorem bits_ex : ∀ bs : List Bool, ∃ c, c < 2 ^ bs.length ∧ ∀ k, k < bs.length → decide (c / 2 ^ k % 2 = 1) = bs.getD k false
  | [] => ⟨0, by decide, fun k h => by cases h⟩
  | b :: bs => by
    obtain ⟨c, h1, h2⟩ := bits_ex bs
    refine ⟨2 * c + (if b = true then 1 else 0), ?_, fun k h => ?_⟩
    · rw [List.length_cons, Nat.pow_succ]
      split <;> omega
    · cases k with
      | zero =>
        cases b with
        | true => exact decide_eq_true (by rw [if_pos rfl]; omega)
        | false => exact decide_eq_false (by rw [if_neg (by decide)]; omega)
      | succ k =>
        have e : (2 * c + (if b = true then 1 else 0)) / 2 ^ (k + 1) = c / 2 ^ k := by
          rw [Nat.pow_succ, Nat.mul_comm (2 ^ k) 2, ← Nat.div_div_eq_div_mul]
          congr 1
          split <;> omega
        rw [e]
        exact h2 k (Nat.lt_of_succ_lt_succ h)
/-- found so far: without what was found before -/
def fnd (g : Nat → Option (List Nat)) : Nat → List (List Nat)
  | 0 => []
  | n + 1 => match g n with
    | none => fnd g n
    | some w => if w ∈ fnd g n then fnd g n else fnd g n ++ [w]
theorem fnd_succ (g : Nat → Option (List Nat)) (n : Nat) : fnd g (n + 1) = match g n with
    | none => fnd g n
    | some w => if w ∈ fnd g n then fnd g n else fnd g n ++ [w] := rfl
theorem fnd_nodup (g : Nat → Option (List Nat)) : ∀ n, (fnd g n).Nodup
  | 0 => .nil
  | n + 1 => by
    rw [fnd_succ]
    cases g n with
    | none => exact fnd_nodup g n
    | some w =>
      dsimp only
      by_cases c : w ∈ fnd g n
      · rw [if_pos c]; exact fnd_nodup g n
      · rw [if_neg c]
        refine List.nodup_append.mpr ⟨fnd_nodup g n, List.nodup_cons.mpr ⟨by simp, .nil⟩, fun a ha b hb z => ?_⟩
        rw [List.mem_singleton.mp hb] at z
        exact c (z ▸ ha)
theorem fnd_mem (g : Nat → Option (List Nat)) (w : List Nat) : ∀ n, w ∈ fnd g n ↔ ∃ c, c < n ∧ g c = some w
  | 0 => by
    constructor
    · intro h
      cases h
    · rintro ⟨c, h, _⟩
      omega
  | n + 1 => by
    have ih := fnd_mem g w n
    have more : (∃ c, c < n + 1 ∧ g c = some w) ↔ (∃ c, c < n ∧ g c = some w) ∨ g n = some w := by
      constructor
      · rintro ⟨c, h1, h2⟩
        by_cases d : c = n
        · exact .inr (d ▸ h2)
        · exact .inl ⟨c, by omega, h2⟩
      · rintro (⟨c, h1, h2⟩ | h)
        · exact ⟨c, by omega, h2⟩
        · exact ⟨n, by omega, h⟩
    rw [more, ← ih]
    rw [fnd_succ]
    cases e : g n with
    | none => exact ⟨.inl, fun h => h.elim id fun z => by cases z⟩
    | some v =>
      dsimp only
      by_cases c : v ∈ fnd g n
      · rw [if_pos c]
        exact ⟨.inl, fun h => h.elim id fun z => by cases z; exact c⟩
      · rw [if_neg c, List.mem_append, List.mem_singleton]
        exact ⟨fun h => h.imp id fun z => by rw [z], fun h => h.imp id fun z => by cases z; rfl⟩
theorem fnd_len (g : Nat → Option (List Nat)) : ∀ n, (fnd g n).length ≤ n
  | 0 => Nat.le_refl _
  | n + 1 => by
    have := fnd_len g n
    rw [fnd_succ]
    cases g n with
    | none => exact Nat.le_succ_of_le this
    | some v =>
      dsimp only
      split
      · exact Nat.le_succ_of_le this
      · rw [List.length_append, List.length_singleton]
        omega
/-! ### in the lists' order -/
def intsN (w : List Nat) : List Int := w.map fun n : Nat => (n : Int)
theorem intsN_inj {a b : List Nat} (h : intsN a = intsN b) : a = b :=
  List.map_inj_right (fun _ _ z => Int.ofNat_inj.mp z) |>.mp h
def ordI (ws : List (List Int)) : List (List Int) := ws.mergeSort fun a b => decide (a ≤ b)
theorem byLe_trans {α : Type} (a b c : α × List Int) (h1 : L2.Tb.byLe a b = true) (h2 : L2.Tb.byLe b c = true) : L2.Tb.byLe a c = true :=
  decide_eq_true (List.le_trans (of_decide_eq_true h1) (of_decide_eq_true h2))
theorem byLe_total {α : Type} (a b : α × List Int) : (L2.Tb.byLe a b || L2.Tb.byLe b a) = true := by
  rcases List.le_total a.2 b.2 with h | h
  · rw [show L2.Tb.byLe a b = true from decide_eq_true h]; rfl
  · rw [show L2.Tb.byLe b a = true from decide_eq_true h, Bool.or_true]
theorem ordI_perm (ws : List (List Int)) : (ordI ws).Perm ws := List.mergeSort_perm ..
theorem ordI_pw (ws : List (List Int)) : (ordI ws).Pairwise (fun a b => a ≤ b) := by
  have := List.pairwise_mergeSort (le := fun a b : List Int => decide (a ≤ b)) (fun a b c h1 h2 => decide_eq_true (List.le_trans (of_decide_eq_true h1) (of_decide_eq_true h2))) (fun a b => by
    rcases List.le_total a b with h | h
    · rw [decide_eq_true h]; rfl
    · rw [decide_eq_true h, Bool.or_true]) ws
  exact this.imp of_decide_eq_true
theorem ord_one {l m : List (List Int)} (p : l.Perm m) (pl : l.Pairwise (fun a b => a ≤ b)) (pm : m.Pairwise (fun a b => a ≤ b)) : l = m :=
  List.Perm.eq_of_pairwise (fun _ _ _ _ h1 h2 => List.le_antisymm h1 h2) pl pm p
/-- sorted with what they stand for -/
theorem byLe_ord {α : Type} {ks : List (α × List Int)} {ws : List (List Int)} (p : (ks.map (·.2)).Perm ws) : (ks.mergeSort L2.Tb.byLe).map (·.2) = ordI ws := by
  refine ord_one (((List.mergeSort_perm ks L2.Tb.byLe).map (·.2)).trans (p.trans (ordI_perm ws).symm)) ?_ (ordI_pw ws)
  refine List.pairwise_map.mpr ((List.pairwise_mergeSort byLe_trans byLe_total ks).imp fun h => ?_)
  exact of_decide_eq_true h
end L2.K33
set_option Elab.async false
set_option linter.all false
set_option maxRecDepth 100000
set_option maxHeartbeats 8000000
namespace L2.K33
open PySem PySem.Spec PyProof.Rows L2.Tb
open SX (S)
abbrev s_is_integer : Stmt := top 17
abbrev N_is_integer : List Str := ["value"]
theorem sc_is_integer : FnScope N_is_integer ["value"] (defScope s_is_integer) := ⟨rfl, rfl, rfl, by decide +kernel, rfl, by decide +kernel, by decide +kernel⟩
abbrev s_is_number : Stmt := top 18
abbrev N_is_number : List Str := ["value", "least", "most"]
theorem sc_is_number : FnScope N_is_number ["value", "least", "most"] (defScope s_is_number) := ⟨rfl, rfl, rfl, by decide +kernel, rfl, by decide +kernel, by decide +kernel⟩
abbrev s_check_row : Stmt := top 45
abbrev N_check_row : List Str := ["script", "row"]
theorem sc_check_row : FnScope N_check_row ["script", "row"] (defScope s_check_row) := ⟨rfl, rfl, rfl, by decide +kernel, rfl, by decide +kernel, by decide +kernel⟩
abbrev s_following : Stmt := top 42
abbrev N_following : List Str := ["step", "at", "word", "_", "goal"]
theorem sc_following : FnScope N_following ["step", "at"] (defScope s_following) := ⟨rfl, rfl, rfl, by decide +kernel, rfl, by decide +kernel, by decide +kernel⟩
/-- no integer, as is_integer sees it -/
def NoI (K : PySem.W.Frag) (H : Hp) (v : V) : Prop := ∃ Tn : String, TyX K H v (.type Tn) ∧ (kitB Tn "int" = some false ∨ (kitB Tn "int" = some true ∧ kitB Tn "bool" = some true))
def spIsInt (K : PySem.W.Frag) : Sp := fun vs H Q _ => ∃ v : V, vs = [v] ∧ ((∃ i, v = .int i ∧ Q (.bl true) H) ∨ (NoI K H v ∧ Q (.bl false) H))
def spIsNum (K : PySem.W.Frag) : Sp := fun vs H Q _ => ∃ (v : V) (a b : Int), vs = [v, .int a, .int b] ∧ ((∃ i, v = .int i ∧ Q (.bl (decide (a ≤ i ∧ i ≤ b))) H) ∨ (NoI K H v ∧ Q (.bl false) H))
/-- an index from 0 to m, or none -/
def IxBad (K : PySem.W.Frag) (H : Hp) (v : V) (m : Nat) : Prop := (∃ i : Int, v = .int i ∧ ¬ (0 ≤ i ∧ i ≤ m)) ∨ NoI K H v
def spCheckRow (K : PySem.W.Frag) (C SC CJ : Addr) : Sp := fun vs H Q E => ∃ (a : Addr) (d : Scr) (v : V), vs = [.ref a, v] ∧ ScAt C SC H a d ∧ d.rws.length ≤ 99 ∧ ((∃ i : Nat, v = .int (i : Int) ∧ i ≤ d.rws.length ∧ Q .non H) ∨ (IxBad K H v d.rws.length ∧ ErrG H CJ E v))
/-- what may come behind a step at i -/
def nextR (st : RSt) (i : Nat) : List Nat := if st.word = goW then [st.goal.getD 0] else match st.goal with
  | none => [i + 1]
  | some g => [i + 1, g]
def spFollow : Sp := fun vs H Q _ => ∃ (t : Addr) (st : RSt) (i : Nat), vs = [.ref t, .int (i : Int)] ∧ RStAt H t st ∧ (st.word = goW → st.goal ≠ none) ∧ ∀ T, H T = none → Q (.ref T) (upd H T (.tup ((nextR st i).map fun n : Nat => V.int (n : Int))))
section
variable {P : Program} {w : World} {K : PySem.W.Frag} {mg : Str → Option Value} {base : Heap} {f fl : Addr} {fd fdl : FuncData} {C SC CJ : Addr}
theorem c_is_integer (T : Bt mg) (F : FnP K "is_integer" s_is_integer f fd) (hm : mg "is_integer" = some (.ref f)) : Cal P w K mg base 1 "is_integer" (spIsInt K) := by
  have hnd := sc_is_integer.nd
  refine cal_mk F hm sc_is_integer (fun _ _ _ _ _ _ us hl => match us, hl with | [_], _ => rfl) (fun vs H Q E h => ?_) (fun cdv A outer s H vs Q E hr h => ?_)
  · obtain ⟨v, rfl, h⟩ := h
    rfl
  · obtain ⟨v, rfl, h⟩ := h
    refine ⟨_, (pss_one (ps_ret (pe_and (pe_callB call_isi (by rfl) T.m_isinstance (by decide +kernel) (pa_cons (pv 0) (pa_cons (pe_bltn (v := .ty "int") (by rfl) T.m_int (by decide +kernel) rfl) pa_nil))) (pe_one (pe_not (pe_callB call_isi (by rfl) T.m_isinstance (by decide +kernel) (pa_cons (pv 0) (pa_cons (pe_bltn (v := .ty "bool") (by rfl) T.m_bool (by decide +kernel) rfl) pa_nil)))))))), ?_⟩
    rcases h with ⟨i, rfl, q⟩ | ⟨⟨Tn, ty, k⟩, q⟩
    · exact ⟨_, rfl, _, _, _, _, _, rfl, .ty _, .base (.int i), kit_ty (by decide +kernel : kitB "int" "int" = some true), _, rfl, iteT ⟨_, rfl, _, _, _, _, _, rfl, .ty _, .base (.int i), kit_ty (by decide +kernel : kitB "int" "bool" = some false), _, rfl, q⟩⟩
    · rcases k with k | ⟨k1, k2⟩
      · exact ⟨_, rfl, _, _, _, _, _, rfl, .ty _, ty, kit_ty k, _, rfl, iteF q⟩
      · exact ⟨_, rfl, _, _, _, _, _, rfl, .ty _, ty, kit_ty k1, _, rfl, iteT ⟨_, rfl, _, _, _, _, _, rfl, .ty _, ty, kit_ty k2, _, rfl, q⟩⟩
theorem c_is_number (k_is_integer : Cal P w K mg base 1 "is_integer" (spIsInt K)) (F : FnP K "is_number" s_is_number f fd) (hm : mg "is_number" = some (.ref f)) : Cal P w K mg base 2 "is_number" (spIsNum K) := by
  have hnd := sc_is_number.nd
  refine cal_mk F hm sc_is_number (fun _ _ _ _ _ _ us hl => match us, hl with | [_, _, _], _ => rfl) (fun vs H Q E h => ?_) (fun cdv A outer s H vs Q E hr h => ?_)
  · obtain ⟨v, a, b, rfl, _⟩ := h
    rfl
  · obtain ⟨v, a, b, rfl, h⟩ := h
    refine ⟨_, (pss_one (ps_ret (pe_and (pe_cal k_is_integer hr (by omega) (by rfl) (pa_cons (pv 0) pa_nil)) (pe_one (pe_chain op_le op_le (pv 1) (pv 0) (pv 2)))))), ?_⟩
    rcases h with ⟨i, rfl, q⟩ | ⟨no, q⟩
    · refine ⟨_, rfl, .int i, rfl, .inl ⟨i, rfl, _, rfl, iteT ?_⟩⟩
      refine ⟨_, rfl, _, rfl, _, _, rfl, rfl, _, rfl, ?_⟩
      by_cases c : a ≤ i
      · refine iteT2 (decide_eq_true c) ⟨_, rfl, _, _, rfl, rfl, ?_⟩
        rw [show decide (a ≤ i ∧ i ≤ b) = decide (i ≤ b) by simp [c]] at q
        exact q
      · rw [show decide (a ≤ i ∧ i ≤ b) = false by simp [c]] at q
        refine iteN2 (decide_eq_false c) ?_
        exact q
    · exact ⟨_, rfl, v, rfl, .inr ⟨no, _, rfl, iteF q⟩⟩
theorem c_check_row (T : Bt mg) (Gl : FnOk P w K mg base L2.CX0 1 fl fdl ["self"] (spSlen C SC)) (ghl : PySem.W.findIn K (.ref SC) "__len__" = some (some (.ref fl))) (ghlf : PySem.W.isFn K (.ref fl) = true) (BGl : Binds K fdl ["self"] [])
    (k_is_number : Cal P w K mg base 2 "is_number" (spIsNum K)) (eInvalidIndex : ErC P w K mg base "InvalidIndex" "given" bVE CJ) (tyInvalidIndex : PySem.W.typeIn K (.ref CJ) = some (.type "type")) (F : FnP K "check_row" s_check_row f fd) (hm : mg "check_row" = some (.ref f)) : CalX P w K mg base 3 "check_row" (spCheckRow K C SC CJ) := by
  have hnd := sc_check_row.nd
  refine calX_of F hm (fun _ _ _ _ _ _ us hl => match us, hl with | [_, _], _ => rfl) (F.ok sc_check_row (fun vs H Q E h => ?_) (fun cdv A outer s H vs Q E hr h => ?_))
  · obtain ⟨a, d, v, rfl, _⟩ := h
    rfl
  · obtain ⟨a, d, v, rfl, sc, l99, h⟩ := h
    refine ⟨_, (pss_one (ps_if (pt_not (pt_val (pe_cal k_is_number hr (by omega) (by rfl) (pa_cons (pv 1) (pa_cons pe_int (pa_cons (pe_callB (show CallR _ (.builtin "len") (rLenOwn SC (spSlen C SC)) from call_lenOwn Gl (hr.mono (by omega)) ghl ghlf BGl) (by rfl) T.m_len (by decide +kernel) (pa_cons (pv 0) pa_nil)) pa_nil))))))
      (pss_one (ps_raise (by rfl) (takes_of rfl rfl rfl rfl) (pmk_er eInvalidIndex tyInvalidIndex hr (by omega) (by rfl) (pv 1))))
      pss_nil)), ?_⟩
    obtain ⟨dx, Tt, tk, bx, rw9, ts, h1, r1⟩ := id sc
    refine ⟨_, rfl, _, rfl, a, dx, _, rfl, h1, a, d, rfl, sc, (d.rws.length : Int), rfl, by omega, by omega, v, 0, (d.rws.length : Int), rfl, ?_⟩
    rcases h with ⟨i, rfl, hi, q⟩ | ⟨bad, q⟩
    · exact .inl ⟨_, rfl, _, rfl, iteN2 (by rw [decide_eq_true (by omega)]; rfl) q⟩
    · rcases bad with ⟨i, rfl, hi⟩ | no
      · exact .inl ⟨_, rfl, _, rfl, iteT2 (by rw [decide_eq_false hi]; rfl) ⟨_, rfl, q⟩⟩
      · exact .inr ⟨no, _, rfl, iteT2 rfl ⟨_, rfl, q⟩⟩
theorem c_following (RF : RoF K mg) (F : FnP K "_following" s_following f fd) (hm : mg "_following" = some (.ref f)) : Cal P w K mg base 1 "_following" spFollow := by
  have hnd := sc_following.nd
  obtain ⟨tg, hgo⟩ := RF.mgo
  refine cal_mk F hm sc_following (fun _ _ _ _ _ _ us hl => match us, hl with | [_, _], _ => rfl) (fun vs H Q E h => ?_) (fun cdv A outer s H vs Q E hr h => ?_)
  · obtain ⟨t, st, i, rfl, _⟩ := h
    rfl
  · obtain ⟨t, st, i, rfl, ⟨nt, e1, e2⟩, hg, q⟩ := h
    refine ⟨_, (pss_cons (ps_asg (pv 0) (pg_tup (by rfl) (pgs_cons (pg_name (i := 2) hnd rfl (by first | exact Or.inl rfl | exact Or.inr rfl)) (pgs_cons (pg_name (i := 3) hnd rfl (by first | exact Or.inl rfl | exact Or.inr rfl)) (pgs_cons (pg_name (i := 4) hnd rfl (by first | exact Or.inl rfl | exact Or.inr rfl)) pgs_nil)))))
      (pss_cons (ps_if (pt_cmpR op_eq (pv 2) (pe_glob (v := .str "go") (by rfl) hgo ⟨_, rfl⟩) (nomark _))
      (pss_one (ps_ret (pe_tup (pa_cons (pv 4) pa_nil))))
      pss_nil)
      (pss_cons (ps_if (pt_cmpR op_isN (pv 4) pe_non (nomark _))
      (pss_one (ps_ret (pe_tup (pa_cons (pe_op op_add (pv 1) pe_int) pa_nil))))
      pss_nil)
      (pss_one (ps_ret (pe_tup (pa_cons (pe_op op_add (pv 1) pe_int) (pa_cons (pv 4) pa_nil)))))))), ?_⟩
    refine ⟨_, rfl, t, _, rfl, SqT.of e1, rfl, _, _, rfl, _, _, rfl, _, _, rfl, rfl, ?_⟩
    try dsimp only
    have hgo9 : decide (nmV st.word = V.str (Str.ofString "go")) = decide (st.word = goW) := by rw [nm_S, nm_eq]; rfl
    refine ⟨_, rfl, rfl, _, rfl, ?_⟩
    rw [hgo9]
    unfold nextR at q
    by_cases c : st.word = goW
    · rw [if_pos c] at q
      refine iteT2 (decide_eq_true c) ⟨_, rfl, Nat.le_of_ble_eq_true rfl, fun T9 nT => ?_⟩
      cases eg : st.goal with
      | none => exact absurd eg (hg c)
      | some g =>
        rw [eg] at q
        exact q T9 nT
    · rw [if_neg c] at q
      refine iteN2 (decide_eq_false c) ?_
      dsimp only [tNext]
      cases eg : st.goal with
      | none =>
        rw [eg] at q
        refine ⟨_, rfl, rfl, _, rfl, iteT2 (by decide +kernel) ⟨_, rfl, _, _, rfl, rfl, Nat.le_of_ble_eq_true rfl, fun T9 nT => ?_⟩⟩
        exact q T9 nT
      | some g =>
        rw [eg] at q
        refine ⟨_, rfl, rfl, _, rfl, iteN2 (decide_eq_false (by intro z; cases z)) ?_⟩
        dsimp only [tNext]
        refine ⟨_, rfl, _, _, rfl, rfl, _, rfl, Nat.le_of_ble_eq_true rfl, fun T9 nT => ?_⟩
        exact q T9 nT
end
end L2.K33
set_option Elab.async false
set_option linter.all false
set_option maxRecDepth 100000
set_option maxHeartbeats 8000000
namespace L2.K33
open PySem PySem.Spec PyProof.Rows L2.Tb
open SX (S)
abbrev s_all_ways : Stmt := top 38
abbrev N_all_ways : List Str := ["steps", "row", "ways", "waiting", "way", "at", "following"]
theorem sc_all_ways : FnScope N_all_ways ["steps", "row"] (defScope s_all_ways) := ⟨rfl, rfl, rfl, by decide +kernel, rfl, by decide +kernel, by decide +kernel⟩
def nxR (sts : List RSt) (i : Nat) : List Nat := match sts[i]? with
  | some st => nextR st i
  | none => []
/-- steps that lead forward -/
structure FwdR (sts : List RSt) : Prop where
  len : sts.length ≤ 12
  go : ∀ (k : Nat) (st : RSt), sts[k]? = some st → st.word = goW → st.goal ≠ none
  fw : ∀ (k : Nat) (st : RSt), sts[k]? = some st → ∀ n ∈ nextR st k, k < n
/-- the ways to a row in their order, as ints -/
def waysI (nx : Nat → List Nat) (row : Nat) : List (List Int) := ordI ((ways nx row 0).map intsN)
def TupI (H : Hp) (a : Addr) (w : List Int) : Prop := H a = some (.tup (w.map V.int))
def StkAt (G : Hp) (q : Addr) (p : List Nat × Nat) : Prop := ∃ u, G q = some (.tup [.ref u, .int ((p.2 : Nat) : Int)]) ∧ TupI G u (intsN p.1)
theorem TupI.same {H H' : Hp} {a : Addr} {w : List Int} (h : TupI H a w) (s : Same H H') : TupI H' a w := s _ _ h
theorem TupI.put {H : Hp} {t L : Addr} {xs ys : List V} {w : List Int} (h : TupI H t w) (e : H L = some (.lst xs)) : TupI (upd H L (.lst ys)) t w := by
  unfold TupI
  rw [upd_ne fun z => ?_]
  · exact h
  · unfold TupI at h
    rw [z, e] at h
    cases h
theorem StkAt.same {H H' : Hp} {q : Addr} {p : List Nat × Nat} (h : StkAt H q p) (s : Same H H') : StkAt H' q p := let ⟨u, a, b⟩ := h; ⟨u, s _ _ a, b.same s⟩
theorem StkAt.put {H : Hp} {t L : Addr} {xs ys : List V} {p : List Nat × Nat} (h : StkAt H t p) (e : H L = some (.lst xs)) : StkAt (upd H L (.lst ys)) t p := by
  obtain ⟨u, a, b⟩ := h
  refine ⟨u, ?_, b.put e⟩
  rw [upd_ne fun z => ?_]
  · exact a
  · rw [z, e] at a
    cases a
/-- amid the work: what is found, what waits -/
structure WI (H : Hp) (nx : Nat → List Nat) (row : Nat) (A B : Addr) (found : List (List Nat)) (fs : List Addr) (st : List (List Nat × Nat)) (qs : List Addr) (G : Hp) : Prop where
  s : Same H G
  eA : G A = some (.lst (fs.map V.ref))
  eB : G B = some (.lst (qs.map V.ref))
  pf : Paired (fun u w => TupI G u (intsN w)) fs found
  ps : Paired (StkAt G) qs st
  pl : ∀ p ∈ st, p.1.length ≤ p.2
theorem WI.same {H : Hp} {nx : Nat → List Nat} {row : Nat} {A B : Addr} {found : List (List Nat)} {fs : List Addr} {st : List (List Nat × Nat)} {qs : List Addr} {G G' : Hp} (h : WI H nx row A B found fs st qs G) (s : Same G G') : WI H nx row A B found fs st qs G' :=
  ⟨h.s.trans s, s _ _ h.eA, s _ _ h.eB, paired_imp (fun _ _ z => TupI.same z s) h.pf, paired_imp (fun _ _ z => StkAt.same z s) h.ps, h.pl⟩
/-- another list of what waits -/
theorem WI.putB {H : Hp} {nx : Nat → List Nat} {row : Nat} {A B : Addr} {found : List (List Nat)} {fs : List Addr} {st st' : List (List Nat × Nat)} {qs qs' : List Addr} {G : Hp} (h : WI H nx row A B found fs st qs G) (nB : H B = none) (ab : A ≠ B) (p : Paired (StkAt G) qs' st') (l : ∀ p ∈ st', p.1.length ≤ p.2) :
    WI H nx row A B found fs st' qs' (upd G B (.lst (qs'.map V.ref))) :=
  ⟨same_put nB h.s, by rw [upd_ne ab]; exact h.eA, upd_same, paired_imp (fun _ _ z => TupI.put z h.eB) h.pf, paired_imp (fun _ _ z => StkAt.put z h.eB) p, l⟩
theorem WI.putA {H : Hp} {nx : Nat → List Nat} {row : Nat} {A B : Addr} {found found' : List (List Nat)} {fs fs' : List Addr} {st : List (List Nat × Nat)} {qs : List Addr} {G : Hp} (h : WI H nx row A B found fs st qs G) (nA : H A = none) (ab : A ≠ B) (p : Paired (fun u w => TupI G u (intsN w)) fs' found') :
    WI H nx row A B found' fs' st qs (upd G A (.lst (fs'.map V.ref))) :=
  ⟨same_put nA h.s, upd_same, by rw [upd_ne (Ne.symm ab)]; exact h.eB, paired_imp (fun _ _ z => TupI.put z h.eA) p, paired_imp (fun _ _ z => StkAt.put z h.eA) h.ps, h.pl⟩
theorem paired_snoc_inv {α β : Type} {R : α → β → Prop} : ∀ {xs : List α} {x : α} {ys : List β}, Paired R (xs ++ [x]) ys → ∃ ys' y, ys = ys' ++ [y] ∧ Paired R xs ys' ∧ R x y
  | [], x, _, .cons h .nil => ⟨[], _, rfl, .nil, h⟩
  | a :: xs, x, _, .cons h t => by
    obtain ⟨ys', y, rfl, p, r⟩ := paired_snoc_inv t
    exact ⟨_ :: ys', y, rfl, .cons h p, r⟩
theorem paired_pairs {α β : Type} {R : α → β → Prop} : ∀ ks : List (α × β), (∀ p ∈ ks, R p.1 p.2) → Paired R (ks.map (·.1)) (ks.map (·.2))
  | [], _ => .nil
  | k :: ks, h => .cons (h k List.mem_cons_self) (paired_pairs ks fun p hp => h p (List.mem_cons_of_mem _ hp))
theorem paired_zip {α β : Type} {R : α → β → Prop} : ∀ {xs : List α} {ys : List β}, Paired R xs ys → (∀ p ∈ xs.zip ys, R p.1 p.2) ∧ (xs.zip ys).map (·.1) = xs ∧ (xs.zip ys).map (·.2) = ys
  | _, _, .nil => ⟨(fun p hp => by cases hp), rfl, rfl⟩
  | _, _, .cons h t => by
    obtain ⟨a, b, c⟩ := paired_zip t
    refine ⟨fun p hp => ?_, by rw [List.zip_cons_cons, List.map_cons, b], by rw [List.zip_cons_cons, List.map_cons, c]⟩
    rcases List.mem_cons.mp hp with rfl | hp
    · exact h
    · exact a p hp
theorem paired_mapR {α β γ : Type} {R : α → γ → Prop} (g : β → γ) : ∀ {xs : List α} {ys : List β}, Paired (fun x y => R x (g y)) xs ys → Paired R xs (ys.map g)
  | _, _, .nil => .nil
  | _, _, .cons h t => .cons h (paired_mapR g t)
def WW (H : Hp) (nx : Nat → List Nat) (Ts : Addr) (row : Nat) (A B : Addr) (m : Nat) (σ : St) (G : Hp) : Prop := ∃ (found : List (List Nat)) (fs : List Addr) (st : List (List Nat × Nat)) (qs : List Addr) (x4 x5 x6 : Option V), σ = [some (.ref Ts), some (.int (row : Int)), some (.ref A), some (.ref B), x4, x5, x6] ∧ WI H nx row A B found fs st qs G ∧
  (found ++ flat nx row st).Perm (ways nx row 0) ∧ m = wgt row st ∧ m ≤ 1594323
theorem pf_len {α β : Type} {R : α → β → Prop} {xs : List α} {ys : List β} (h : Paired R xs ys) : xs.length = ys.length := h.length
theorem pair_get {α β : Type} {R : α → β → Prop} {xs : List α} {ys : List β} (h : Paired R xs ys) {i : Nat} {y : β} (e : ys[i]? = some y) : ∃ x, xs[i]? = some x ∧ R x y := by
  have il : i < ys.length := (List.getElem?_eq_some_iff.mp e).1
  have jl : i < xs.length := by rw [h.length]; exact il
  obtain ⟨y', hy, r⟩ := pairedNth h (List.getElem?_eq_getElem jl)
  rw [e] at hy
  cases hy
  exact ⟨_, List.getElem?_eq_getElem jl, r⟩
theorem catA_go {K : PySem.W.Frag} {a b : Addr} {xs ys : List V} {H : Hp} {Q : VK} (ha : SqT K H a xs) (hb : H b = some (.tup ys)) (ny : ys ≠ []) (l : xs.length + ys.length ≤ sizeLine) (q : ∀ r H', Same H H' → H' r = some (.tup (xs ++ ys)) → Q (.ref r) H') : rCatA K (.ref a) (.ref b) H Q := by
  refine ⟨a, b, xs, ys, rfl, rfl, ha, SqT.of hb, l, fun z => q b H (Same.refl _) (by rw [z]; exact hb), fun _ z => absurd z ny, fun _ _ p np => q p _ (same_new np) upd_same⟩
def spAllWays : Sp := fun vs H Q _ => ∃ (T : Addr) (ts : List Addr) (sts : List RSt) (row : Nat), vs = [.ref T, .int (row : Int)] ∧ H T = some (.tup (ts.map V.ref)) ∧ Paired (fun t st => RStAt H t st) ts sts ∧ FwdR sts ∧ row ≤ sts.length ∧
  ∀ (L : Addr) (us : List Addr) H', Same H H' → H L = none → H' L = some (.lst (us.map V.ref)) → Paired (fun u w => TupI H' u w) us (waysI (nxR sts) row) → Q (.ref L) H'
section
variable {P : Program} {w : World} {K : PySem.W.Frag} {mg : Str → Option Value} {base : Heap} {f : Addr} {fd : FuncData}
theorem c_all_ways (T : Bt mg) (k_following : Cal P w K mg base 1 "_following" spFollow) (F : FnP K "all_ways" s_all_ways f fd) (hm : mg "all_ways" = some (.ref f)) : Cal P w K mg base 2 "all_ways" spAllWays := by
  have hnd := sc_all_ways.nd
  refine cal_mk F hm sc_all_ways (fun _ _ _ _ _ _ us hl => match us, hl with | [_, _], _ => rfl) (fun vs H Q E h => ?_) (fun cdv A outer s H vs Q E hr h => ?_)
  · obtain ⟨Ts, ts, sts, row, rfl, _⟩ := h
    rfl
  · obtain ⟨Ts, ts, sts, row, rfl, eT, pt, fr, hrow, q⟩ := h
    refine ⟨_, (pss_cons (ps_set (i := 2) hnd rfl (by first | exact Or.inl rfl | exact Or.inr rfl) (pe_lst pa_nil))
      (pss_cons (ps_set (i := 3) hnd rfl (by first | exact Or.inl rfl | exact Or.inr rfl) (pe_lst (pa_cons (pe_tup (pa_cons (pe_tup pa_nil) (pa_cons pe_int pa_nil))) pa_nil)))
      (pss_cons (ps_while PassesOwn.never (pt_truth (pv 3) (by intro _; rfl))
      (pss_cons (ps_asg (pe_bm0 PySem.F.plainAttrs_list PySem.F.slot_list_pop PySem.F.type_list_pop mt_pop (pv 3)) (pg_tup (by rfl) (pgs_cons (pg_name (i := 4) hnd rfl (by first | exact Or.inl rfl | exact Or.inr rfl)) (pgs_cons (pg_name (i := 5) hnd rfl (by first | exact Or.inl rfl | exact Or.inr rfl)) pgs_nil))))
      (pss_one (ps_if (pt_cmpR op_eq (pv 5) (pv 1) (nomark _))
      (pss_one (ps_expr (pe_bm PySem.F.plainAttrs_list PySem.F.slot_list_append PySem.F.type_list_append mt_append (pv 2) (pa_cons (pv 4) pa_nil))))
      (pss_one (ps_if (pt_cmpR op_lt (pv 5) (pv 1) (nomark _))
      (pss_one (ps_for PassesOwn.never (by rfl) (pi_tup (pe_cal k_following hr (by omega) (by rfl) (pa_cons (pe_ix (show IxR _ (rIxT K) from ix_tup) (pv 0) (pv 5) (fun _ _ => rfl)) (pa_cons (pv 5) pa_nil)))) (pg_name (i := 6) hnd rfl (by first | exact Or.inl rfl | exact Or.inr rfl))
      (pss_one (ps_expr (pe_bm PySem.F.plainAttrs_list PySem.F.slot_list_append PySem.F.type_list_append mt_append (pv 3) (pa_cons (pe_tup (pa_cons (pe_op (show OpR _ (binaryOp .Add) (rCatA K) from op_catA) (pv 4) (pe_tup (pa_cons (pv 5) pa_nil))) (pa_cons (pv 6) pa_nil))) pa_nil))))))
      pss_nil))))))
      (pss_one (ps_ret (pe_callB (show CallR _ (.builtin "sorted") (rSortR K) from cr_sortR (Nat.lt_of_le_of_lt (Nat.add_le_add_left (by decide) _) hr.units)) (by rfl) T.m_sorted (by decide +kernel) (pa_cons (pv 2) pa_nil))))))), ?_⟩
    have nxg : ∀ {i : Nat} {st : RSt}, sts[i]? = some st → nxR sts i = nextR st i := fun {i st} e => by
      unfold nxR
      rw [e]
    have fwd : Fwd (nxR sts) row := fun i hi n hn => by
      have il : i < sts.length := by omega
      have e : sts[i]? = some sts[i] := List.getElem?_eq_getElem il
      rw [nxg e] at hn
      exact fr.fw i _ e n hn
    have two : ∀ i, (nxR sts i).length ≤ 2 := fun i => by
      unfold nxR
      split
      · unfold nextR
        split
        · exact Nat.le_succ _
        · split <;> first | exact Nat.le_succ _ | exact Nat.le_refl _
      · exact Nat.zero_le _
    refine ⟨Nat.zero_le _, fun A nA => gname_go ?_⟩
    try dsimp only
    refine ⟨Nat.zero_le _, fun u nu => ?_⟩
    try dsimp only
    refine ⟨Nat.le_of_ble_eq_true rfl, fun p np => ⟨Nat.le_of_ble_eq_true rfl, fun B nB => gname_go ?_⟩⟩
    try dsimp only
    have s1 := same_new (o := .lst []) nA
    have s2 := same_new (o := .tup []) nu
    have s3 := same_new (o := .tup [.ref u, .int 0]) np
    have s4 := same_new (o := .lst [.ref p]) nB
    have nuA : H u = none := none_back s1 nu
    have nBH : H B = none := none_back ((s1.trans s2).trans s3) nB
    have ab : A ≠ B := fun z => by
      have e9 := s3 _ _ (s2 _ _ (upd_same (H := H) (a := A) (o := .lst [])))
      rw [← z] at nB
      rw [nB] at e9
      cases e9
    have w0 : WI H (nxR sts) row A B [] [] [([], 0)] [p] (upd (upd (upd (upd H A (.lst [])) u (.tup [])) p (.tup [.ref u, .int 0])) B (.lst [.ref p])) :=
      ⟨((s1.trans s2).trans s3).trans s4, s4 _ _ (s3 _ _ (s2 _ _ upd_same)), upd_same, .nil, .cons ⟨u, s4 _ _ upd_same, s4 _ _ (s3 _ _ upd_same)⟩ .nil, fun p hp => by rw [List.mem_singleton.mp hp]; exact Nat.le_refl _⟩
    generalize upd (upd (upd (upd H A (.lst [])) u (.tup [])) p (.tup [.ref u, .int 0])) B (.lst [.ref p]) = G0 at w0 ⊢
    clear s1 s2 s3 s4 np nu nuA
    have p13 : 3 ^ (row + 1 - 0) ≤ 1594323 := by
      have : row + 1 - 0 ≤ 13 := by have := fr.len; omega
      exact Nat.le_trans (Nat.pow_le_pow_right (by decide) this) (by decide)
    refine ⟨WW H (nxR sts) Ts row A B, ⟨_, [], [], _, _, _, _, _, rfl, w0, ?_, rfl, by rw [wgt_one]; exact p13⟩, ?_⟩
    · rw [flat_one]
      show ([] ++ (ways (nxR sts) row 0).map ([] ++ ·)).Perm _
      rw [List.nil_append]
      show ((ways (nxR sts) row 0).map fun x => x).Perm _
      rw [List.map_id']
    rintro m σ G ⟨found, fs, st, qs, x4, x5, x6, rfl, wi, pm, rfl, mle⟩
    have wl : (ways (nxR sts) row 0).length ≤ 1594323 := by
      exact Nat.le_trans (ways_len fwd (fun i _ => two i) 0) p13
    have fl : found.length ≤ 1594323 := by
      have := pm.length_eq
      rw [List.length_append] at this
      omega
    refine ⟨_, rfl, _, .inl ⟨_, SqL.of wi.eB, rfl⟩, ?_⟩
    rcases List.eq_nil_or_concat qs with rfl | ⟨qs0, q0, rfl⟩
    · refine iteN2 rfl ?_
      dsimp only
      have pst := wi.ps
      cases pst
      have pm : found.Perm (ways (nxR sts) row 0) := by
        have e : flat (nxR sts) row [] = [] := rfl
        rw [e, List.append_nil] at pm
        exact pm
      obtain ⟨z1, z2, z3⟩ := paired_zip (paired_mapR (R := fun u w => TupI G u w) intsN wi.pf)
      refine ⟨_, rfl, A, fs.zip (found.map intsN), rfl, ?_, ?_, .inl ⟨fun p hp => SqT.of (z1 p hp), ?_⟩, fun p np => ?_⟩
      · rw [show ((fs.zip (found.map intsN)).map fun p => V.ref p.1) = fs.map V.ref from (List.map_map (f := fun p : Addr × List Int => p.1) (g := V.ref)).symm.trans (congrArg (List.map V.ref) z2)]
        exact SqL.of wi.eA
      · have e := congrArg List.length z3
        rw [List.length_map, List.length_map] at e
        rw [e, sizeLine_eq]
        omega
      · by_cases c : row = 0
        · refine .inl ?_
          have e := congrArg List.length z3
          have e2 := pm.length_eq
          rw [List.length_map, List.length_map] at e
          subst c
          rw [ways_row] at e2
          rw [e, e2]
          exact Nat.le_refl _
        · refine .inr fun p hp z => ?_
          have m1 : p.2 ∈ found.map intsN := by
            rw [← z3]
            exact List.mem_map.mpr ⟨p, hp, rfl⟩
          obtain ⟨w9, hw9, e9⟩ := List.mem_map.mp m1
          rw [z] at e9
          have e9 : w9 = [] := List.map_eq_nil_iff.mp e9
          rcases ways_head fwd (pm.mem_iff.mp hw9) with ⟨d, _⟩ | ⟨_, _, _, _, _, d⟩
          · exact c d.symm
          · rw [e9] at d
            cases d
      · have sx := wi.s.trans (same_new (o := .lst (((fs.zip (found.map intsN)).mergeSort byLe).map fun q => V.ref q.1)) np)
        have e9 : (((fs.zip (found.map intsN)).mergeSort byLe).map (·.2)) = waysI (nxR sts) row := byLe_ord (by rw [z3]; exact pm.map intsN)
        refine q p (((fs.zip (found.map intsN)).mergeSort byLe).map (·.1)) _ sx (none_back wi.s np) ?_ ?_
        · rw [upd_same, List.map_map]
          rfl
        · rw [← e9]
          refine paired_pairs _ fun y hy => ?_
          exact TupI.same (z1 y ((List.mergeSort_perm _ byLe).mem_iff.mp hy)) (same_new np)
    · have pst := wi.ps
      rw [List.concat_eq_append] at pst
      obtain ⟨st0, p0, rfl, pst0, ⟨u0, eq0, eu0⟩⟩ := paired_snoc_inv pst
      have eB := wi.eB
      rw [List.concat_eq_append] at eB ⊢
      refine iteT2 (by simp) ?_
      refine ⟨fun σ' G' => ∃ m', m' < wgt row (st0 ++ [p0]) ∧ WW H (nxR sts) Ts row A B m' σ' G', fun _ _ h => h, ?_⟩
      refine ⟨_, rfl, .inl ⟨rfl, _, SqL.of eB⟩, B, _, .ref q0, rfl, rfl, eB, by simp, ?_⟩
      rw [show ((qs0 ++ [q0]).map V.ref).dropLast = qs0.map V.ref by simp]
      have wi1 : WI H (nxR sts) row A B found fs st0 qs0 (upd G B (.lst (qs0.map V.ref))) := by
        have := wi
        rw [List.concat_eq_append] at this
        exact this.putB nBH ab pst0 fun p hp => wi.pl p (List.mem_append_left _ hp)
      have sk : StkAt (upd G B (.lst (qs0.map V.ref))) q0 p0 := StkAt.put ⟨u0, eq0, eu0⟩ eB
      generalize upd G B (.lst (qs0.map V.ref)) = G1 at wi1 sk ⊢
      clear eq0 eu0 u0
      obtain ⟨u0, eq0, eu0⟩ := sk
      obtain ⟨w9, i⟩ := p0
      replace eu0 : TupI G1 u0 (intsN w9) := eu0
      replace eq0 : G1 q0 = some (.tup [.ref u0, .int ((i : Nat) : Int)]) := eq0
      have flx : flat (nxR sts) row (st0 ++ [(w9, i)]) = flat (nxR sts) row st0 ++ (ways (nxR sts) row i).map (w9 ++ ·) := by
        rw [flat_app, flat_one]
      have wx : wgt row (st0 ++ [(w9, i)]) = wgt row st0 + 3 ^ (row + 1 - i) := by
        rw [wgt_app, wgt_one]
      rw [flx] at pm
      rw [wx] at mle ⊢
      have pl9 : w9.length ≤ i := wi.pl (w9, i) (List.mem_append_right _ (List.mem_singleton.mpr rfl))
      have p3 := pow_pos3 (row + 1 - i)
      have fl2 := pf_len wi1.pf
      refine ⟨q0, _, rfl, SqT.of eq0, rfl, _, _, rfl, _, _, rfl, rfl, ?_⟩
      try dsimp only
      refine ⟨_, rfl, _, rfl, rfl, _, rfl, ?_⟩
      by_cases c : i = row
      · subst c
        refine iteT2 (decide_eq_true rfl) ⟨_, rfl, .inl ⟨rfl, _, SqL.of wi1.eA⟩, _, rfl, A, _, _, rfl, rfl, wi1.eA, by rw [List.length_map, fl2, sizeLine_eq]; omega, ?_⟩
        rw [show fs.map V.ref ++ [.ref u0] = (fs ++ [u0]).map V.ref by rw [List.map_append]; rfl]
        refine ⟨wgt i st0, by omega, found ++ [w9], fs ++ [u0], st0, qs0, _, _, _, rfl, wi1.putA nA ab (Paired.snoc wi1.pf eu0), ?_, rfl, by omega⟩
        rw [ways_row] at pm
        refine List.Perm.trans ?_ pm
        rw [show (([[]] : List (List Nat)).map (w9 ++ ·)) = [w9] by simp, List.append_assoc]
        exact List.Perm.append_left _ List.perm_append_comm
      · refine iteN2 (decide_eq_false fun z => c (by injection z with z; omega)) ?_
        refine ⟨_, rfl, _, rfl, _, _, rfl, rfl, _, rfl, ?_⟩
        by_cases c2 : i < row
        · refine iteT2 (decide_eq_true (by omega)) ?_
          have il : i < sts.length := by omega
          have es : sts[i]? = some sts[i] := List.getElem?_eq_getElem il
          obtain ⟨t, ht, hst⟩ := pair_get pt es
          have nxe := nxg es
          have eT1 := wi1.s _ _ eT
          refine ⟨_, rfl, _, rfl, Ts, _, _, .ref t, rfl, rfl, SqT.of eT1, atI_nat (by rw [List.getElem?_map, ht]; rfl), _, rfl, t, sts[i], i, rfl, hst.same wi1.s, fr.go i _ es, fun T9 nT => ?_⟩
          have nxl : (nextR sts[i] i).length ≤ 2 := by
            have := two i
            rwa [nxe] at this
          have w9l : w9.length ≤ 12 := by have := fr.len; omega
          have wi2 := wi1.same (same_new (o := .tup ((nextR sts[i] i).map fun n : Nat => V.int (n : Int))) nT)
          have eu2 := eu0.same (same_new (o := .tup ((nextR sts[i] i).map fun n : Nat => V.int (n : Int))) nT)
          have eT9 := upd_same (H := G1) (a := T9) (o := .tup ((nextR sts[i] i).map fun n : Nat => V.int (n : Int)))
          generalize upd G1 T9 (.tup ((nextR sts[i] i).map fun n : Nat => V.int (n : Int))) = G2 at wi2 eu2 eT9 ⊢
          refine ⟨T9, rfl, ⟨_, SqT.of eT9⟩, for_tup (K := K) (a := T9) (xs := (nextR sts[i] i).map fun n : Nat => V.int (n : Int)) (fun j σ' G' => ∃ (qs' : List Addr) (x6 : Option V), σ' = [some (.ref Ts), some (.int (row : Int)), some (.ref A), some (.ref B), some (.ref u0), some (.int (i : Int)), x6] ∧
            WI H (nxR sts) row A B found fs (st0 ++ ((nextR sts[i] i).take j).map fun n => (w9 ++ [i], n)) qs' G' ∧ TupI G' u0 (intsN w9) ∧ G' T9 = some (.tup ((nextR sts[i] i).map fun n : Nat => V.int (n : Int)))) ⟨qs0, _, rfl, by rw [List.take_zero, List.map_nil, List.append_nil]; exact wi2, eu2, eT9⟩ (fun j σ' G' _ h => ?_) ?_ ?_⟩
          · obtain ⟨_, _, _, _, _, e⟩ := h
            exact SqT.of e
          · rintro j x σ' G' hj ⟨qs', x6, rfl, wj, eu, eT9⟩
            rw [List.getElem?_map] at hj
            obtain ⟨n9, hn9, rfl⟩ := Option.map_eq_some_iff.mp hj
            have jl : j < (nextR sts[i] i).length := (List.getElem?_eq_some_iff.mp hn9).1
            refine gname_go ?_
            try dsimp only
            have ql : qs'.length ≤ 1600000 := by
              have e1 := pf_len wj.ps
              rw [List.length_append, List.length_map, List.length_take] at e1
              have e2 := wgt_len (row := row) st0
              omega
            refine ⟨_, rfl, .inl ⟨rfl, _, SqL.of wj.eB⟩, _, rfl, _, rfl, Nat.le_of_ble_eq_true rfl, fun v1 n1 => ?_⟩
            have sv := same_new (o := .tup [.int ((i : Nat) : Int)]) n1
            refine catA_go (xs := (intsN w9).map V.int) (SqT.of (eu.same sv)) upd_same (by simp) (by rw [List.length_map]; unfold intsN; rw [List.length_map, sizeLine_eq]; simp; omega) fun r G5 s5 e5 => ?_
            refine ⟨_, rfl, Nat.le_of_ble_eq_true rfl, fun p5 np5 => ?_⟩
            have s6 := same_new (o := .tup [.ref r, .int ((n9 : Nat) : Int)]) np5
            have wj2 := ((wj.same sv).same s5).same s6
            have sx : StkAt (upd G5 p5 (.tup [.ref r, .int ((n9 : Nat) : Int)])) p5 (w9 ++ [i], n9) := ⟨r, upd_same, by
              show _ = _
              rw [s6 _ _ e5]
              unfold intsN
              rw [List.map_append, List.map_append]
              rfl⟩
            have eu6 := ((eu.same sv).same s5).same s6
            have eT6 := s6 _ _ (s5 _ _ (sv _ _ eT9))
            generalize upd G5 p5 (.tup [.ref r, .int ((n9 : Nat) : Int)]) = G6 at wj2 sx eu6 eT6 ⊢
            refine ⟨B, _, _, rfl, rfl, wj2.eB, by rw [List.length_map, sizeLine_eq]; omega, ?_⟩
            rw [show qs'.map V.ref ++ [.ref p5] = (qs' ++ [p5]).map V.ref by rw [List.map_append]; rfl]
            refine ⟨qs' ++ [p5], _, rfl, wj2.putB nBH ab ?_ ?_, eu6.put wj2.eB, ?_⟩
            · rw [take_at hn9, List.map_append, ← List.append_assoc]
              exact Paired.snoc wj2.ps sx
            · rw [take_at hn9, List.map_append, ← List.append_assoc]
              intro y hy
              rcases List.mem_append.mp hy with hy | hy
              · exact wj2.pl y hy
              · rw [List.mem_singleton.mp hy]
                have l9 := fr.fw i _ es n9 (List.mem_of_getElem? hn9)
                show (w9 ++ [i]).length ≤ n9
                rw [List.length_append, List.length_singleton]
                omega
            · rw [upd_ne fun z => ?_]
              · exact eT6
              · rw [z, wj2.eB] at eT6
                cases eT6
          · rintro σ' G' ⟨qs', x6, rfl, wj, _, _⟩
            rw [List.length_map, List.take_length] at wj
            have wl9 := wgt_next fwd c2 (two i) w9
            rw [nxe] at wl9
            refine ⟨wgt row (st0 ++ (nextR sts[i] i).map fun n => (w9 ++ [i], n)), by rw [wgt_app]; omega, found, fs, _, qs', _, _, _, rfl, wj, ?_, rfl, by rw [wgt_app]; omega⟩
            rw [flat_app, ← nxe, flat_next fwd c2]
            exact pm
        · refine iteN2 (decide_eq_false (by omega)) ?_
          refine ⟨wgt row st0, by omega, found, fs, st0, qs0, _, _, _, rfl, wi1, ?_, rfl, by omega⟩
          rw [ways_gt (by omega), List.map_nil, List.append_nil] at pm
          exact pm
end
end L2.K33
set_option Elab.async false
set_option linter.all false
set_option maxRecDepth 100000
set_option maxHeartbeats 4000000
/-! for x in o.m(..): .. where the body leaves at once (break, return): what a generator hands out first -/
namespace L2.Tb
open PySem PySem.Spec PyProof.Rows GenW
/-- the wish for what comes first -/
def Y1 (X : Cx) (W : V → Hp → Prop) : Protocol := fun _ _ v s _ => ∃ x pins σ H, RelV x v ∧ Inv X pins σ H s ∧ W x H
structure GC1 (X : Cx) (A : Around) (c : Code) (fs : List Frame) (gd : Bool → Bool) : Prop where
  over : A.over c fs = X.A
  split : splitAtGen fs = none
  guard : fs.any Frame.guarded = false
  gd : gd false = false
structure GK1 (X : Cx) (ip : List (Addr × Obj)) (A : Around) (R : GenEnd) (c : Code) (fs : List Frame) (K : Flow → Sem PySem.Fin) (J : Value → Sem PySem.Fin) (D : Ends) (W : V → Hp → Prop) : Prop where
  ok : ∀ (s₀ s : Shared) (f : Flow), SP X ip D f s → Seg (model X.prog X.w) A R (Y1 X W) 1 s₀ c (K f) fs s
  exc : ∀ (s₀ : Shared) (e : Value) (s : Shared), X.xe e s → Seg (model X.prog X.w) A R (Y1 X W) 1 s₀ c (J e) fs s
abbrev TG1 := (V → Hp → Prop) → TS
structure G1 (X : Cx) (st : Stmt) (t : TG1) : Prop where
  run : ∀ (A : Around) (ip : List (Addr × Obj)) (R : GenEnd) (s₀ : Shared) (c : Code) (fs : List Frame) (K : Flow → Sem PySem.Fin) (J : Value → Sem PySem.Fin) (gd : Bool → Bool) (lv : List Value → List Value) (s : Shared) (σ : St) (H : Hp) (D : Ends) (W : V → Hp → Prop),
    GC1 X A c fs gd → GK1 X ip A R c fs K J D W → Inv X ip σ H s → t W D σ H → Seg (model X.prog X.w) A R (Y1 X W) 1 s₀ c ((exec st X.env).wrap K J gd lv) fs s
structure G1s (X : Cx) (st : List Stmt) (t : TG1) : Prop where
  run : ∀ (A : Around) (ip : List (Addr × Obj)) (R : GenEnd) (s₀ : Shared) (c : Code) (fs : List Frame) (K : Flow → Sem PySem.Fin) (J : Value → Sem PySem.Fin) (gd : Bool → Bool) (lv : List Value → List Value) (s : Shared) (σ : St) (H : Hp) (D : Ends) (W : V → Hp → Prop),
    GC1 X A c fs gd → GK1 X ip A R c fs K J D W → Inv X ip σ H s → t W D σ H → Seg (model X.prog X.w) A R (Y1 X W) 1 s₀ c ((execs st X.env).wrap K J gd lv) fs s
section
variable {X : Cx} {st : Stmt} {rest : List Stmt}
theorem g1_ps {t : TS} (h : PS X st t) : G1 X st (fun _ => t) := by
  refine ⟨fun A ip R s₀ c fs K J gd lv s σ H D W g k I ht => ?_⟩
  refine seg_wrap ?_
  rw [g.over]
  exact wpAny_mono (h.run _ s σ H D I ht) (fun f s' hs => k.ok s₀ s' f hs) fun x s' hx => k.exc s₀ x s' hx
theorem g1s_nil : G1s X [] (fun _ D σ H => D.nx σ H) := by
  refine ⟨fun A ip R s₀ c fs K J gd lv s σ H D W g k I ht => ?_⟩
  exact seg_execs_nil (k.ok s₀ s .next ⟨σ, H, I, ht⟩)
def tThen1 (t u : TG1) : TG1 := fun W D σ H => t W { D with nx := fun σ' H' => u W D σ' H' } σ H
theorem g1s_cons {t u : TG1} (a : G1 X st t) (b : G1s X rest u) : G1s X (st :: rest) (tThen1 t u) := by
  refine ⟨fun A ip R s₀ c fs K J gd lv s σ H D W g k I ht => ?_⟩
  refine seg_execs_cons ?_
  refine a.run A ip R s₀ c fs _ J gd lv s σ H { D with nx := fun σ' H' => u W D σ' H' } W g ⟨fun s₀' s' f hs => ?_, k.exc⟩ I ht
  cases f with
  | next =>
    obtain ⟨σ', H', I', q⟩ := hs
    exact b.run A ip R s₀' c fs K J gd lv s' σ' H' D W g k I' q
  | brk => exact k.ok s₀' s' .brk hs
  | cont => exact k.ok s₀' s' .cont hs
  | ret u => exact k.ok s₀' s' (.ret u) hs
end
section
variable {X : Cx} {e : Expr} {yp pos : Pos} {te : TE}
def tYield1 (te : TE) : TG1 := fun W _ σ H => te σ H W
theorem g1_yield (he : PE X e te) (hco : X.env.scope.isCoroutine = false := by rfl) (hi : interactive X.env = false := by rfl) : G1 X (.Expr (.Yield (some e) yp) pos) (tYield1 te) := by
  refine ⟨fun A ip R s₀ c fs K J gd lv s σ H D W g k I ht => ?_⟩
  refine seg_Expr_Yield g.split g.gd g.guard ?_ hco hi
  rw [g.over]
  refine wpAny_mono (he.run _ s σ H _ I ht) (fun v s' hv => ?_) fun x s' hx => k.exc s₀ x s' hx
  obtain ⟨x, H1, I1, rv, q⟩ := hv
  intro kap hk
  exact ⟨x, ip, σ, H1, rv, I1, q⟩
end
section
variable {X : Cx} {tg iter : Expr} {body : List Stmt} {pos : Pos} {wi : TI} {gt : TG} {tb : TG1}
/-- a for whose first turn hands out (or leaves) -/
def tFor1 (wi : TI) (g : TG) (tb : TG1) : TG1 := fun W D σ H => wi σ H fun J H1 => (J.stop 0 H1 ∧ D.nx σ H1) ∨ (J.go 0 H1 ∧ ∀ x H', J.yld 0 H1 x H' → g x σ H' fun σ2 H2 => tb W { D with nx := fun _ _ => False, ct := fun _ _ => False, bk := D.nx } σ2 H2)
theorem gc1_loop {A : Around} {c c' : Code} {fs : List Frame} {gd : Bool → Bool} {k : Result → Sem PySem.Fin} {l kp : List Value} {p : Pos} (g : GC1 X A c fs gd) (hw : c'.weight = 0) (hu : c'.cUnits = 0) :
    GC1 X A c' (.ret k none (gd false) l c p kp :: fs) id where
  over := (over_loop hw hu).trans g.over
  split := by
    show (splitAtGen fs).map _ = none
    rw [g.split]; rfl
  guard := by
    show (gd false || fs.any Frame.guarded) = false
    rw [g.gd, g.guard]; rfl
  gd := rfl
theorem seg_cameBack1 {ip : List (Addr × Obj)} {A : Around} {R : GenEnd} {c : Code} {fs : List Frame} {K : Flow → Sem PySem.Fin} {J : Value → Sem PySem.Fin} {gd : Bool → Bool} {lv : List Value → List Value} {D : Ends} {W : V → Hp → Prop} {s₀ s : Shared} {e : Value}
    (g : GC1 X A c fs gd) (k : GK1 X ip A R c fs K J D W) (h : cameBackBy (model X.prog X.w) X.A X.env X.xe e s) :
    Seg (model X.prog X.w) A R (Y1 X W) 1 s₀ c (((Sem.raise e : Sem Flow).onRaise (cameBack X.env)).wrap K J gd lv) fs s := by
  show Seg _ _ _ _ _ _ _ (((cameBack X.env e).bind fun _ => (Sem.raise e : Sem Flow)).wrap K J gd lv) _ _
  rw [Sem.bind_eq_wrap, Sem.wrap_wrap]
  refine seg_wrap ?_
  rw [g.over]
  exact wpAny_mono h (fun _ s' hx => k.exc s₀ e s' hx) fun x s' hx => k.exc s₀ x s' hx
theorem g1_for (hp : PassesOwn (model X.prog X.w) X.A X.env X.xe) (hc : X.calm = true) (hi : PI X tg iter wi) (hg : PG X tg gt) (hb : G1s X body tb) (hs : ∀ x, foldedSetIterable iter X.env x = pure x := by intro _; rfl) : G1 X (.For tg iter body [] pos) (tFor1 wi gt tb) := by
  refine ⟨fun A ip R s₀ c fs K J gd lv s σ H D Wy g k I0 ht => ?_⟩
  show Seg _ _ _ _ _ _ _ (.at pos fun _ => (eval iter X.env >>= fun v => foldedSetIterable iter X.env v >>= fun x => standAt iter.pos >>= fun _ => holding [x] (pyIter x) >>= fun itv => runOwn (.forLoop tg itv body [] X.env) X.env).wrap K J gd lv) _ _
  refine seg_at (seg_bind_wrap ?_)
  rw [g.over]
  refine wpAny_mono (hi.run _ s σ H _ I0 ht) (fun v s1 h1 => ?_) fun x s' hx => k.exc s₀ x s' hx
  refine seg_bind_wrap ?_
  rw [g.over]
  refine wpAny_of_eq (hs v) ?_
  refine seg_bind_wrap ?_
  rw [g.over]
  refine wpAny_standAt (seg_bind_wrap ?_)
  rw [g.over]
  refine wpAny_holding (wpAny_mono h1 (fun itv s2 h2 => ?_) fun x s' hx => k.exc s₀ x s' hx)
  obtain ⟨it, fp, tn, Jt, H2, e, I2, T, st2, f2, turn⟩ := h2
  subst e
  refine seg_call fun p => ?_
  have gl := fun (kk : Result → Sem PySem.Fin) => gc1_loop (k := kk) (c' := .forLoop tg (.ref it) body [] X.env) (l := lv []) (kp := []) (p := p) g rfl rfl
  have note : ∀ (s₀ : Shared) (x : Value) (s' : Shared), X.xe x s' → Seg (model X.prog X.w) A R (Y1 X Wy) 1 s₀ (.forLoop tg (.ref it) body [] X.env)
      ((do noteFrame x X.env; theTreesLotGoes x : Sem Unit).bind fun _ => (.raise x : Sem PySem.Fin))
      (.ret (fun r => ((match r with | .ok f => (.pure f : Sem Flow) | .error e => .raise e).onRaise (cameBack X.env)).wrap K J gd lv) none (gd false) (lv []) c p [] :: fs) s' := fun s₀ x s' hx => by
    rw [Sem.bind_eq_wrap]
    refine seg_wrap ?_
    rw [(gl _).over]
    refine wpAny_bind (wpAny_mono (hp x s' hx) (fun _ s'' hcb => wpAny_theTreesLotGoes ?_) fun y s'' hcb => ?_)
    · exact seg_leaf (.error x) (seg_cameBack1 g k hcb)
    · exact seg_leaf (.error y) (seg_cameBack1 g k hcb)
  show Seg _ _ _ _ _ _ _ ((forTurn tg (.ref it) body [] X.env).onRaise fun x => do noteFrame x X.env; theTreesLotGoes x) _ _
  unfold forTurn
  rw [Sem.onRaise_eq_wrap]
  refine seg_bind_wrap ?_
  rw [(gl _).over]
  refine wpAny_standAt (seg_bind_wrap ?_)
  rw [(gl _).over]
  refine wpAny_onRaise ?_
  rcases turn with ⟨stop, qn⟩ | ⟨go, step⟩
  · refine wpAny_mono (T.done X rfl rfl rfl hc 0 _ s2 σ H2 X.xe I2 f2 st2 stop) (fun r4 s4 hr => ?_) fun x s' hx => wpAny_standAt (note s₀ x s' hx)
    obtain ⟨hr, I4⟩ := hr
    subst hr
    show Seg _ _ _ _ _ _ _ (.pure (.again (.block [] X.env))) _ _
    refine seg_again rfl ?_
    exact seg_leaf (.ok .next) (k.ok s₀ s4 .next ⟨σ, H2, I4, qn⟩)
  · refine wpAny_mono (T.item X rfl rfl rfl hc 0 _ s2 σ H2 X.xe I2 f2 st2 go) (fun r4 s4 hr => ?_) fun x s' hx => wpAny_standAt (note s₀ x s' hx)
    obtain ⟨u, hr, h4⟩ := hr
    subst hr
    show Seg _ _ _ _ _ _ _ (((letOwnedTupleGo tg (.ref it) u) >>= fun _ => assign tg X.env u >>= fun _ => execs body X.env >>= fun f => match f with
      | .next | .cont => again (.forLoop tg (.ref it) body [] X.env)
      | .brk => pure (.done .next)
      | .ret v => pure (.done (.ret v))).wrap _ _ _ _) _ _
    refine seg_bind_wrap ?_
    rw [(gl _).over]
    refine wpAny_mono h4 (fun _ s5 h5 => ?_) fun x s' hx => note s₀ x s' hx
    obtain ⟨x, H5, I5, r5, y5, st5, fr5⟩ := h5
    refine seg_bind_wrap ?_
    rw [(gl _).over]
    refine wpAny_mono (hg.run _ s5 σ H5 x u _ I5 r5 (step x H5 y5)) (fun _ s6 h6 => ?_) fun x s' hx => note s₀ x s' hx
    obtain ⟨σ6, H6, I6, q6⟩ := h6
    rw [Sem.bind_eq_wrap', Sem.wrap_wrap]
    refine hb.run A ip R s₀ _ _ _ _ _ _ s6 σ6 H6 { D with nx := fun _ _ => False, ct := fun _ _ => False, bk := D.nx } Wy ⟨(gl _).over, (gl _).split, (gl _).guard, rfl⟩ ⟨fun s₀' s7 f hs' => ?_, fun s₀' x s7 hx => note s₀' x s7 hx⟩ I6 q6
    cases f with
    | next => obtain ⟨σ7, H7, I7, n7⟩ := hs'; exact n7.elim
    | cont => obtain ⟨σ7, H7, I7, n7⟩ := hs'; exact n7.elim
    | brk =>
      obtain ⟨σ7, H7, I7, n7⟩ := hs'
      exact seg_leaf (.ok .next) (k.ok s₀' s7 .next ⟨σ7, H7, I7, n7⟩)
    | ret v =>
      obtain ⟨x7, σ7, H7, I7, r7, q7⟩ := hs'
      exact seg_leaf (.ok (.ret v)) (k.ok s₀' s7 (.ret v) ⟨x7, σ7, H7, I7, r7, q7⟩)
end
/-! ### the def -/
abbrev SpF := List V → Hp → (Option V → Hp → Prop) → XK → Prop
def REnd1 (P : Program) (w : World) (outer : List Env) (H : Hp) (s : Shared) (a : Addr) (g : Nat) (Q : Option V → Hp → Prop) (E : XK) : GenEnd := fun n s₀ r s1 =>
  ((r = .ok (.ret .none) ∨ r = .ok .next) ∧ ∃ H', s1.os = s.os ∧ AllBare s1.gens ∧ Un (frs outer) [] H H' s.heap s1.heap ∧ HOk P w H' s1.heap ∧ Q none H') ∨
  ∃ e, r = .error e ∧ CX P w outer H s E e s1 ∧ s1.heap.IsGen a g
def YItem1 (P : Program) (w : World) (outer : List Env) (H : Hp) (s : Shared) (a : Addr) (g : Nat) (Q : Option V → Hp → Prop) : Protocol := fun _ _ v s1 _ =>
  ∃ x H', RelV x v ∧ s1.os = s.os ∧ AllBare s1.gens ∧ Un (frs outer) [] H H' s.heap s1.heap ∧ HOk P w H' s1.heap ∧ s1.heap.IsGen a g ∧ Q (some x) H'
def GMade1 (P : Program) (w : World) (k : Nat) (outer : List Env) (H : Hp) (s : Shared) (Q : Option V → Hp → Prop) (E : XK) (u : Value) (s' : Shared) : Prop :=
  ∃ (a : Addr) (g : Nat) (c : Code), u = .ref a ∧ s.heap.objs.size ≤ a ∧ a < s'.heap.objs.size ∧ s'.heap.IsGen a g ∧ s'.gens[g]? = some (.fresh c) ∧ s'.os = s.os ∧ AllBare s'.gens ∧ s'.heap.NoLimit ∧ (∀ b o, s.heap.get? b = some o → s'.heap.get? b = some o) ∧
    ∀ (A : Around) (s2 : Shared), Room k A → A.frames = some outer → (∀ b o, s'.heap.get? b = some o → s2.heap.get? b = some o) → s2.os = s.os → AllBare s2.gens →
      Seg (model P w) A (REnd1 P w outer H s a g Q E) (YItem1 P w outer H s a g Q) 1 s2 c ((model P w).den c) [] s2
structure GF1 (P : Program) (w : World) (K : PySem.W.Frag) (mg : Str → Option Value) (base : Heap) (k : Nat) (f : Addr) (fd : FuncData) (ps : List Str) (sp : SpF) : Prop where
  len : ∀ vs H Q E, sp vs H Q E → vs.length = ps.length
  run : ∀ (A : Around) (outer : List Env) (s : Shared) (H : Hp) (args : Args) (us : List Value) (vs : List V) (Q : Option V → Hp → Prop) (E : XK), Room k A → Env0 P w K mg base A outer s H → BindsTo s fd args (ps.zip us) → Vals vs us → sp vs H Q E →
    codeAny (model P w) A (.call (.ref f) args) (fun r s' => match r with | .ok (.ret u) => GMade1 P w k outer H s Q E u s' | _ => False) s
theorem gf1_of {P : Program} {w : World} {K : PySem.W.Frag} {mg : Str → Option Value} {base : Heap} {k : Nat} {f : Addr} {name qual : Str} {params : Arguments} {body : List Stmt} {scope : Scope} {dV kV doc pm cdv ct oc : Value} {an od : Option Addr}
    {osl : Array (Option Value)} {N ps : List Str} {sp : SpF} (lk : K.lookup f = some ⟨oc, od, .func (PySem.W.fnOf name qual params body scope dV kV doc pm an cdv ct), osl⟩) (hcd : PySem.W.codeIn K cdv qual = true) (S : GScope N ps scope)
    (len : ∀ vs H Q E, sp vs H Q E → vs.length = ps.length)
    (hbody : ∀ (A : Around) (outer : List Env) (s : Shared) (H : Hp) (vs : List V) (Q : Option V → Hp → Prop) (E : XK) (pn : List (Addr × Obj)), Room k (A.deeper (envOfC qual scope s.heap.objs.size f cdv)) → sp vs H Q E →
      ∃ t, G1s (gcxOf P w K mg base N qual scope f cdv A outer s H E pn) body t ∧ t (fun x H' => Q (some x) H') { nx := fun _ H' => Q none H', rt := fun v H' => v = .non ∧ Q none H' } (start N vs) H) :
    GF1 P w K mg base (k + 1) f (PySem.W.fnOf name qual params body scope dV kV doc pm an cdv ct) ps sp := by
  refine ⟨len, fun A outer s H args us vs Q E hr e0 hb r hsp => ?_⟩
  have hl := len _ _ _ _ hsp
  have KX : K.In s.heap := e0.mod.kin.keeps fun b o e => (e0.bs b o e).1
  have lim : s.heap.NoLimit := e0.mod.nolimit.keeps fun b o e => (e0.bs b o e).1
  have hkind : ∀ y ∈ ps.zip us, scope.names.lookup y.1 = some .local ∨ (scope.names.lookup y.1 = some .cell ∧ ((cellsFrom (s.heap.objs.size + 1) scope.names []).lookup y.1).isSome = true) := fun ⟨n, v⟩ hy => by
    rcases S.par n (List.of_mem_zip hy).1 with q | q
    · exact .inl q
    · exact .inr ⟨q, PySem.W.cellsFrom_some _ _ _ (.inl q)⟩
  refine codeAny_call_generator hr.depth (KX _ _ lk) rfl S.co S.gen rfl (PySem.W.codeRec_of KX hcd) (hb _ _ _ _ ?_)
  refine wpAny_newFunctionEnv_cells S.kind hkind fun env he s1 x => ?_
  subst he
  have lim1 : s1.heap.NoLimit := lim.keeps x.toInCall.keep
  refine ⟨lim1, ?_⟩
  obtain ⟨h1, tk, es1, hk1⟩ := x.done
  have os1 : s1.os = s.os := by rw [es1]
  have gen1 : s1.gens = s.gens := by rw [es1]
  have lt1 : s.heap.objs.size < s1.heap.objs.size := x.toInCall.ns.lt
  have sz1 : s.heap.objs.size ≤ s1.heap.objs.size := Nat.le_of_lt lt1
  have kp1 : ∀ b o, s.heap.get? b = some o → s1.heap.get? b = some o := x.toInCall.keep
  have main : ∀ (go : Obj) (nm qn : Value) (tk2 : Nat), go.cls = .type "generator" → go.data = .fields #[.int s1.gens.size 0, nm, qn] → go.slots = #[] → (∀ h : Heap, (h.push go).get? h.objs.size = some go) →
      GMade1 P w (k + 1) outer H s Q E (.ref s1.heap.objs.size) { s1 with gens := s1.gens.push (.fresh (.func body (envOfC qual scope s.heap.objs.size f cdv))), toks := tk2, heap := s1.heap.push go } := by
    intro go nm qn tk2 hgc hgd0 hgs hgp
    have hgen : ∀ h : Heap, h.get? s1.heap.objs.size = some go → h.IsGen s1.heap.objs.size s1.gens.size := fun h e => ⟨go, nm, qn, e, hgc, hgd0, hgs⟩
    have hpushed : (s1.heap.push go).get? s1.heap.objs.size = some go := hgp _
    refine ⟨s1.heap.objs.size, s1.gens.size, _, rfl, sz1, ?_, hgen _ hpushed, Array.getElem?_push_size .., os1, ?_, lim1.keeps fun b o e => Heap.get?_push_of_some _ e, fun b o e => Heap.get?_push_of_some _ (kp1 b o e), ?_⟩
    · show _ < (s1.heap.push _).objs.size
      rw [Heap.size_push]; exact Nat.lt_succ_self _
    · exact AllBare.push (by rw [gen1]; exact e0.bare) rfl
    intro Aw s2 hrw hfr hk2 hos hba
    have e0w : Env0 P w K mg base Aw outer s H := ⟨hfr, e0.mod, e0.bs, e0.bsz, e0.funs, e0.frf, e0.hok, e0.bare⟩
    obtain ⟨t, ht, hq⟩ := hbody Aw outer s H vs Q E [(s1.heap.objs.size, go)] (hrw.deeper _) hsp
    have I1 : Inv (gcxOf P w K mg base N qual scope f cdv Aw outer s H E []) [] (start N vs) H s1 := inv_startG S hrw.hd e0w hl r x
    have kp2 : ∀ b o, s1.heap.get? b = some o → s2.heap.get? b = some o := fun b o e => hk2 b o (Heap.get?_push_of_some _ e)
    have I2 : Inv (gcxOf P w K mg base N qual scope f cdv Aw outer s H E []) [] (start N vs) H s2 :=
      I1.call' (ch := []) (hos.trans os1.symm) (Un.kept kp2) (I1.hok.kept kp2) hba fun b z => by simp at z
    have hea : s2.heap.get? s1.heap.objs.size = some go := hk2 s1.heap.objs.size go hpushed
    have hgd : ∀ v, go.data ≠ .cell v := fun v q => by rw [hgd0] at q; cases q
    have hG : Inv (gcxOf P w K mg base N qual scope f cdv Aw outer s H E [(s1.heap.objs.size, go)]) [] (start N vs) H s2 := by
      refine Inv.pinnedG I2 fun p hp => ?_
      rw [List.append_nil] at hp
      rw [List.mem_singleton.mp hp]
      exact ⟨hea, I1.hok.fresh (Nat.le_refl _), Nat.ne_of_gt lt1, I1.nofs (Nat.le_refl _), hgd⟩
    refine seg_func ?_
    refine seg_imp (R := fun _ _ r s' => match r with
        | .ok (.ret u) => ∃ v ip σ H', Inv (gcxOf P w K mg base N qual scope f cdv Aw outer s H E [(s1.heap.objs.size, go)]) ip σ H' s' ∧ RelV v u ∧ v = .non ∧ Q none H'
        | .ok _ => False
        | .error e => CX P w outer H s E e s' ∧ ∀ p ∈ [(s1.heap.objs.size, go)], s'.heap.get? p.1 = some p.2)
      (Y := Y1 (gcxOf P w K mg base N qual scope f cdv Aw outer s H E [(s1.heap.objs.size, go)]) fun x H' => Q (some x) H') (fun n s₀ r s1' hR => ?_) (fun n s₀ v s1' kap kap' hkk hY => ?_) 1 ?_
    · cases r with
      | error e =>
        obtain ⟨q1, q2⟩ := hR
        exact .inr ⟨e, rfl, q1, hgen _ (q2 (s1.heap.objs.size, go) (List.mem_singleton.mpr rfl))⟩
      | ok fl =>
        cases fl with
        | next => exact False.elim hR
        | brk => exact False.elim hR
        | cont => exact False.elim hR
        | ret u =>
          obtain ⟨v, ip, σ', H', J, rv, ev, hQ⟩ := hR
          subst ev
          have eu : u = Value.none := rv
          subst eu
          exact .inl ⟨.inl rfl, H', J.os, J.bare, J.base, J.hok, hQ⟩
    · obtain ⟨xx, ip, σ', H', h2, J, hQ⟩ := hY
      exact ⟨xx, H', h2, J.os, J.bare, J.base, J.hok, hgen _ (J.pin (s1.heap.objs.size, go) (List.mem_append_left _ (List.mem_singleton.mpr rfl))).1, hQ⟩
    · refine ht.run Aw [] _ s2 _ [] _ _ id id s2 (start N vs) H _ _ ⟨over_func, rfl, rfl, rfl⟩ ⟨fun s₀ s' fl hs => ?_, fun s₀ e s' hx => ?_⟩ hG hq
      · cases fl with
        | next =>
          obtain ⟨σ', H', hI, hQ⟩ := hs
          exact seg_end (.ok (.ret .none)) ⟨.non, [], σ', H', hI, rfl, rfl, hQ⟩
        | brk => obtain ⟨_, _, _, q⟩ := hs; exact False.elim q
        | cont => obtain ⟨_, _, _, q⟩ := hs; exact False.elim q
        | ret u =>
          obtain ⟨v, σ', H', hI, rv, ev, hQ⟩ := hs
          exact seg_end (.ok (.ret u)) ⟨v, [], σ', H', hI, rv, ev, hQ⟩
      · refine seg_wrap ?_
        rw [over_func]
        refine wpAny_mono (show wpAny (model P w) (Aw.deeper (envOfC qual scope s.heap.objs.size f cdv)) (leaving (envOfC qual scope s.heap.objs.size f cdv) e) (fun _ s'' => CX P w outer H s E e s'' ∧ ∀ p ∈ [(s1.heap.objs.size, go)], s''.heap.get? p.1 = some p.2) (fun _ _ => False) s' from hx) (fun _ s'' q => ?_) fun _ s'' q => q.elim
        exact seg_end (.error e) q
  exact main _ _ _ _ rfl rfl rfl fun h => Heap.get?_push_size _ rfl
/-! ### the call, the for -/
abbrev TGf := L2.St → Hp → (Option V → Hp → Prop) → Prop
structure PG1 (X : Cx) (k : Nat) (e : Expr) (tg : TGf) : Prop where
  run : ∀ (pins : List (Addr × Obj)) (s : Shared) (σ : L2.St) (H : Hp) (cont : Option V → Hp → Prop), Inv X pins σ H s → tg σ H cont → wpAny (model X.prog X.w) X.A (eval e X.env)
    (fun u s' => ∃ H1 sc, Inv X pins σ H1 sc ∧ GMade1 X.prog X.w k X.stack H1 sc cont E0 u s') X.xe s
section
variable {X : Cx} {k : Nat} {f C : Addr} {fd : FuncData} {ps : List Str} {sp : SpF} {m : Str} {pos' pos apos : Pos} {o tg : Expr} {ta : TE} {g : TG} {body : List Stmt} {tb : TS}
theorem run_gf1 {pins : List (Addr × Obj)} {σ : L2.St} {H : Hp} {s : Shared} {us : List Value} {vs : List V} {cont : Option V → Hp → Prop} {E1 : Value → Shared → Prop} (F : GF1 X.prog X.w X.K X.mg X.base k f fd ps sp) (hr : Room k X.A) (hb : Binds X.K fd ps [])
    (I : Inv X pins σ H s) (r : Vals vs us) (h : sp vs H cont E0) :
    wpAny (model X.prog X.w) X.A (call (.ref f) us) (fun u s' => ∃ H1 sc, Inv X pins σ H1 sc ∧ GMade1 X.prog X.w k X.stack H1 sc cont E0 u s') E1 s := by
  have hl2 : us.length = ps.length := by rw [← r.length]; exact F.len _ _ _ _ h
  refine wpAny_call (codeAny_mono (F.run X.A X.stack s H ⟨us, []⟩ us vs cont E0 hr I.env0 (by
    have z := hb s us I.kIn (by rw [List.length_append, List.length_nil, Nat.add_zero]; exact hl2)
    simpa using z) r h) fun r s' hq => ?_)
  cases r with
  | error e => exact False.elim hq
  | ok fl =>
    cases fl with
    | ret u => exact ⟨H, s, I, hq⟩
    | next => exact False.elim hq
    | brk => exact False.elim hq
    | cont => exact False.elim hq
def tMethF (C : Addr) (m : Str) (sp : SpF) (ta : TE) (t : TA) : TGf := fun σ H cont => ta σ H fun x H1 => ∃ a dx fs, x = .ref a ∧ H1 a = some (.ins C dx fs) ∧ fs.lookup m = none ∧ t σ H1 fun vs H2 => sp (x :: vs) H2 cont E0
/-- o.m(e, ..) of a generator method -/
theorem pg1_meth {pl : Sem Bool} {e : Expr} {es : List Expr} {t : TA} (he : PE X o ta) (c : Cls X.K C) (hm : Meth X.K C m f) (F : GF1 X.prog X.w X.K X.mg X.base k f fd ps sp) (hr : Room k X.A) (hb : Binds X.K fd ps []) (ha : PA X (e :: es) t)
    (hst : starEach (e :: es) X.env = (false, eval e X.env) :: starEach es X.env := by rfl) (hpl : (backTo pos' (starEach es X.env)).any (·.1) = false := by rfl)
    (ht : eval (.Call (.Attribute o m apos) (e :: es) [] pos') X.env = (do
      let ov ← eval o X.env
      standAt apos.atName
      let (f, first) ← holding [ov] (getMethod ov m pl)
      callWith pos' f first (backTo pos' (starEach (e :: es) X.env)) (backToKw pos' (keywordEach [] X.env))) := by rfl) :
    PG1 X k (.Call (.Attribute o m apos) (e :: es) [] pos') (tMethF C m sp ta t) := by
  refine ⟨fun pins s σ H cont I h => ?_⟩
  refine PySem.W.methodCall_KW (pl := pl) (thn (he.run pins s σ H _ I h) fun u s1 ⟨x, H1, I1, rx, a, dx, fs, ex, ea, l, q⟩ => ?_) ht
  subst ex
  obtain rfl : u = Value.ref a := rx
  refine getmeth_ok I1 ea c hm l ?_
  refine PySem.W.callWith_K (first := [.ref a]) (h₀ := X.base) I.ok.mod.kin hm.kp (thn (ha.run pos' pins s1 σ H1 _ I1 q) fun us s2 ⟨vs, H2, I2, r, q2⟩ => ⟨I2.kIn, ?_⟩) hst hpl
  exact run_gf1 (us := .ref a :: us) (vs := .ref a :: vs) F hr hb I2 (.cons rfl r) q2
def tForF (t : TGf) (g : TG) (tb : TS) : TS := fun D σ H => t σ H fun o H1 => match o with
  | none => D.nx σ H1
  | some x => g x σ H1 fun σ2 H2 => tb { D with nx := fun _ _ => False, ct := fun _ _ => False, bk := D.nx } σ2 H2
theorem ps_forF {e : Expr} {t : TGf} (hp : PassesOwn (model X.prog X.w) X.A X.env X.xe) (h : PG1 X k e t) (hr : Room (k + 3) X.A) (hg : PG X tg g) (hb : PSs X body tb)
    (hs : ∀ x, foldedSetIterable e X.env x = pure x := by intro _; rfl) : PS X (.For tg e body [] pos) (tForF t g tb) := by
  refine ⟨fun pins s σ H D I ht => ?_⟩
  refine wpAny_For (thn (h.run pins s σ H _ I ht) fun u s1 ⟨H1, sc, I1, hG⟩ => ?_) hs
  obtain ⟨a, gn, c, rfl, ha1, ha2, hga, hgs, hos, hbare, hl, hkp, wake⟩ := hG
  refine wpAny_pyIter_gen hga ?_
  refine codeAny_forLoop_any (fun n s' => n = 0 ∧ s' = s1) ?_ 0 ⟨rfl, rfl⟩
  rintro n s3 ⟨rfl, rfl⟩
  have hrm : Room k X.A.in1 := ⟨hr.hd, by have := hr.dp; show X.A.depth + 3 * k + 5 < _; omega, by have := hr.un; show X.A.units + 1 + 16 * k + 200 < _; omega⟩
  have seg := wake X.A.in1 (s3.setGen gn .running) hrm I1.ok.frames (fun _ _ e => e) hos (allBare_setGen hbare rfl)
  have call : ∀ {H' : Hp} {s' : Shared}, s'.os = sc.os → AllBare s'.gens → Un (frs X.stack) [] H1 H' sc.heap s'.heap → HOk X.prog X.w H' s'.heap → Inv X pins σ H' s' := fun {H' s'} o b u k => I1.call' (ch := []) o u k b fun b z => by simp at z
  refine wpAny_passesOwn hp (next_genG (n := 1) (F := fun _ _ s1 => ∃ H', s1.os = sc.os ∧ AllBare s1.gens ∧ Un (frs X.stack) [] H1 H' sc.heap s1.heap ∧ HOk X.prog X.w H' s1.heap ∧ D.nx σ H') (Er := fun e s1 => CX X.prog X.w X.stack H1 sc E0 e s1 ∧ s1.heap.IsGen a gn)
    (Y := YItem1 X.prog X.w X.stack H1 sc a gn _) hr.hd hl (by have := hr.dp; show X.A.depth < _; omega) hga hgs ⟨rfl, seg⟩ (fun v s₁ gs' hb' hv => ?_) (fun s₁ hp' h' hk => ?_) fun e s₁ he => ?_)
  · obtain ⟨x, H', rv, o1, b1, u1, k1, g1, q1⟩ := hv
    have I2 : Inv X pins σ H' (s₁.setGen gn gs') := call o1 (allBare_setGen b1 hb') u1 k1
    obtain ⟨og, nm, qn, eo, ec, ed, _⟩ := g1
    refine go_of (s := s₁.setGen gn gs') eo ec ed (by decide) ?_
    refine wpAny_passesOwn hp (thn (hg.run _ _ σ H' x v _ I2 rv q1) fun _ s6 ⟨σ6, H6, I6, q6⟩ => ?_)
    refine wpAny_passesOwn hp (thn (hb.run _ s6 σ6 H6 _ I6 q6) fun f s7 q7 => ?_)
    cases f with
    | next => obtain ⟨_, _, _, n7⟩ := q7; exact n7.elim
    | cont => obtain ⟨_, _, _, n7⟩ := q7; exact n7.elim
    | brk => exact q7
    | ret v => exact q7
  · obtain ⟨H', o1, b1, u1, k1, q1⟩ := hp'
    exact wpAny_execs_nil ⟨σ, H', call o1 (allBare_setGen b1 rfl) (u1.trans (Un.kept hk)) (k1.kept hk), q1⟩
  · obtain ⟨⟨_, _, _, _, _, _, _, _, _, _, _, _, z⟩, _⟩ := he
    exact (show False from z).elim
end
end L2.Tb
set_option Elab.async false
set_option linter.all false
set_option maxRecDepth 100000
set_option maxHeartbeats 8000000
namespace L2.K33
open PySem PySem.Spec PyProof.Rows L2.Tb
open SX (S)
abbrev s_ways : Stmt := inClass (top 44) 6
abbrev N_ways : List Str := ["self", "row", "way"]
theorem sc_ways : GScope N_ways ["self", "row"] (defScope s_ways) := ⟨rfl, rfl, rfl, by decide +kernel, rfl, by decide +kernel, by decide +kernel⟩
def wayT (d : Scr) (i : Nat) : List (List Int) := waysI (nxR d.steps) i
theorem readAll_len {ls : List (List Nat)} {m : Nat} : ∀ (rs : List (Option (List Nat))) (i : Nat), (readAll ls m i rs).length = rs.length
  | [], _ => rfl
  | r :: rs, i => by
    show (_ :: readAll ls m (i + 1) rs).length = _
    rw [List.length_cons, List.length_cons, readAll_len rs (i + 1)]
theorem steps_len (d : Scr) : d.steps.length = d.rws.length := by
  unfold Scr.steps
  rw [readAll_len, List.length_map]
/-- a script that leads forward, of few rows -/
structure ScW (d : Scr) : Prop where
  fw : FwdR d.steps
def spWaysL (K : PySem.W.Frag) (C SC CJ : Addr) : SpG := fun vs H cont E => ∃ (a : Addr) (d : Scr) (v : V), vs = [.ref a, v] ∧ ScAt C SC H a d ∧ ScW d ∧
  ((∃ i : Nat, v = .int (i : Int) ∧ i ≤ d.rws.length ∧ ∀ us H', Same H H' → Paired (fun u w => TupI H' u w) us (wayT d i) → us.length ≤ 1600000 → cont (us.map V.ref) H') ∨ (IxBad K H v d.rws.length ∧ ErrG H CJ E v))
def spWays1 (K : PySem.W.Frag) (C SC CJ : Addr) : SpF := fun vs H cont E => ∃ (a : Addr) (d : Scr) (i : Nat), vs = [.ref a, .int (i : Int)] ∧ ScAt C SC H a d ∧ ScW d ∧ i ≤ d.rws.length ∧
  ∀ H', Same H H' → (wayT d i = [] → cont none H') ∧ ∀ w ws u, wayT d i = w :: ws → TupI H' u w → cont (some (.ref u)) H'
theorem gfor_list {K : PySem.W.Frag} {a : Addr} {xs : List V} {g : TG} {tb : TGn} {D : GEnds} {ys : List V} {σ : St} {H : Hp} (Pv : Nat → List V → St → Hp → Prop) (h0 : Pv 0 ys σ H) (hl : ∀ i ys σ H, i ≤ xs.length → Pv i ys σ H → SqL K H a xs)
    (hs : ∀ i x ys σ H, xs[i]? = some x → Pv i ys σ H → g x σ H fun σ2 H2 => tb { D with nx := Pv (i + 1), ct := Pv (i + 1), bk := D.nx } ys σ2 H2) (hd : ∀ ys σ H, Pv xs.length ys σ H → D.nx ys σ H) :
    ∃ W : Nat → Nat → List V → St → Hp → Prop, (∃ m, W 0 m ys σ H) ∧ ∀ i m ys σ H, W i m ys σ H →
      ((Itl K a).stop i H ∧ D.nx ys σ H) ∨ ((Itl K a).go i H ∧ ∃ N : List V → St → Hp → Prop, (∀ ys' σ' H', N ys' σ' H' → ∃ m', m' < m ∧ W (i + 1) m' ys' σ' H') ∧ ∀ x H', (Itl K a).yld i H x H' → g x σ H' fun σ2 H2 => tb { D with nx := N, ct := N, bk := D.nx } ys σ2 H2) := by
  refine ⟨fun i m ys σ H => m = xs.length - i ∧ i ≤ xs.length ∧ Pv i ys σ H, ⟨xs.length, by simp, Nat.zero_le _, h0⟩, ?_⟩
  rintro i m ys σ H ⟨rfl, hi, p⟩
  have q := hl i ys σ H hi p
  by_cases hlt : i < xs.length
  · refine .inr ⟨⟨xs, xs[i], q, by simp [hlt]⟩, Pv (i + 1), fun ys' σ' H' p' => ⟨xs.length - (i + 1), by omega, rfl, hlt, p'⟩, fun x H' y => ?_⟩
    obtain ⟨e, y⟩ := y
    subst e
    exact hs i x ys σ _ (y xs q) p
  · have e : i = xs.length := by omega
    subst e
    exact .inl ⟨⟨xs, q, Nat.le_refl _⟩, hd ys σ H p⟩
section
variable {P : Program} {w : World} {K : PySem.W.Frag} {mg : Str → Option Value} {base : Heap} {f : Addr} {fd : FuncData} {C SC CJ : Addr}
theorem waysI_len {sts : List RSt} {row : Nat} (fr : FwdR sts) (hr : row ≤ sts.length) : (waysI (nxR sts) row).length ≤ 1600000 := by
  have e : (waysI (nxR sts) row).length = (ways (nxR sts) row 0).length := by
    unfold waysI
    rw [(ordI_perm _).length_eq, List.length_map]
  rw [e]
  refine Nat.le_trans (ways_len (fun i hi n hn => ?_) (fun i _ => ?_) 0) ?_
  · have il : i < sts.length := by omega
    have e : sts[i]? = some sts[i] := List.getElem?_eq_getElem il
    unfold nxR at hn
    rw [e] at hn
    exact fr.fw i _ e n hn
  · unfold nxR
    split
    · unfold nextR
      split
      · exact Nat.le_succ _
      · split <;> first | exact Nat.le_succ _ | exact Nat.le_refl _
    · exact Nat.zero_le _
  · have : row + 1 - 0 ≤ 13 := by have := fr.len; omega
    exact Nat.le_trans (Nat.pow_le_pow_right (by decide) this) (by decide)
theorem c_ways (SF : ScF K mg SC) (noS : NoAttr K SC "_steps") (x_check_row : CalX P w K mg base 3 "check_row" (spCheckRow K C SC CJ)) (k_all_ways : Cal P w K mg base 2 "all_ways" spAllWays)
    (F : FunD K "ways" "Script.ways" (defArgs s_ways) (defBody s_ways) (defScope s_ways) [] [] f fd) : GFn P w K mg base 4 f fd ["self", "row"] (spWaysL K C SC CJ) := by
  have hnd := sc_ways.nd
  obtain ⟨oc, od, dV, kV, doc, pm, an, cdv, ct, osl, rfl, lk, hcd, hD, hK⟩ := F.ex
  refine gfn_of lk hcd sc_ways (fun vs H Q E h => ?_) fun A outer s H vs Q E pn hr h => ?_
  · obtain ⟨a, d, v, rfl, _⟩ := h
    rfl
  · obtain ⟨a, d, v, rfl, sc, sw, h⟩ := h
    refine ⟨_, gss_cons (gs_ps (ps_expr (pe_calX x_check_row hr (by omega) (by rfl) (passes_call takes_gcx (fun _ _ _ _ h => h)) (pa_cons (pv 0) (pa_cons (pv 1) pa_nil))))) (gss_cons (gs_for owns_gcx (by rfl) (pi_list (pe_cal k_all_ways hr (by omega) (by rfl) (pa_cons (pe_fld (pv 0) (by rfl)) (pa_cons (pv 1) pa_nil)))) (pg_name (i := 2) hnd rfl (by first | exact Or.inl rfl | exact Or.inr rfl))
      (gss_cons (gs_yield (pv 2)) gss_nil)) gss_nil), ?_⟩
    obtain ⟨dx, Tt, tk, bx, rw9, ts, h1, h2, h3, h4, h5, h6⟩ := id sc
    have l99 : d.rws.length ≤ 99 := by
      have := sw.fw.len
      rw [steps_len] at this
      omega
    rcases h with ⟨i, rfl, hi, q⟩ | ⟨bad, q⟩
    · refine ⟨_, rfl, _, rfl, a, d, _, rfl, sc, l99, .inl ⟨i, rfl, hi, ?_⟩⟩
      refine ⟨_, rfl, a, SC, dx, _, _, rfl, h1, SF.cls, noS, rfl, _, rfl, Tt, ts, d.steps, i, rfl, h5, h6, sw.fw, by rw [steps_len]; exact hi, fun L us H1 s1 nL eL pu => ?_⟩
      have ul : us.length ≤ 1600000 := by
        have e := pu.length
        rw [e]
        exact waysI_len sw.fw (by rw [steps_len]; exact hi)
      refine ⟨L, rfl, ⟨_, SqL.of eL⟩, gfor_list (K := K) (a := L) (xs := us.map V.ref) (fun j ys σ G => G = H1 ∧ ys = (us.map V.ref).take j ∧ ∃ x2, σ = [some (.ref a), some (.int (i : Int)), x2]) ⟨rfl, by rw [List.take_zero], _, rfl⟩ (fun j ys σ G _ h => ?_) ?_ ?_⟩
      · obtain ⟨rfl, _⟩ := h
        exact SqL.of eL
      · rintro j x ys σ G hj ⟨rfl, rfl, x2, rfl⟩
        refine gname_go ?_
        try dsimp only
        have jl := (List.getElem?_eq_some_iff.mp hj).1
        rw [List.length_map] at jl
        refine ⟨by rw [List.length_take, List.length_map, sizeLine_eq]; omega, _, rfl, rfl, ?_, _, rfl⟩
        rw [List.take_add_one, hj]
        rfl
      · rintro ys σ G ⟨rfl, rfl, x2, rfl⟩
        show Q _ _
        rw [List.take_length]
        exact q us G s1 pu ul
    · exact ⟨_, rfl, _, rfl, a, d, v, rfl, sc, l99, .inr ⟨bad, q⟩⟩
theorem c_ways1 (SF : ScF K mg SC) (noS : NoAttr K SC "_steps") (x_check_row : CalX P w K mg base 3 "check_row" (spCheckRow K C SC CJ)) (k_all_ways : Cal P w K mg base 2 "all_ways" spAllWays)
    (F : FunD K "ways" "Script.ways" (defArgs s_ways) (defBody s_ways) (defScope s_ways) [] [] f fd) : GF1 P w K mg base 4 f fd ["self", "row"] (spWays1 K C SC CJ) := by
  have hnd := sc_ways.nd
  obtain ⟨oc, od, dV, kV, doc, pm, an, cdv, ct, osl, rfl, lk, hcd, hD, hK⟩ := F.ex
  refine gf1_of lk hcd sc_ways (fun vs H Q E h => ?_) fun A outer s H vs Q E pn hr h => ?_
  · obtain ⟨a, d, v, rfl, _⟩ := h
    rfl
  · obtain ⟨a, d, i, rfl, sc, sw, hi, q⟩ := h
    refine ⟨_, g1s_cons (g1_ps (ps_expr (pe_calX x_check_row hr (by omega) (by rfl) (passes_call takes_gcx (fun _ _ _ _ h => h)) (pa_cons (pv 0) (pa_cons (pv 1) pa_nil))))) (g1s_cons (g1_for owns_gcx (by rfl) (pi_list (pe_cal k_all_ways hr (by omega) (by rfl) (pa_cons (pe_fld (pv 0) (by rfl)) (pa_cons (pv 1) pa_nil)))) (pg_name (i := 2) hnd rfl (by first | exact Or.inl rfl | exact Or.inr rfl))
      (g1s_cons (g1_yield (pv 2)) g1s_nil)) g1s_nil), ?_⟩
    obtain ⟨dx, Tt, tk, bx, rw9, ts, h1, h2, h3, h4, h5, h6⟩ := id sc
    have l99 : d.rws.length ≤ 99 := by
      have := sw.fw.len
      rw [steps_len] at this
      omega
    refine ⟨_, rfl, _, rfl, a, d, _, rfl, sc, l99, .inl ⟨i, rfl, hi, ?_⟩⟩
    refine ⟨_, rfl, a, SC, dx, _, _, rfl, h1, SF.cls, noS, rfl, _, rfl, Tt, ts, d.steps, i, rfl, h5, h6, sw.fw, by rw [steps_len]; exact hi, fun L us H1 s1 nL eL pu => ?_⟩
    obtain ⟨q1, q2⟩ := q H1 s1
    refine ⟨L, rfl, ⟨_, SqL.of eL⟩, ?_⟩
    cases us with
    | nil =>
      have e : wayT d i = [] := by
        cases e : wayT d i with
        | nil => rfl
        | cons w ws =>
          have pu : Paired (fun u w => TupI H1 u w) [] (wayT d i) := pu
          rw [e] at pu
          cases pu
      exact .inl ⟨⟨_, SqL.of eL, Nat.le_refl _⟩, q1 e⟩
    | cons u us =>
      refine .inr ⟨⟨_, .ref u, SqL.of eL, rfl⟩, fun x G hy => ?_⟩
      obtain ⟨rfl, hx⟩ := hy
      have ex : x = .ref u := by
        have := hx _ (SqL.of eL)
        cases this
        rfl
      subst ex
      refine gname_go ?_
      try dsimp only
      refine ⟨_, rfl, ?_⟩
      cases e : wayT d i with
      | nil =>
        have pu : Paired (fun u w => TupI G u w) (u :: us) (wayT d i) := pu
        rw [e] at pu
        cases pu
      | cons w ws =>
        have pu : Paired (fun u w => TupI G u w) (u :: us) (wayT d i) := pu
        rw [e] at pu
        cases pu with
        | cons a b => exact q2 w ws u e a
end
end L2.K33
set_option Elab.async false
set_option linter.all false
set_option maxRecDepth 100000
set_option maxHeartbeats 8000000
namespace L2.K33
open PySem PySem.Spec PyProof.Rows L2.Tb
open SX (S)
/-! ### the law's own ways -/
def nextS (d : Stp) (i : Nat) : List Nat := match d with
  | .tst _ _ _ g => [i + 1, g]
  | .go g => [g]
  | _ => [i + 1]
def nxS (ds : List Stp) (i : Nat) : List Nat := match ds[i]? with
  | some d => nextS d i
  | none => []
theorem tst_go : ∀ u : Bool, decide (cds (tstS u) = goW) = false := by decide +kernel
theorem next_rst {ls : List (List Nat)} {w m k : Nat} {d : Stp} (h : StAt w m k d) (i : Nat) : nextR (rstOf ls d) i = nextS d i := by
  unfold nextR
  cases d with
  | tst u a b g =>
    show (if cds (tstS u) = goW then _ else _) = _
    rw [if_neg (of_decide_eq_false (tst_go u))]
    rfl
  | go g =>
    show (if goW = goW then _ else _) = _
    rw [if_pos rfl]
    rfl
  | cp a b =>
    show (if eqW = goW then _ else _) = _
    rw [if_neg (by decide +kernel)]
    rfl
  | op s a b c =>
    show (if cds (opS s) = goW then _ else _) = _
    rw [if_neg (of_decide_eq_false (op_sign s h.1).2.2)]
    rfl
theorem nxR_S {ls : List (List Nat)} {w m : Nat} {ds : List Stp} (sl : StepsL w m ds) : nxR (ds.map (rstOf ls)) = nxS ds := by
  funext i
  unfold nxR nxS
  rw [List.getElem?_map]
  cases e : ds[i]? with
  | none => rfl
  | some d => exact next_rst (sl.at_ i d e) i
theorem fwdR_S {ls : List (List Nat)} {w m : Nat} {ds : List Stp} (sl : StepsL w m ds) (d12 : ds.length ≤ 12) : FwdR (ds.map (rstOf ls)) := by
  refine ⟨by rw [List.length_map]; exact d12, fun k st e hg => ?_, fun k st e n hn => ?_⟩
  · rw [List.getElem?_map] at e
    obtain ⟨d, hd, rfl⟩ := Option.map_eq_some_iff.mp e
    have h := sl.at_ k d hd
    cases d with
    | tst u a b g => exact absurd hg (of_decide_eq_false (tst_go u))
    | go g => exact fun z => by cases z
    | cp a b => exact absurd hg (by decide +kernel : eqW ≠ goW)
    | op s a b c => exact absurd hg (of_decide_eq_false (op_sign s h.1).2.2)
  · rw [List.getElem?_map] at e
    obtain ⟨d, hd, rfl⟩ := Option.map_eq_some_iff.mp e
    have h := sl.at_ k d hd
    rw [next_rst h] at hn
    cases d with
    | tst u a b g =>
      have h2 := h.2.2
      simp only [nextS, List.mem_cons, List.not_mem_nil, or_false] at hn
      omega
    | go g =>
      have h2 : k + 1 ≤ g ∧ g ≤ m := h
      simp only [nextS, List.mem_cons, List.not_mem_nil, or_false] at hn
      omega
    | cp a b =>
      simp only [nextS, List.mem_cons, List.not_mem_nil, or_false] at hn
      omega
    | op s a b c =>
      simp only [nextS, List.mem_cons, List.not_mem_nil, or_false] at hn
      omega
def isTat (ds : List Stp) (k : Nat) : Bool := match ds[k]? with
  | some d => isT d
  | none => false
def spotsN (ds : List Stp) (j : Nat) : List Nat := (List.range j).filter (isTat ds)
def spotsL (ds : List Stp) : List Nat := spotsN ds ds.length
theorem spotsN_succ (ds : List Stp) (j : Nat) : spotsN ds (j + 1) = spotsN ds j ++ (if isTat ds j = true then [j] else []) := by
  unfold spotsN
  rw [List.range_succ, List.filter_append]
  congr 1
  cases c : isTat ds j <;> simp [c]
theorem spotsN_len (ds : List Stp) : ∀ j, j ≤ ds.length → (spotsN ds j).length = ((ds.take j).filter isT).length
  | 0, _ => by rw [List.take_zero]; rfl
  | j + 1, h => by
    have e : ds[j]? = some ds[j] := List.getElem?_eq_getElem (by omega)
    rw [spotsN_succ, take_at e, List.filter_append, List.length_append, List.length_append, spotsN_len ds j (by omega), filt1]
    congr 1
    rw [show isTat ds j = isT ds[j] by unfold isTat; rw [e]]
    cases isT ds[j] <;> rfl
theorem spots_len {w m : Nat} {ds : List Stp} (sl : StepsL w m ds) : (spotsL ds).length ≤ 4 := by
  unfold spotsL
  rw [spotsN_len ds _ (Nat.le_refl _), List.take_length]
  exact sl.few
theorem spots_nd (ds : List Stp) (j : Nat) : (spotsN ds j).Nodup := List.Pairwise.filter _ List.nodup_range
theorem spots_mem {ds : List Stp} {i : Nat} {d : Stp} (e : ds[i]? = some d) (h : isT d = true) : i ∈ spotsL ds := by
  refine List.mem_filter.mpr ⟨List.mem_range.mpr (List.getElem?_eq_some_iff.mp e).1, ?_⟩
  unfold isTat
  rw [e]
  exact h
theorem nd_inj {l : List Nat} (nd : l.Nodup) {m j : Nat} (hm : m < l.length) (hj : j < l.length) (e : l[m] = l[j]) : m = j := by
  have key := List.pairwise_iff_getElem.mp nd
  rcases Nat.lt_trichotomy m j with h | h | h
  · exact absurd e (key m j hm hj h)
  · exact h
  · exact absurd e.symm (key j m hj hm h)
theorem nd_first {l : List Nat} (nd : l.Nodup) {j m x : Nat} (h1 : l[j]? = some x) (h2 : l[m]? = some x) : m = j := by
  obtain ⟨a1, a2⟩ := List.getElem?_eq_some_iff.mp h1
  obtain ⟨b1, b2⟩ := List.getElem?_eq_some_iff.mp h2
  exact nd_inj nd b1 a1 (b2.trans a2.symm)
theorem idx_at {l : List Nat} {x : Nat} (h : x ∈ l) : l[l.idxOf x]? = some x := by
  have hl := List.idxOf_lt_length_iff.mpr h
  rw [List.getElem?_eq_getElem hl, List.getElem_idxOf hl]
/-- where a choice leads -/
def bC (ds : List Stp) (c : Nat) (i : Nat) : Nat := match ds[i]? with
  | some (.tst _ _ _ g) => if c / 2 ^ (spotsL ds).idxOf i % 2 = 1 then g else i + 1
  | some (.go g) => g
  | _ => i + 1
def gC (ds : List Stp) (row c : Nat) : Option (List Nat) := if (wlk (bC ds c) row 13 0).2 = row then some (wlk (bC ds c) row 13 0).1 else none
section
variable {w m : Nat} {ds : List Stp}
theorem fwdS (sl : StepsL w m ds) (row : Nat) : Fwd (nxS ds) row := fun i _ n hn => by
  unfold nxS at hn
  cases e : ds[i]? with
  | none => rw [e] at hn; cases hn
  | some d =>
    rw [e] at hn
    have h := sl.at_ i d e
    cases d with
    | tst u a b g =>
      have h2 := h.2.2
      simp only [nextS, List.mem_cons, List.not_mem_nil, or_false] at hn
      omega
    | go g =>
      have h2 : i + 1 ≤ g ∧ g ≤ m := h
      simp only [nextS, List.mem_cons, List.not_mem_nil, or_false] at hn
      omega
    | cp a b =>
      simp only [nextS, List.mem_cons, List.not_mem_nil, or_false] at hn
      omega
    | op s a b c =>
      simp only [nextS, List.mem_cons, List.not_mem_nil, or_false] at hn
      omega
theorem ndS (sl : StepsL w m ds) (i : Nat) : (nxS ds i).Nodup := by
  unfold nxS
  cases e : ds[i]? with
  | none => exact .nil
  | some d =>
    have h := sl.at_ i d e
    cases d with
    | tst u a b g =>
      have h2 := h.2.2
      refine List.nodup_cons.mpr ⟨fun z => ?_, List.nodup_cons.mpr ⟨by simp, .nil⟩⟩
      rw [List.mem_singleton] at z
      omega
    | go g => exact List.nodup_cons.mpr ⟨by simp, .nil⟩
    | cp a b => exact List.nodup_cons.mpr ⟨by simp, .nil⟩
    | op s a b c => exact List.nodup_cons.mpr ⟨by simp, .nil⟩
theorem bC_mem {i : Nat} (hi : i < ds.length) (c : Nat) : bC ds c i ∈ nxS ds i := by
  have e : ds[i]? = some ds[i] := List.getElem?_eq_getElem hi
  unfold bC nxS
  rw [e]
  cases ds[i] with
  | tst u a b g =>
    show (if _ then g else i + 1) ∈ [i + 1, g]
    split
    · simp
    · simp
  | go g => exact List.mem_cons_self
  | cp a b => exact List.mem_cons_self
  | op s a b c => exact List.mem_cons_self
theorem law_ways (sl : StepsL w m ds) (d12 : ds.length ≤ 12) {row : Nat} (hr : row ≤ ds.length) : (fnd (gC ds row) (2 ^ (spotsL ds).length)).Perm (ways (nxS ds) row 0) := by
  have fw := fwdS sl row
  refine (List.perm_ext_iff_of_nodup (fnd_nodup _ _) (ways_nodup fw (fun i _ => ndS sl i) 0)).mpr fun v => ?_
  rw [fnd_mem]
  constructor
  · rintro ⟨c, _, h⟩
    unfold gC at h
    by_cases z : (wlk (bC ds c) row 13 0).2 = row
    · rw [if_pos z] at h
      cases h
      exact wlk_mem fw (fun i hi => bC_mem (by omega) c) 13 0 (by omega) z
    · rw [if_neg z] at h
      cases h
  · intro h
    have some1 : ∀ i, i < row → ∃ n, n ∈ nxS ds i := fun i hi => ⟨_, bC_mem (by omega) 0⟩
    obtain ⟨b, hb, hw⟩ := wlk_ex fw some1 0 v h
    obtain ⟨c, hc, bits⟩ := bits_ex ((spotsL ds).map fun k => match ds[k]? with
      | some (Stp.tst _ _ _ g) => decide (b k = g)
      | _ => false)
    rw [List.length_map] at hc bits
    have same : ∀ i, i < row → bC ds c i = b i := fun i hi => by
      have e : ds[i]? = some ds[i] := List.getElem?_eq_getElem (by omega)
      have mb := hb i hi
      unfold nxS at mb
      unfold bC
      rw [e] at mb ⊢
      cases e2 : ds[i] with
      | tst u x y g =>
        rw [e2] at mb e
        have h2 := (sl.at_ i _ e).2.2
        have mi := spots_mem e rfl
        have lt := List.idxOf_lt_length_iff.mpr mi
        have bi := bits _ lt
        have e3 : ((spotsL ds).map fun k => match ds[k]? with
          | some (Stp.tst _ _ _ g) => decide (b k = g)
          | _ => false).getD ((spotsL ds).idxOf i) false = decide (b i = g) := by
          rw [List.getD_eq_getElem?_getD, List.getElem?_map, idx_at mi]
          show (match ds[i]? with
          | some (Stp.tst _ _ _ g) => decide (b i = g)
          | _ => false) = _
          rw [e]
        rw [e3] at bi
        show (if c / 2 ^ (spotsL ds).idxOf i % 2 = 1 then g else i + 1) = b i
        have mb : b i = i + 1 ∨ b i = g := by simpa [nextS] using mb
        by_cases z : c / 2 ^ (spotsL ds).idxOf i % 2 = 1
        · rw [if_pos z]
          rw [decide_eq_true z] at bi
          exact (of_decide_eq_true bi.symm).symm
        · rw [if_neg z]
          rw [decide_eq_false z] at bi
          have := of_decide_eq_false bi.symm
          rcases mb with mb | mb
          · exact mb.symm
          · exact absurd mb this
      | go g =>
        rw [e2] at mb
        exact (List.mem_singleton.mp mb).symm
      | cp x y =>
        rw [e2] at mb
        exact (List.mem_singleton.mp mb).symm
      | op s x y z =>
        rw [e2] at mb
        exact (List.mem_singleton.mp mb).symm
    refine ⟨c, hc, ?_⟩
    have e4 : wlk (bC ds c) row 13 0 = (v, row) := by
      rw [wlk_congr fw (b := bC ds c) (b' := b) (fun i hi => bC_mem (by omega) c) 13 0 fun j _ hj => same j hj]
      exact hw 13 (by omega)
    unfold gC
    rw [e4, if_pos rfl]
end
end L2.K33
set_option Elab.async false
set_option linter.all false
set_option maxRecDepth 100000
set_option maxHeartbeats 8000000
namespace L2.K33
open PySem PySem.Spec PyProof.Rows L2.Tb
open SX (S)
/-! ### rows of ints as data -/
def tupD (ns : List Int) : PyData := .tuple (ns.map PyData.int)
def lstD (ns : List Int) : PyData := .list (ns.map PyData.int)
def rowsD (ws : List (List Int)) : PyData := .list (ws.map tupD)
theorem dp_ints {K : PySem.W.Frag} {H : Hp} : ∀ ns : List Int, DpAll K H (ns.map V.int) (ns.map PyData.int)
  | [] => .nil
  | n :: ns => .cons (.int n) (dp_ints ns)
theorem dp_tup {K : PySem.W.Frag} {H : Hp} {q : Addr} {ns : List Int} (h : SqT K H q (ns.map V.int)) : Dp K H (.ref q) (tupD ns) := .tup h (dp_ints ns)
theorem dp_lst {K : PySem.W.Frag} {H : Hp} {q : Addr} {ns : List Int} (h : SqL K H q (ns.map V.int)) : Dp K H (.ref q) (lstD ns) := .lst h (dp_ints ns)
theorem dp_rows {K : PySem.W.Frag} {H : Hp} : ∀ {us : List Addr} {ws : List (List Int)}, Paired (fun u w => TupI H u w) us ws → DpAll K H (us.map V.ref) (ws.map tupD)
  | _, _, .nil => .nil
  | _, _, .cons h t => .cons (dp_tup (SqT.of h)) (dp_rows t)
theorem dp_lists {K : PySem.W.Frag} {H : Hp} : ∀ {us : List Addr} {ws : List (List Int)}, Paired (fun u w => H u = some (.lst (w.map V.int))) us ws → DpAll K H (us.map V.ref) (ws.map lstD)
  | _, _, .nil => .nil
  | _, _, .cons h t => .cons (dp_lst (SqL.of h)) (dp_lists t)
theorem ints_eqv : ∀ a b : List Int, PyData.eqvAll (a.map PyData.int) (b.map PyData.int) = decide (a = b)
  | [], [] => by simp [PyData.eqvAll]
  | [], _ :: _ => by simp [PyData.eqvAll]
  | _ :: _, [] => by simp [PyData.eqvAll]
  | x :: a, y :: b => by
    simp only [List.map_cons, PyData.eqvAll, PyData.eqv, ints_eqv a b]
    by_cases h : x = y
    · subst h
      simp
    · simp [h]
theorem lstD_eqv (a b : List Int) : PyData.eqv (lstD a) (lstD b) = decide (a = b) := by
  simp only [lstD, PyData.eqv]
  exact ints_eqv a b
theorem any_lstD (M : List (List Nat)) (x : List Nat) : (((M.map intsN).map lstD).any fun z => PyData.eqv z (lstD (intsN x))) = decide (x ∈ M) := by
  induction M with
  | nil => simp
  | cons m M ih =>
    rw [List.map_cons, List.map_cons, List.any_cons, ih, lstD_eqv]
    by_cases h : m = x
    · subst h
      simp
    · have h2 : ¬ x = m := fun e => h e.symm
      have h4 : ¬ intsN m = intsN x := fun e => h (intsN_inj e)
      by_cases h3 : x ∈ M <;> simp [h2, h3, h4]
theorem ints_lay : ∀ ns : List Int, PyData.canLayAll0 (ns.map PyData.int) = true
  | [] => by simp [PyData.canLayAll0]
  | n :: ns => by simp [PyData.canLayAll0, PyData.canLay0, ints_lay ns]
theorem ints_depth : ∀ ns : List Int, PyData.depthAll (ns.map PyData.int) = 0
  | [] => by simp [PyData.depthAll]
  | n :: ns => by simp [PyData.depthAll, PyData.depth, ints_depth ns]
theorem lsts_lay : ∀ M : List (List Int), PyData.canLayAll0 (M.map lstD) = true
  | [] => by simp [PyData.canLayAll0]
  | m :: M => by simp [PyData.canLayAll0, lstD, PyData.canLay0, ints_lay m]; simpa [lstD] using lsts_lay M
theorem lstD_depth (m : List Int) : (lstD m).depth = 1 := by simp [lstD, PyData.depth, ints_depth m]
theorem tupD_depth (m : List Int) : (tupD m).depth = 1 := by simp [tupD, PyData.depth, ints_depth m]
theorem lsts_depth : ∀ M : List (List Int), PyData.depthAll (M.map lstD) ≤ 1
  | [] => by simp [PyData.depthAll]
  | m :: M => by
    have h := lsts_depth M
    have h2 := lstD_depth m
    simp only [List.map_cons, PyData.depthAll]
    omega
theorem tups_depth : ∀ M : List (List Int), PyData.depthAll (M.map tupD) ≤ 1
  | [] => by simp [PyData.depthAll]
  | m :: M => by
    have h := tups_depth M
    have h2 := tupD_depth m
    simp only [List.map_cons, PyData.depthAll]
    omega
theorem lstD_shaped (m : List Int) : SeqAt.shaped (lstD m) = true := by
  show ((lstD m).canLay0 && decide ((lstD m).depth ≤ 64)) = true
  rw [Bool.and_eq_true]
  exact ⟨by simp only [lstD, PyData.canLay0]; exact ints_lay m, decide_eq_true (by rw [lstD_depth]; decide)⟩
theorem lsts_shaped (M : List (List Int)) : SeqAt.shaped (.list (M.map lstD)) = true := by
  show (PyData.canLay0 (.list (M.map lstD)) && decide (PyData.depth (.list (M.map lstD)) ≤ 64)) = true
  rw [Bool.and_eq_true]
  exact ⟨by simp only [PyData.canLay0]; exact lsts_lay M, decide_eq_true (by have := lsts_depth M; simp only [PyData.depth]; omega)⟩
theorem tups_lay : ∀ M : List (List Int), PyData.canLayAll0 (M.map tupD) = true
  | [] => by simp [PyData.canLayAll0]
  | m :: M => by simp [PyData.canLayAll0, tupD, PyData.canLay0, ints_lay m]; simpa [tupD] using tups_lay M
theorem rowsD_shaped (M : List (List Int)) : SeqAt.shaped (rowsD M) = true := by
  show (PyData.canLay0 (.list (M.map tupD)) && decide (PyData.depth (.list (M.map tupD)) ≤ 64)) = true
  rw [Bool.and_eq_true]
  exact ⟨by simp only [PyData.canLay0]; exact tups_lay M, decide_eq_true (by have := tups_depth M; simp only [PyData.depth]; omega)⟩
theorem tt_len (ts : List Str) : (PySem.tupleText ts).length ≤ PySem.piled ts + 4 := by
  unfold PySem.tupleText
  rw [Str.length_append, Str.length_append]
  have e1 : (("(" : Str)).length = 1 := rfl
  have e3 : (((if ts.length == 1 then ",)" else ")" : String) : Str)).length ≤ 2 := by split <;> decide
  by_cases h : ts = []
  · subst h
    have e4 : (Str.join ", " ([] : List Str)).length = 0 := rfl
    omega
  · have := PySem.join_length_add ts h
    omega
theorem piled_le {c : Nat} : ∀ ts : List Str, (∀ t ∈ ts, t.length ≤ c) → PySem.piled ts ≤ ts.length * (c + 2)
  | [], _ => by simp [PySem.piled]
  | t :: ts, h => by
    have h1 := piled_le ts fun u hu => h u (List.mem_cons_of_mem _ hu)
    have h2 := h t (List.mem_cons_self ..)
    rw [PySem.piled_cons, List.length_cons, Nat.succ_mul]
    omega
/-- from 0 to 99 -/
def Few (ns : List Int) : Prop := ns.length ≤ 12 ∧ ∀ n ∈ ns, 0 ≤ n ∧ n ≤ 99
theorem sm_show {i : Int} (h : 0 ≤ i ∧ i ≤ 99) : i.natAbs.log2 < 1920 ∧ (toString i).length ≤ 11 := by
  constructor
  · by_cases z : i.natAbs = 0
    · rw [z]
      decide +kernel
    · refine (Nat.log2_lt z).mpr (Nat.lt_of_le_of_lt (m := 2 ^ 7) ?_ (Nat.pow_lt_pow_right (by decide) (by decide)))
      omega
  · refine PySem.int_text_length_le10 (k := 10) (by decide) ?_
    have e2 : (99 : Int) < ((10 ^ 10 : Nat) : Int) := by decide +kernel
    omega
theorem ints_shown : ∀ ns : List Int, (∀ n ∈ ns, 0 ≤ n ∧ n ≤ 99) → (PyData.shownAll (ns.map PyData.int)).length = ns.length ∧ (∀ t ∈ PyData.shownAll (ns.map PyData.int), t.length ≤ 11) ∧ PyData.showableAll (ns.map PyData.int) = true ∧ PyData.hasDictAll (ns.map PyData.int) = false
  | [], _ => by simp [PyData.shownAll, PyData.showableAll, PyData.hasDictAll]
  | n :: ns, w => by
    obtain ⟨h1, h2, h3, h4⟩ := ints_shown ns fun x hx => w x (List.mem_cons_of_mem _ hx)
    obtain ⟨g1, g2⟩ := sm_show (w n (List.mem_cons_self ..))
    refine ⟨by simp [PyData.shownAll, h1], fun t ht => ?_, by simp [PyData.showableAll, PyData.showable, h3, g1], by simp [PyData.hasDictAll, PyData.hasDict, h4]⟩
    rw [List.map_cons, PyData.shownAll] at ht
    rcases List.mem_cons.mp ht with e | ht
    · rw [e]
      show (Str.ofString (toString n)).length ≤ 11
      rw [PySem.ofString_length]
      exact g2
    · exact h2 t ht
theorem tupD_shown {m : List Int} (w : Few m) : (tupD m).shown.length ≤ 200 ∧ (tupD m).showable = true ∧ (tupD m).hasDict = false := by
  obtain ⟨h1, h2, h3, h4⟩ := ints_shown m w.2
  refine ⟨?_, by simpa only [tupD, PyData.showable] using h3, by simpa only [tupD, PyData.hasDict] using h4⟩
  simp only [tupD, PyData.shown]
  have a := tt_len (PyData.shownAll (m.map PyData.int))
  have b := piled_le _ h2
  have l := w.1
  rw [h1] at b
  omega
theorem tups_shown : ∀ M : List (List Int), (∀ m ∈ M, Few m) → (PyData.shownAll (M.map tupD)).length = M.length ∧ (∀ t ∈ PyData.shownAll (M.map tupD), t.length ≤ 200) ∧ PyData.showableAll (M.map tupD) = true ∧ PyData.hasDictAll (M.map tupD) = false
  | [], _ => by simp [PyData.shownAll, PyData.showableAll, PyData.hasDictAll]
  | m :: M, w => by
    obtain ⟨h1, h2, h3, h4⟩ := tups_shown M fun x hx => w x (List.mem_cons_of_mem _ hx)
    obtain ⟨g1, g2, g3⟩ := tupD_shown (w m (List.mem_cons_self ..))
    refine ⟨by simp [PyData.shownAll, h1], fun t ht => ?_, by simp [PyData.showableAll, h3, g2], by simp [PyData.hasDictAll, h4, g3]⟩
    rw [List.map_cons, PyData.shownAll] at ht
    rcases List.mem_cons.mp ht with e | ht
    · rw [e]
      exact g1
    · exact h2 t ht
theorem tupD_rep {m : List Int} (w : Few m) : (tupD m).showable = true ∧ (tupD m).hasDict = false ∧ (tupD m).depth ≤ 60 ∧ (tupD m).shown.length ≤ sizeLine := by
  obtain ⟨g1, g2, g3⟩ := tupD_shown w
  exact ⟨g2, g3, by rw [tupD_depth]; decide, by rw [sizeLine_eq]; omega⟩
theorem tf_len : ∀ (ts : List Str) (k : Nat) (acc : Str), (PySem.textFrom k acc ts).length ≤ acc.length + PySem.piled ts
  | [], k, acc => Nat.le_add_right _ _
  | t :: r, k, acc => by
    have h := tf_len r (k + 1) (acc ++ (if k > 0 then ", " else "" : String) ++ t)
    have e : (acc ++ (if k > 0 then ", " else "" : String) ++ t).length = acc.length + (if k > 0 then 2 else 0) + t.length := by
      rw [Str.length_append, Str.length_append]
      split <;> rfl
    rw [e] at h
    show (PySem.textFrom (k + 1) _ r).length ≤ _
    rw [PySem.piled_cons]
    have : (if k > 0 then 2 else 0 : Nat) ≤ 2 := by split <;> decide
    omega
theorem lt_len (ts : List Str) : (PySem.listText ts).length ≤ PySem.piled ts + 4 := by
  unfold PySem.listText
  rw [Str.length_append]
  have e3 : (("]" : Str)).length = 1 := rfl
  have e1 : (("[" : Str)).length = 1 := rfl
  have := tf_len ts 0 "["
  omega
theorem rows_rep {M : List (List Int)} (hl : M.length ≤ 16) (w : ∀ m ∈ M, Few m) : (rowsD M).showable = true ∧ (rowsD M).hasDict = false ∧ (rowsD M).depth ≤ 60 ∧ (rowsD M).shown.length ≤ sizeLine := by
  obtain ⟨h1, h2, h3, h4⟩ := tups_shown M w
  refine ⟨by simpa only [rowsD, PyData.showable] using h3, by simpa only [rowsD, PyData.hasDict] using h4, ?_, ?_⟩
  · have := tups_depth M
    simp only [rowsD, PyData.depth]
    omega
  · simp only [rowsD, PyData.shown]
    have a := lt_len (PyData.shownAll (M.map tupD))
    have b := piled_le _ h2
    rw [h1] at b
    have c : M.length * 202 ≤ 16 * 202 := Nat.mul_le_mul_right _ hl
    rw [sizeLine_eq]
    omega
/-- the law's ways are few -/
theorem ways_few {w m : Nat} {ds : List Stp} (sl : StepsL w m ds) (d12 : ds.length ≤ 12) {row : Nat} (hr : row ≤ ds.length) : (waysI (nxS ds) row).length ≤ 16 ∧ ∀ v ∈ waysI (nxS ds) row, Few v := by
  constructor
  · unfold waysI
    rw [(ordI_perm _).length_eq, List.length_map, ← (law_ways sl d12 hr).length_eq]
    refine Nat.le_trans (fnd_len _ _) ?_
    exact Nat.le_trans (Nat.pow_le_pow_right (by decide) (spots_len sl)) (by decide)
  · intro v hv
    obtain ⟨u, hu, rfl⟩ := List.mem_map.mp ((ordI_perm _).mem_iff.mp hv)
    obtain ⟨a, b⟩ := ways_lt_row (fwdS sl row) 0 u hu
    refine ⟨by unfold intsN; rw [List.length_map]; omega, fun n hn => ?_⟩
    obtain ⟨k, hk, rfl⟩ := List.mem_map.mp hn
    have := a k hk
    omega
end L2.K33
set_option Elab.async false
set_option linter.all false
set_option maxRecDepth 100000
set_option maxHeartbeats 8000000
namespace L2.K33
open PySem PySem.Spec PyProof.Rows L2.Tb
open SX (S)
abbrev s_lways : Stmt := top 59
abbrev N_lways : List Str := ["_law_steps_here", "_law_target", "_law_k", "_law_spots", "_law_found", "_law_choice", "_law_at", "_law_done", "_law_word", "_law_jump"]
theorem sc_lways : FnScope N_lways ["_law_steps_here", "_law_target"] (defScope s_lways) := ⟨rfl, rfl, rfl, by decide +kernel, rfl, by decide +kernel, by decide +kernel⟩
def wdS : Stp → Str
  | .tst u _ _ _ => tstS u
  | .go _ => Str.ofString "go"
  | .cp _ _ => Str.ofString "="
  | .op s _ _ _ => opS s
def lastS : Stp → Nat
  | .tst _ _ _ g => g
  | .go g => g
  | .cp _ b => b
  | .op _ _ _ c => c
def isGo : Stp → Bool
  | .go _ => true
  | _ => false
theorem stV0 (d : Stp) : (stV d)[0]? = some (.str (wdS d)) := by cases d <;> rfl
theorem stV9 (d : Stp) : atI (stV d) (-1) = some (.int ((lastS d : Nat) : Int)) := by cases d <;> rfl
theorem wd_in {w m k : Nat} {d : Stp} (h : StAt w m k d) : inV (V.str (wdS d)) [V.str (Str.ofString "same"), V.str (Str.ofString "unlike")] = isT d := by
  cases d with
  | tst u a b g =>
    have key : ∀ u : Bool, inV (V.str (tstS u)) [V.str (Str.ofString "same"), V.str (Str.ofString "unlike")] = true := by decide +kernel
    exact key u
  | go g => exact (by decide +kernel : inV (V.str (Str.ofString "go")) [V.str (Str.ofString "same"), V.str (Str.ofString "unlike")] = false)
  | cp a b => exact (by decide +kernel : inV (V.str (Str.ofString "=")) [V.str (Str.ofString "same"), V.str (Str.ofString "unlike")] = false)
  | op s a b c =>
    have key : ∀ s : Nat, s < 3 → inV (V.str (opS s)) [V.str (Str.ofString "same"), V.str (Str.ofString "unlike")] = false := by decide +kernel
    exact key s h.1
theorem wd_go {w m k : Nat} {d : Stp} (h : StAt w m k d) : decide (V.str (wdS d) = V.str (Str.ofString "go")) = isGo d := by
  cases d with
  | tst u a b g =>
    have key : ∀ u : Bool, decide (V.str (tstS u) = V.str (Str.ofString "go")) = false := by decide +kernel
    exact key u
  | go g => exact decide_eq_true rfl
  | cp a b => exact (by decide +kernel : decide (V.str (Str.ofString "=") = V.str (Str.ofString "go")) = false)
  | op s a b c =>
    have key : ∀ s : Nat, s < 3 → decide (V.str (opS s) = V.str (Str.ofString "go")) = false := by decide +kernel
    exact key s h.1
theorem pow5 : ∀ s, s ≤ 4 → ([V.int 1, V.int 2, V.int 4, V.int 8, V.int 16] : List V)[s]? = some (V.int ((2 ^ s : Nat) : Int)) := by
  intro s h
  match s, h with
  | 0, _ => rfl
  | 1, _ => rfl
  | 2, _ => rfl
  | 3, _ => rfl
  | 4, _ => rfl
  | n + 5, h => omega
theorem pow4 : ∀ s, s < 4 → ([V.int 1, V.int 2, V.int 4, V.int 8] : List V)[s]? = some (V.int ((2 ^ s : Nat) : Int)) := by
  intro s h
  match s, h with
  | 0, _ => rfl
  | 1, _ => rfl
  | 2, _ => rfl
  | 3, _ => rfl
  | n + 4, h => omega
theorem bitV (c k : Nat) : decide (V.int (((c : Int) / ((2 ^ k : Nat) : Int)) % 2) = V.int 1) = decide (c / 2 ^ k % 2 = 1) := by
  have e : ((c : Int) / ((2 ^ k : Nat) : Int)) % 2 = ((c / 2 ^ k % 2 : Nat) : Int) := by
    rw [Int.natCast_emod, Int.natCast_ediv]
    rfl
  rw [e]
  by_cases z : c / 2 ^ k % 2 = 1
  · rw [decide_eq_true z, z]
    rfl
  · rw [decide_eq_false z]
    exact decide_eq_false fun y => z (by injection y with y; omega)
theorem bC_tst {ds : List Stp} {i : Nat} {d : Stp} (e : ds[i]? = some d) (h : isT d = true) (c : Nat) : bC ds c i = if c / 2 ^ (spotsL ds).idxOf i % 2 = 1 then lastS d else i + 1 := by
  cases d with
  | tst u a b g =>
    unfold bC
    rw [e]
    rfl
  | go g => cases h
  | cp a b => cases h
  | op s a b c => cases h
theorem bC_not {ds : List Stp} {i : Nat} {d : Stp} (e : ds[i]? = some d) (h : isT d = false) (c : Nat) : bC ds c i = if isGo d = true then lastS d else i + 1 := by
  cases d with
  | tst u a b g => cases h
  | go g =>
    unfold bC
    rw [e]
    rfl
  | cp a b =>
    unfold bC
    rw [e]
    rfl
  | op s a b c =>
    unfold bC
    rw [e]
    rfl
def LstI (H : Hp) (a : Addr) (w : List Int) : Prop := H a = some (.lst (w.map V.int))
def spLWays : Sp := fun vs H Q _ => ∃ (Sd : Addr) (ts : List Addr) (ds : List Stp) (w m row : Nat), vs = [.ref Sd, .int (row : Int)] ∧ H Sd = some (.lst (ts.map V.ref)) ∧ Paired (fun t d => StepAt H t d) ts ds ∧ StepsL w m ds ∧ ds.length ≤ 12 ∧ row ≤ ds.length ∧
  ∀ (L : Addr) (us : List Addr) H', Same H H' → H L = none → H' L = some (.lst (us.map V.ref)) → Paired (fun u w => TupI H' u w) us (waysI (nxS ds) row) → Q (.ref L) H'
section
variable {P : Program} {w : World} {K : PySem.W.Frag} {mg : Str → Option Value} {base : Heap} {f : Addr} {fd : FuncData}
theorem c_lways (T : Bt mg) (F : FnP K "_law_ways" s_lways f fd) (hm : mg "_law_ways" = some (.ref f)) : Cal P w K mg base 1 "_law_ways" spLWays := by
  have hnd := sc_lways.nd
  refine cal_mk F hm sc_lways (fun _ _ _ _ _ _ us hl => match us, hl with | [_, _], _ => rfl) (fun vs H Q E h => ?_) (fun cdv A outer s H vs Q E hr h => ?_)
  · obtain ⟨Sd, ts, ds, w9, m9, row, rfl, _⟩ := h
    rfl
  · obtain ⟨Sd, ts, ds, w9, m9, row, rfl, eS, pt, sl, d12, hrow, q⟩ := h
    have hu65 : (A.deeper (envOfC "_law_ways" (defScope s_lways) s.heap.objs.size f cdv)).units + 65 < cLine := by
      have := hr.un
      have e : (cLine : Nat) = cLine := rfl
      omega
    refine ⟨_, (pss_cons (ps_par (i := 3) (j := 4) (by rfl) hnd rfl rfl (by decide) (by rfl) (by rfl) (pa_cons (pe_lc (own := [("_law_k", 2)]) (by rfl) hnd (pi_range1 (by rfl) T.m_range (pa_cons (pe_callB call_len_seq (by rfl) T.m_len (by decide +kernel) (pa_cons (pv 0) pa_nil)) pa_nil)) (blkOk_by (own := [("_law_k", 2)]) (N := N_lways) (sc := defScope s_lways) (by decide +kernel)) (fun _ _ _ _ _ => (pg_name (i := 2) hnd rfl (by first | exact Or.inl rfl | exact Or.inr rfl))) (fun _ _ _ _ _ => (pts_one (pt_cmpR (show OpR _ (compareOp .In) (rIn K false) from op_in_seq) (pe_ix (show IxR _ (rIxT K) from ix_tup) (pe_ix (show IxR _ (rIxL K) from ix_list) (pv 0) (pv 2) (fun _ _ => rfl)) pe_int (fun _ _ => rfl)) (pe_lst (pa_cons pe_str (pa_cons pe_str pa_nil))) (by rfl)))) (fun _ _ _ _ _ => (pv 2))) (pa_cons (pe_lst pa_nil) pa_nil)) (by rfl))
      (pss_cons (ps_for PassesOwn.never (by rfl) (pi_range1 (by rfl) T.m_range (pa_cons (pe_ix (show IxR _ (rIxL K) from ix_list) (pe_lst (pa_cons pe_int (pa_cons pe_int (pa_cons pe_int (pa_cons pe_int (pa_cons pe_int pa_nil)))))) (pe_callB call_len_seq (by rfl) T.m_len (by decide +kernel) (pa_cons (pv 3) pa_nil)) (fun _ _ => rfl)) pa_nil)) (pg_name (i := 5) hnd rfl (by first | exact Or.inl rfl | exact Or.inr rfl))
      (pss_cons (ps_par (i := 6) (j := 7) (by rfl) hnd rfl rfl (by decide) (by rfl) (by rfl) (pa_cons pe_int (pa_cons (pe_lst pa_nil) pa_nil)) (by rfl))
      (pss_cons (ps_while PassesOwn.never (pt_cmpR op_lt (pv 6) (pv 1) (nomark _))
      (pss_cons (ps_expr (pe_bm PySem.F.plainAttrs_list PySem.F.slot_list_append PySem.F.type_list_append mt_append (pv 7) (pa_cons (pv 6) pa_nil)))
      (pss_cons (ps_par (i := 8) (j := 9) (by rfl) hnd rfl rfl (by decide) (by rfl) (by rfl) (pa_cons (pe_ix (show IxR _ (rIxT K) from ix_tup) (pe_ix (show IxR _ (rIxL K) from ix_list) (pv 0) (pv 6) (fun _ _ => rfl)) pe_int (fun _ _ => rfl)) (pa_cons (pe_ix (show IxR _ (rIxT K) from ix_tup) (pe_ix (show IxR _ (rIxL K) from ix_list) (pv 0) (pv 6) (fun _ _ => rfl)) (pe_un un_neg pe_int) (fun _ _ => rfl)) pa_nil)) (by rfl))
      (pss_one (ps_if (pt_cmpR (show OpR _ (compareOp .In) (rIn K false) from op_in_seq) (pv 8) (pe_lst (pa_cons pe_str (pa_cons pe_str pa_nil))) (by rfl))
      (pss_one (ps_set (i := 6) hnd rfl (by first | exact Or.inl rfl | exact Or.inr rfl) (pe_ifExp (pt_cmpR op_eq (pe_op op_mod (pe_op op_fdiv (pv 5) (pe_ix (show IxR _ (rIxL K) from ix_list) (pe_lst (pa_cons pe_int (pa_cons pe_int (pa_cons pe_int (pa_cons pe_int pa_nil))))) (pe_bm PySem.F.plainAttrs_list PySem.F.slot_list_index PySem.F.type_list_index mt_index (pv 3) (pa_cons (pv 6) pa_nil)) (fun _ _ => rfl))) pe_int) pe_int (nomark _)) (pv 9) (pe_op op_add (pv 6) pe_int))))
      (pss_one (ps_set (i := 6) hnd rfl (by first | exact Or.inl rfl | exact Or.inr rfl) (pe_ifExp (pt_cmpR op_eq (pv 8) pe_str (nomark _)) (pv 9) (pe_op op_add (pv 6) pe_int)))))))))
      (pss_one (ps_if (PW.pt (pw_and (pt_cmpR op_eq (pv 6) (pv 1) (nomark _)) (pw_and1 (pt_cmpR (op_notInD hu65) (pv 7) (pv 4) (by rfl)))))
      (pss_one (ps_expr (pe_bm PySem.F.plainAttrs_list PySem.F.slot_list_append PySem.F.type_list_append mt_append (pv 4) (pa_cons (pv 7) pa_nil))))
      pss_nil)))))
      (pss_one (ps_ret (pe_lc (own := [("_law_done", 7)]) (tt := tYes) (by rfl) hnd (pi_list (pe_callB (show CallR _ (.builtin "sorted") (rSortR K) from cr_sortR (Nat.lt_of_le_of_lt (Nat.add_le_add_left (by decide) _) hr.units)) (by rfl) T.m_sorted (by decide +kernel) (pa_cons (pv 4) pa_nil))) (blkOk_by (own := [("_law_done", 7)]) (N := N_lways) (sc := defScope s_lways) (by decide +kernel)) (fun _ _ _ _ _ => (pg_name (i := 7) hnd rfl (by first | exact Or.inl rfl | exact Or.inr rfl))) (fun _ _ _ _ _ => pts_nil) (fun _ _ _ _ _ => (pe_callTy (show CallR _ (.type "tuple") (fun xs H Q => ∃ p ys, xs = [V.ref p] ∧ ((SqL K H p ys ∧ ∀ l, H l = none → Q (V.ref l) (upd H l (.tup ys))) ∨ (SqT K H p ys ∧ Q (V.ref p) H))) from call_tuple_of) (by rfl) T.m_tuple (by decide +kernel) (pa_cons (pv 7) pa_nil)))))))), ?_⟩
    refine ⟨_, rfl, Sd, _, rfl, .inl (SqL.of eS), _, rfl, by omega, by rw [List.length_map, pt.length]; omega, fun D nD => ?_⟩
    rw [show ((((ts.map V.ref).length : Nat) : Int)).toNat = ds.length by rw [List.length_map, pt.length]; rfl]
    refine lc_range (fun j G => Same H G ∧ G D = some (.lst ((spotsN ds j).map fun k : Nat => V.int (k : Int)))) ⟨same_new nD, upd_same⟩ ?_ ?_
    · rintro j G hj ⟨sg, eg⟩
      rw [Int.zero_add]
      have es : ds[j]? = some ds[j] := List.getElem?_eq_getElem hj
      obtain ⟨t, ht, hst⟩ := pair_get pt es
      refine ⟨rfl, _, rfl, _, rfl, Sd, _, _, .ref t, rfl, rfl, SqL.of (sg _ _ eS), atI_nat (by rw [List.getElem?_map, ht]; rfl), t, _, 0, _, rfl, rfl, SqT.of (sg _ _ hst), atI_nat (j := 0) (stV0 _), Nat.le_of_ble_eq_true rfl, fun N nN => ?_⟩
      have sN := same_new (o := .lst [.str (Str.ofString "same"), .str (Str.ofString "unlike")]) nN
      refine ⟨N, _, rfl, .inl (SqL.of upd_same), rfl, rfl, _, rfl, ?_⟩
      rw [if_neg Bool.false_ne_true, wd_in (sl.at_ j _ es)]
      have eN := spotsN_succ ds j
      rw [show isTat ds j = isT ds[j] by unfold isTat; rw [es]] at eN
      cases c : isT ds[j] with
      | true =>
        rw [c, if_pos rfl] at eN
        refine iteT ⟨_, rfl, _, sN _ _ eg, ?_, same_put nD (sg.trans sN), ?_⟩
        · rw [List.length_map, sizeLine_eq]
          have : (spotsN ds j).length ≤ j := by
            unfold spotsN
            exact Nat.le_trans (List.length_filter_le ..) (by rw [List.length_range]; exact Nat.le_refl _)
          omega
        · rw [upd_same, eN, List.map_append]
          rfl
      | false =>
        rw [c, if_neg (by decide), List.append_nil] at eN
        refine iteF ⟨sg.trans sN, ?_⟩
        rw [eN]
        exact sN _ _ eg
    · rintro G ⟨sg, eg⟩
      replace eg : G D = some (.lst ((spotsL ds).map fun k : Nat => V.int (k : Int))) := eg
      have sp4 := spots_len sl
      refine ⟨Nat.zero_le _, fun F nF => ⟨_, _, rfl, ?_⟩⟩
      have eF := upd_same (H := G) (a := F) (o := .lst [])
      have DF : D ≠ F := fun z => by
        rw [← z, eg] at nF
        cases nF
      have sF := same_new (o := .lst []) nF
      have s1 := sg.trans sF
      have eD := sF _ _ eg
      have nFH : H F = none := none_back sg nF
      generalize upd G F (.lst []) = G1 at eF s1 eD ⊢
      clear sF
      try dsimp only
      refine ⟨Nat.le_of_ble_eq_true rfl, fun N nN => ?_⟩
      have sN := same_new (o := .lst [.int 1, .int 2, .int 4, .int 8, .int 16]) nN
      have p16 : 2 ^ (spotsL ds).length ≤ 16 := Nat.le_trans (Nat.pow_le_pow_right (by decide) sp4) (by decide)
      have pv5 := pow5 _ sp4
      have lw := law_ways sl d12 hrow
      generalize 2 ^ (spotsL ds).length = p2 at p16 pv5 lw
      refine ⟨_, rfl, D, _, rfl, .inl (SqL.of (sN _ _ eD)), N, _, _, _, rfl, rfl, SqL.of upd_same, atI_nat (by rw [List.length_map]; exact pv5), _, rfl, by omega, by omega, ?_⟩
      have s2 := s1.trans sN
      have eD2 := sN _ _ eD
      have eF2 := sN _ _ eF
      generalize upd G1 N (.lst [.int 1, .int 2, .int 4, .int 8, .int 16]) = G2 at s2 eD2 eF2 ⊢
      clear sN nN eD eF s1 eg sg nF
      rw [Int.toNat_natCast]
      refine for_range (fun c σ G => ∃ (fs : List Addr) (x2 x5 x6 x7 x8 x9 : Option V), σ = [some (.ref Sd), some (.int (row : Int)), x2, some (.ref D), some (.ref F), x5, x6, x7, x8, x9] ∧ Same H G ∧ G D = some (.lst ((spotsL ds).map fun k : Nat => V.int (k : Int))) ∧ G F = some (.lst (fs.map V.ref)) ∧
        (∀ u ∈ fs, u ≠ F) ∧ Paired (fun u w => LstI G u (intsN w)) fs (fnd (gC ds row) c)) ⟨[], _, _, _, _, _, _, rfl, s2, eD2, eF2, (fun u hu => by cases hu), .nil⟩ ?_ ?_
      · rintro c σ G hc ⟨fs, x2, x5, x6, x7, x8, x9, rfl, sG, eDG, eFG, fsF, pf⟩
        rw [Int.zero_add]
        refine gname_go ?_
        try dsimp only
        refine ⟨Nat.zero_le _, fun N nN => ⟨_, _, rfl, ?_⟩⟩
        try dsimp only
        have nNH : H N = none := none_back sG nN
        refine ⟨fun m σ' G' => ∃ (i : Nat) (dn : List Nat) (x8 x9 : Option V), σ' = [some (.ref Sd), some (.int (row : Int)), x2, some (.ref D), some (.ref F), some (.int (c : Int)), some (.int (i : Int)), some (.ref N), x8, x9] ∧ Same G G' ∧ G' N = some (.lst ((intsN dn).map V.int)) ∧ row ≤ m + i ∧ m + dn.length ≤ 13 ∧
          wlk (bC ds c) row 13 0 = (dn ++ (wlk (bC ds c) row m i).1, (wlk (bC ds c) row m i).2), ⟨13, 0, [], _, _, rfl, same_new nN, upd_same, by omega, by decide, rfl⟩, ?_⟩
        rintro m σ' G' ⟨i, dn, y8, y9, rfl, s3, eN, hm, hl, hw⟩
        have eD3 := s3 _ _ eDG
        have eF3 := s3 _ _ eFG
        have sH := sG.trans s3
        have pf3 : Paired (fun u w => LstI G' u (intsN w)) fs (fnd (gC ds row) c) := paired_imp (fun _ _ z => s3 _ _ z) pf
        refine ⟨_, rfl, _, rfl, _, _, rfl, rfl, _, rfl, ?_⟩
        by_cases ci : i < row
        · refine iteT2 (decide_eq_true (by omega)) ?_
          refine ⟨fun σ2 G2 => ∃ m', m' < m ∧ ∃ (i : Nat) (dn : List Nat) (x8 x9 : Option V), σ2 = [some (.ref Sd), some (.int (row : Int)), x2, some (.ref D), some (.ref F), some (.int (c : Int)), some (.int (i : Int)), some (.ref N), x8, x9] ∧ Same G G2 ∧ G2 N = some (.lst ((intsN dn).map V.int)) ∧ row ≤ m' + i ∧ m' + dn.length ≤ 13 ∧
            wlk (bC ds c) row 13 0 = (dn ++ (wlk (bC ds c) row m' i).1, (wlk (bC ds c) row m' i).2), fun _ _ h => h, ?_⟩
          obtain ⟨m', rfl⟩ : ∃ m', m = m' + 1 := ⟨m - 1, by omega⟩
          have es : ds[i]? = some ds[i] := List.getElem?_eq_getElem (by omega)
          obtain ⟨t, ht, hst⟩ := pair_get pt es
          have hat := sl.at_ i _ es
          refine ⟨_, rfl, .inl ⟨rfl, _, SqL.of eN⟩, _, rfl, N, _, _, rfl, rfl, eN, by rw [List.length_map, sizeLine_eq]; unfold intsN; rw [List.length_map]; omega, ?_⟩
          rw [show (intsN dn).map V.int ++ [V.int ((i : Nat) : Int)] = (intsN (dn ++ [i])).map V.int by unfold intsN; rw [List.map_append, List.map_append]; rfl]
          have s4 := same_put (o := .lst ((intsN (dn ++ [i])).map V.int)) nN s3
          have s4H := sG.trans s4
          have eN4 := upd_same (H := G') (a := N) (o := .lst ((intsN (dn ++ [i])).map V.int))
          have eD4 := s4 _ _ eDG
          generalize upd G' N (.lst ((intsN (dn ++ [i])).map V.int)) = G4 at s4 s4H eN4 eD4 ⊢
          try dsimp only
          refine ⟨_, rfl, _, rfl, Sd, _, _, .ref t, rfl, rfl, SqL.of (s4H _ _ eS), atI_nat (by rw [List.getElem?_map, ht]; rfl), t, _, 0, _, rfl, rfl, SqT.of (s4H _ _ hst), atI_nat (j := 0) (stV0 _),
            _, rfl, _, rfl, Sd, _, _, .ref t, rfl, rfl, SqL.of (s4H _ _ eS), atI_nat (by rw [List.getElem?_map, ht]; rfl), _, rfl, t, _, -1, _, rfl, rfl, SqT.of (s4H _ _ hst), stV9 _, _, _, rfl, ?_⟩
          try dsimp only
          refine ⟨_, rfl, Nat.le_of_ble_eq_true rfl, fun M nM => ⟨M, _, rfl, .inl (SqL.of upd_same), rfl, rfl, _, rfl, ?_⟩⟩
          rw [if_neg Bool.false_ne_true, wd_in hat]
          have s5 := s4.trans (same_new (o := .lst [.str (Str.ofString "same"), .str (Str.ofString "unlike")]) nM)
          have eN5 := same_new (o := .lst [.str (Str.ofString "same"), .str (Str.ofString "unlike")]) nM _ _ eN4
          have eD5 := same_new (o := .lst [.str (Str.ofString "same"), .str (Str.ofString "unlike")]) nM _ _ eD4
          generalize upd G4 M (.lst [.str (Str.ofString "same"), .str (Str.ofString "unlike")]) = G5 at s5 eN5 eD5 ⊢
          have fin : ∀ {y8 y9 : Option V} {G6 : Hp}, Same G5 G6 → ∃ m2, m2 < m' + 1 ∧ ∃ (i2 : Nat) (dn2 : List Nat) (x8 x9 : Option V), [some (V.ref Sd), some (V.int (row : Int)), x2, some (V.ref D), some (V.ref F), some (V.int (c : Int)), some (V.int ((bC ds c i : Nat) : Int)), some (V.ref N), y8, y9] = [some (.ref Sd), some (.int (row : Int)), x2, some (.ref D), some (.ref F), some (.int (c : Int)), some (.int (i2 : Int)), some (.ref N), x8, x9] ∧ Same G G6 ∧ G6 N = some (.lst ((intsN dn2).map V.int)) ∧ row ≤ m2 + i2 ∧ m2 + dn2.length ≤ 13 ∧
              wlk (bC ds c) row 13 0 = (dn2 ++ (wlk (bC ds c) row m2 i2).1, (wlk (bC ds c) row m2 i2).2) := fun {y8 y9 G6} s6 => by
            have lt := fwdS sl row i ci _ (bC_mem (by omega) c)
            refine ⟨m', Nat.lt_succ_self _, bC ds c i, dn ++ [i], _, _, rfl, s5.trans s6, s6 _ _ eN5, by omega, by rw [List.length_append, List.length_singleton]; omega, ?_⟩
            rw [hw, wlk_lt ci, List.append_assoc]
            rfl
          cases ct : isT ds[i] with
          | true =>
            have eb := bC_tst es ct c
            refine iteT ?_
            have mi := spots_mem es ct
            have lt4 : (spotsL ds).idxOf i < 4 := Nat.lt_of_lt_of_le (List.idxOf_lt_length_iff.mpr mi) sp4
            have pw := pow4 _ lt4
            have ple : 2 ^ (spotsL ds).idxOf i ≤ 8 := Nat.le_trans (Nat.pow_le_pow_right (by decide) (Nat.le_of_lt_succ lt4)) (by decide)
            have ppos : 1 ≤ 2 ^ (spotsL ds).idxOf i := Nat.one_le_pow _ _ (by decide)
            have bv := bitV c ((spotsL ds).idxOf i)
            refine ⟨_, rfl, Nat.le_of_ble_eq_true rfl, fun M2 nM2 => ?_⟩
            have s6 := same_new (o := .lst [.int 1, .int 2, .int 4, .int 8]) nM2
            refine ⟨_, rfl, .inl ⟨rfl, _, SqL.of (s6 _ _ eD5)⟩, _, rfl, D, _, _, (spotsL ds).idxOf i, .int ((i : Nat) : Int), rfl, rfl, SqL.of (s6 _ _ eD5), rfl, ?_, ?_, ?_, ?_, ?_⟩
            · rw [List.all_map]
              exact List.all_eq_true.mpr fun _ _ => rfl
            · rw [List.getElem?_map, idx_at mi]
              rfl
            · exact beq_self_eq_true _
            · intro m2 z' hm2 hz
              rw [List.getElem?_map] at hz
              obtain ⟨k2, hk2, rfl⟩ := Option.map_eq_some_iff.mp hz
              refine beq_eq_false_iff_ne.mpr fun z => ?_
              have z : k2 = i := by omega
              subst z
              have : m2 = (spotsL ds).idxOf k2 := nd_first (spots_nd ds _) (idx_at mi) hk2
              omega
            · generalize 2 ^ (spotsL ds).idxOf i = pk at pw ple ppos bv eb
              refine ⟨M2, _, _, _, rfl, rfl, SqL.of upd_same, atI_nat pw, _, _, rfl, rfl, ⟨by omega, by omega⟩, _, _, rfl, rfl, (show (0 : Int) < 2 from by decide), rfl, _, rfl, ?_⟩
              have bv2 : decide ((fun i j : Int => V.int (i % j)) ((c : Int) / (pk : Int)) 2 = V.int 1) = decide (c / pk % 2 = 1) := bv
              rw [bv2]
              by_cases cz : c / pk % 2 = 1
              · rw [if_pos cz] at eb
                refine iteT2 (decide_eq_true cz) ⟨_, rfl, gname_go ?_⟩
                rw [← eb]
                exact fin s6
              · rw [if_neg cz] at eb
                refine iteN2 (decide_eq_false cz) ⟨_, rfl, _, _, rfl, rfl, gname_go ?_⟩
                have z : (fun i j : Int => V.int (i + j)) ((i : Nat) : Int) 1 = V.int ((bC ds c i : Nat) : Int) := by rw [eb]; rfl
                rw [z]
                exact fin s6
          | false =>
            have eb := bC_not es ct c
            refine iteF ⟨_, rfl, rfl, _, rfl, ?_⟩
            rw [wd_go hat]
            cases cg : isGo ds[i] with
            | true =>
              rw [cg, if_pos rfl] at eb
              refine iteT ⟨_, rfl, gname_go ?_⟩
              rw [← eb]
              exact fin (Same.refl _)
            | false =>
              rw [cg, if_neg (by decide)] at eb
              refine iteF ⟨_, rfl, _, _, rfl, rfl, gname_go ?_⟩
              have z : (fun i j : Int => V.int (i + j)) ((i : Nat) : Int) 1 = V.int ((bC ds c i : Nat) : Int) := by rw [eb]; rfl
              rw [z]
              exact fin (Same.refl _)
        · refine iteN2 (decide_eq_false (by omega)) ?_
          rw [wlk_ge ci, List.append_nil] at hw
          have gc : gC ds row c = if i = row then some dn else none := by
            unfold gC
            rw [hw]
          refine ⟨_, rfl, _, rfl, rfl, _, rfl, ?_⟩
          by_cases ce : i = row
          · rw [if_pos ce] at gc
            refine iteT2 (decide_eq_true (by rw [ce])) ?_
            refine ⟨_, rfl, _, rfl, lstD (intsN dn), ((fnd (gC ds row) c).map intsN).map lstD, dp_lst (SqL.of eN), .lst (SqL.of eF3) (dp_lists (show Paired (fun u w => G' u = some (.lst (w.map V.int))) fs ((fnd (gC ds row) c).map intsN) from paired_mapR (R := fun u w => LstI G' u w) intsN pf3)), lstD_shaped _, lsts_shaped _, _, rfl, ?_⟩
            rw [any_lstD]
            have fs_ := fnd_succ (gC ds row) c
            rw [gc] at fs_
            dsimp only at fs_
            by_cases cm : dn ∈ fnd (gC ds row) c
            · rw [if_pos cm] at fs_
              refine iteN2 (by rw [decide_eq_true cm]; rfl) ⟨fs, _, _, _, _, _, _, rfl, sH, eD3, eF3, fsF, ?_⟩
              rw [fs_]
              exact pf3
            · rw [if_neg cm] at fs_
              have fl := fnd_len (gC ds row) c
              have fe := pf3.length
              refine iteT2 (by rw [decide_eq_false cm]; rfl) ⟨_, rfl, .inl ⟨rfl, _, SqL.of eF3⟩, _, rfl, F, _, _, rfl, rfl, eF3, by rw [List.length_map, sizeLine_eq]; omega, ?_⟩
              rw [show fs.map V.ref ++ [.ref N] = (fs ++ [N]).map V.ref by rw [List.map_append]; rfl]
              have NF : N ≠ F := fun z => by
                rw [z, eFG] at nN
                cases nN
              have ne : ∀ {u : Addr} {w : List Int} {o : HO}, u ≠ F → LstI G' u w → LstI (upd G' F o) u w := fun {u w o} h1 h2 => by
                unfold LstI
                rw [upd_ne h1]
                exact h2
              refine ⟨fs ++ [N], _, _, _, _, _, _, rfl, same_put nFH sH, by rw [upd_ne DF]; exact eD3, upd_same, fun u hu => ?_, ?_⟩
              · rcases List.mem_append.mp hu with hu | hu
                · exact fsF u hu
                · rw [List.mem_singleton.mp hu]
                  exact NF
              · rw [fs_]
                exact Paired.snoc (paired_in pf3 fun u w hu z => ne (fsF u hu) z) (ne NF eN)
          · rw [if_neg ce] at gc
            have fs_ := fnd_succ (gC ds row) c
            rw [gc] at fs_
            dsimp only at fs_
            refine iteN2 (decide_eq_false fun z => ce (by injection z with z; omega)) ?_
            refine iteN2 rfl ⟨fs, _, _, _, _, _, _, rfl, sH, eD3, eF3, fsF, ?_⟩
            rw [fs_]
            exact pf3
      · rintro σ G ⟨fs, x2, x5, x6, x7, x8, x9, rfl, sG, eDG, eFG, fsF, pf⟩
        have pm := lw.map intsN
        obtain ⟨z1, z2, z3⟩ := paired_zip (paired_mapR (R := fun u w => LstI G u w) intsN pf)
        have fl := fnd_len (gC ds row) p2
        refine ⟨_, rfl, F, fs.zip ((fnd (gC ds row) p2).map intsN), rfl, ?_, ?_, .inr fun p hp => SqL.of (z1 p hp), fun p np => ?_⟩
        · rw [show ((fs.zip ((fnd (gC ds row) p2).map intsN)).map fun p => V.ref p.1) = fs.map V.ref from (List.map_map (f := fun p : Addr × List Int => p.1) (g := V.ref)).symm.trans (congrArg (List.map V.ref) z2)]
          exact SqL.of eFG
        · have e := congrArg List.length z3
          rw [List.length_map, List.length_map] at e
          rw [e, sizeLine_eq]
          omega
        · have e9 : (((fs.zip ((fnd (gC ds row) p2).map intsN)).mergeSort byLe).map (·.2)) = waysI (nxS ds) row := byLe_ord (by rw [z3]; exact pm)
          have pd : Paired (fun u w => LstI G u w) (((fs.zip ((fnd (gC ds row) p2).map intsN)).mergeSort byLe).map (·.1)) (waysI (nxS ds) row) := by
            rw [← e9]
            exact paired_pairs _ fun y hy => z1 y ((List.mergeSort_perm _ byLe).mem_iff.mp hy)
          rw [show (((fs.zip ((fnd (gC ds row) p2).map intsN)).mergeSort byLe).map fun q => V.ref q.1) = (((fs.zip ((fnd (gC ds row) p2).map intsN)).mergeSort byLe).map (·.1)).map V.ref by rw [List.map_map]; rfl]
          generalize ((fs.zip ((fnd (gC ds row) p2).map intsN)).mergeSort byLe).map (·.1) = vs at pd ⊢
          obtain ⟨w16, wfew⟩ := ways_few sl d12 hrow
          have vl := pd.length
          have sp := same_new (o := .lst (vs.map V.ref)) np
          have ep := upd_same (H := G) (a := p) (o := .lst (vs.map V.ref))
          have pd2 : Paired (fun u w => LstI (upd G p (.lst (vs.map V.ref))) u w) vs (waysI (nxS ds) row) := paired_imp (fun _ _ z => sp _ _ z) pd
          generalize upd G p (.lst (vs.map V.ref)) = G7 at sp ep pd2 ⊢
          refine ⟨p, rfl, ⟨_, SqL.of ep⟩, fun D9 n9 => ?_⟩
          have n9H : H D9 = none := none_back (sG.trans sp) n9
          refine lc_list (xs := vs.map V.ref) (fun j G8 => Same G7 G8 ∧ ∃ us : List Addr, G8 D9 = some (.lst (us.map V.ref)) ∧ Paired (fun u w => TupI G8 u w) us ((waysI (nxS ds) row).take j)) ⟨same_new n9, [], upd_same, .nil⟩ (fun j G8 _ z => SqL.of (z.1 _ _ ep)) ?_ ?_
          · rintro j x G8 hx ⟨s8, us, e8, p8⟩
            rw [List.getElem?_map] at hx
            obtain ⟨v, hv, rfl⟩ := Option.map_eq_some_iff.mp hx
            obtain ⟨w7, hw7, ew7⟩ := pairedNth pd2 hv
            have jl := (List.getElem?_eq_some_iff.mp hw7).1
            have ul := p8.length
            rw [List.length_take] at ul
            refine ⟨rfl, ?_⟩
            unfold tYes
            dsimp only
            rw [if_pos rfl]
            refine ⟨_, rfl, v, _, rfl, .inl ⟨SqL.of (s8 _ _ ew7), fun l nl => ?_⟩⟩
            have sl8 := same_new (o := .tup (w7.map V.int)) nl
            refine ⟨_, sl8 _ _ e8, by rw [List.length_map, sizeLine_eq]; omega, same_put n9 (s8.trans sl8), us ++ [l], ?_, ?_⟩
            · rw [upd_same, List.map_append]
              rfl
            · rw [take_at hw7]
              exact Paired.snoc (paired_imp (fun _ _ z => TupI.put (TupI.same z sl8) (sl8 _ _ e8)) p8) (TupI.put (w := w7) upd_same (sl8 _ _ e8))
          · rintro G8 ⟨s8, us, e8, p8⟩
            rw [List.length_map, vl, List.take_length] at p8
            exact q D9 us G8 ((sG.trans sp).trans s8) n9H e8 p8
end
end L2.K33
set_option Elab.async false
set_option linter.all false
set_option maxRecDepth 100000
set_option maxHeartbeats 8000000
namespace L2.K33
open PySem PySem.Spec PyProof.Rows L2.Tb
open SX (S)
abbrev s_odd : Stmt := top 51
abbrev N_odd : List Str := ["_law_purse_here", "_law_way"]
theorem sc_odd : FnScope N_odd ["_law_purse_here"] (defScope s_odd) := ⟨rfl, rfl, rfl, by decide +kernel, rfl, by decide +kernel, by decide +kernel⟩
abbrev s_alike : Stmt := top 50
abbrev N_alike : List Str := ["_law_thing", "_law_twin", "_law_a", "_law_b"]
theorem sc_alike : FnScope N_alike ["_law_thing", "_law_twin"] (defScope s_alike) := ⟨rfl, rfl, rfl, by decide +kernel, rfl, by decide +kernel, by decide +kernel⟩
def spAlike (n : Nat) : Sp := fun vs H Q _ => ∃ x y : V, vs = [x, y] ∧ Al H n x y ∧ ∀ H' : Hp, Same H H' → Q (.bl true) H'
open RZ
section
variable {K : PySem.W.Frag} {a b : Addr} {xs ys : List V}
theorem walk_zipT {n : Nat} (hn : n = min xs.length ys.length) : Walk (ItzT K a b) n (fun H => SqT K H a xs ∧ SqT K H b ys) (YPair (fun i => xs[i]?) (fun i => ys[i]?)) := by
  subst hn
  refine ⟨fun i _ hi q => ?_, fun _ q => ⟨xs, ys, q.1, q.2, by omega⟩, fun i H v H' _ q y => ?_⟩
  · have h1 : i < xs.length := by omega
    have h2 : i < ys.length := by omega
    exact ⟨xs, ys, xs[i], ys[i], q.1, q.2, by simp [h1], by simp [h2]⟩
  · obtain ⟨T, x, z, h1, h2, h3, h4, h5⟩ := y
    exact ⟨T, x, z, h1, h2, h3, h4 xs q.1, h5 ys q.2⟩
end
section
variable {P : Program} {w : World} {K : PySem.W.Frag} {mg : Str → Option Value} {base : Heap} {f : Addr} {fd : FuncData}
/-- a value's built-in type and what isinstance says of it -/
structure TyK (K : PySem.W.Frag) (H : Hp) (x : V) (a1 a2 a3 : Bool) : Prop where
  ex : ∃ T : String, TyX K H x (.type T) ∧ kitB T "tuple" = some a1 ∧ kitB T "list" = some a2 ∧ kitB T "bool" = some a3
theorem ty_flat {x : V} (h : flatS x = true) : ∃ a3, ∀ (H : Hp), TyK K H x false false a3 := by
  cases x with
  | non => exact ⟨false, fun H => ⟨"NoneType", .base .non, by decide +kernel, by decide +kernel, by decide +kernel⟩⟩
  | bl b => exact ⟨true, fun H => ⟨"bool", .base (.bl b), by decide +kernel, by decide +kernel, by decide +kernel⟩⟩
  | int i => exact ⟨false, fun H => ⟨"int", .base (.int i), by decide +kernel, by decide +kernel, by decide +kernel⟩⟩
  | str z => exact ⟨false, fun H => ⟨"str", .base (.str z), by decide +kernel, by decide +kernel, by decide +kernel⟩⟩
  | _ => cases h
theorem ty_lst {H : Hp} {a : Addr} {xs : List V} (e : H a = some (.lst xs)) : TyK K H (.ref a) false true false := ⟨"list", .base (.lst e), by decide +kernel, by decide +kernel, by decide +kernel⟩
theorem ty_tup {H : Hp} {a : Addr} {xs : List V} (e : H a = some (.tup xs)) : TyK K H (.ref a) true false false := ⟨"tuple", .base (.tup e), by decide +kernel, by decide +kernel, by decide +kernel⟩
theorem ty_dct {H : Hp} {a : Addr} {kvs : List (Key × V)} (e : H a = some (.dK kvs)) : TyK K H (.ref a) false false false := ⟨"dict", .base (.dK e), by decide +kernel, by decide +kernel, by decide +kernel⟩
theorem lT : kitB "list" "tuple" = some false := by decide +kernel
theorem lL : kitB "list" "list" = some true := by decide +kernel
theorem tT : kitB "tuple" "tuple" = some true := by decide +kernel
theorem tL : kitB "tuple" "list" = some false := by decide +kernel
theorem kit2 {T : String} {a1 a2 : Bool} (h1 : kitB T "tuple" = some a1) (h2 : kitB T "list" = some a2) : PySem.W.kitAny K (.type T) [.type "tuple", .type "list"] = some (a1 || a2) := by
  refine kitAny_cons (kit_ty h1) (fun e1 => kitAny_cons (kit_ty h2) (fun e2 => ?_) (fun e2 => ?_)) (fun e1 => ?_)
  · rw [e1, e2]; rfl
  · rw [e1, e2]; rfl
  · rw [e1]; rfl
theorem paired_get {R : V → V → Prop} : ∀ {xs ys : List V} {i : Nat} {u v : V}, Paired R xs ys → xs[i]? = some u → ys[i]? = some v → R u v
  | _, _, 0, _, _, .cons r _, h1, h2 => by
    cases h1
    cases h2
    exact r
  | _, _, i + 1, _, _, .cons _ t, h1, h2 => paired_get (i := i) t (by simpa using h1) (by simpa using h2)
  | _, _, _, _, _, .nil, h1, _ => by simp at h1
def spA : Nat → Sp
  | 0 => fun _ _ _ _ => False
  | n + 1 => spAlike n
theorem cal_false (F : FnP K "_law_alike" s_alike f fd) (hm : mg "_law_alike" = some (.ref f)) : Cal P w K mg base 0 "_law_alike" (spA 0) :=
  ⟨f, fd, ["_law_thing", "_law_twin"], ⟨fun _ _ _ _ h => h.elim, fun _ _ _ _ _ _ _ _ _ _ _ _ _ h => h.elim⟩, hm, F.kp, F.bindsN fun _ _ _ _ _ _ us hl => match us, hl with | [_, _], _ => rfl⟩
theorem rep_succ {i : Nat} {b : V} : List.replicate i b ++ [b] = List.replicate (i + 1) b := by rw [List.replicate_succ']
theorem c_alike_step (T : Bt mg) (F : FnP K "_law_alike" s_alike f fd) (hm : mg "_law_alike" = some (.ref f)) (n : Nat) (k_alike : Cal P w K mg base n "_law_alike" (spA n)) : Cal P w K mg base (n + 1) "_law_alike" (spAlike n) := by
  have hnd := sc_alike.nd
  refine cal_mk F hm sc_alike (fun _ _ _ _ _ _ us hl => match us, hl with | [_, _], _ => rfl) (fun vs H Q E h => ?_) (fun cdv A outer s H vs Q E hr h => ?_)
  · obtain ⟨x, y, rfl, _⟩ := h
    rfl
  · obtain ⟨x, y, rfl, hal, q⟩ := h
    refine ⟨_, (pss_cons (ps_if (pt_val (pe_callB call_isiT (by rfl) T.m_isinstance (by decide +kernel) (pa_cons (pv 0) (pa_cons (pe_tup (pa_cons (pe_bltn (v := .ty "tuple") (by rfl) T.m_tuple (by decide +kernel) rfl) (pa_cons (pe_bltn (v := .ty "list") (by rfl) T.m_list (by decide +kernel) rfl) pa_nil))) pa_nil))))
      (pss_cons (ps_if (pt_cmpR (op_neD hr.units) (pe_lst (pa_cons (pe_callB call_isi (by rfl) T.m_isinstance (by decide +kernel) (pa_cons (pv 0) (pa_cons (pe_bltn (v := .ty "tuple") (by rfl) T.m_tuple (by decide +kernel) rfl) pa_nil))) (pa_cons (pe_callB call_isi (by rfl) T.m_isinstance (by decide +kernel) (pa_cons (pv 0) (pa_cons (pe_bltn (v := .ty "list") (by rfl) T.m_list (by decide +kernel) rfl) pa_nil))) pa_nil))) (pe_lst (pa_cons (pe_callB call_isi (by rfl) T.m_isinstance (by decide +kernel) (pa_cons (pv 1) (pa_cons (pe_bltn (v := .ty "tuple") (by rfl) T.m_tuple (by decide +kernel) rfl) pa_nil))) (pa_cons (pe_callB call_isi (by rfl) T.m_isinstance (by decide +kernel) (pa_cons (pv 1) (pa_cons (pe_bltn (v := .ty "list") (by rfl) T.m_list (by decide +kernel) rfl) pa_nil))) pa_nil))) (nomark _))
      (pss_one (ps_ret pe_bl))
      pss_nil)
      (pss_one (ps_ret (pe_and (pe_cmpR op_eq (pe_callB call_len_seq (by rfl) T.m_len (by decide +kernel) (pa_cons (pv 0) pa_nil)) (pe_callB call_len_seq (by rfl) T.m_len (by decide +kernel) (pa_cons (pv 1) pa_nil)) (nomark _)) (pe_one (pe_callB (cr_all (by rfl)) (by rfl) T.m_all (by decide +kernel) (pa_cons (pe_lc (own := [("_law_a", 2), ("_law_b", 3)]) (tt := tYes) (g := (gTup K 2 (gCons (gName 2) (gCons (gName 3) gNil)))) (by rfl) hnd (pi_zipA (by rfl) T.m_zip (pa_cons (pv 0) (pa_cons (pv 1) pa_nil))) (blkOk_by (own := [("_law_a", 2), ("_law_b", 3)]) (N := N_alike) (sc := defScope s_alike) (by decide +kernel)) (fun _ _ _ _ _ => (pg_tup (by rfl) (pgs_cons (pg_name (i := 2) hnd rfl (by first | exact Or.inl rfl | exact Or.inr rfl)) (pgs_cons (pg_name (i := 3) hnd rfl (by first | exact Or.inl rfl | exact Or.inr rfl)) pgs_nil)))) (fun _ _ _ _ _ => pts_nil) (fun _ _ _ _ _ => (pe_cal k_alike hr (by omega) (by rfl) (pa_cons (pv 2) (pa_cons (pv 3) pa_nil))))) pa_nil)))))))
      pss_nil)
      (pss_one (ps_ret (pe_and (pe_cmpR op_eq (pe_callB call_isi (by rfl) T.m_isinstance (by decide +kernel) (pa_cons (pv 0) (pa_cons (pe_bltn (v := .ty "bool") (by rfl) T.m_bool (by decide +kernel) rfl) pa_nil))) (pe_callB call_isi (by rfl) T.m_isinstance (by decide +kernel) (pa_cons (pv 1) (pa_cons (pe_bltn (v := .ty "bool") (by rfl) T.m_bool (by decide +kernel) rfl) pa_nil))) (nomark _)) (pe_one (pe_cmpR (op_self hr.units) (pv 0) (pv 1) (nomark _))))))), ?_⟩
    have hc : (∃ a3, (∀ H', Same H H' → TyK K H' x false false a3) ∧ x = y ∧ (∀ H', Same H H' → flatS x = true ∨ ∃ (a : Addr) (kvs : List (Key × V)), x = .ref a ∧ H' a = some (.dK kvs) ∧ ∀ kv ∈ kvs, valV kvs kv.1 = some kv.2 ∧ (flatS kv.2 = true ∨ ∃ b, kv.2 = .ref b))) ∨
        ∃ m, n = m + 1 ∧ ((∃ a b xs ys, x = .ref a ∧ y = .ref b ∧ H a = some (.lst xs) ∧ H b = some (.lst ys) ∧ xs.length ≤ 1000 ∧ Paired (Al H m) xs ys) ∨ (∃ a b xs ys, x = .ref a ∧ y = .ref b ∧ H a = some (.tup xs) ∧ H b = some (.tup ys) ∧ xs.length ≤ 1000 ∧ Paired (Al H m) xs ys)) := by
      cases n with
      | zero =>
        obtain ⟨e, fl⟩ := hal
        obtain ⟨a3, t⟩ := ty_flat (K := K) fl
        exact .inl ⟨a3, fun H' _ => t H', e, fun _ _ => .inl fl⟩
      | succ m =>
        rcases hal with ⟨e, fl⟩ | hl | ht | ⟨a, kvs, h1, h2, h3, h4⟩
        · obtain ⟨a3, t⟩ := ty_flat (K := K) fl
          exact .inl ⟨a3, fun H' _ => t H', e, fun _ _ => .inl fl⟩
        · exact .inr ⟨m, rfl, .inl hl⟩
        · exact .inr ⟨m, rfl, .inr ht⟩
        · exact .inl ⟨false, fun H' s' => by rw [h1]; exact ty_dct (s' _ _ h3), h1.trans h2.symm, fun H' s' => .inr ⟨a, kvs, h1, s' _ _ h3, h4⟩⟩
    rcases hc with ⟨a3, ht, rfl, hd⟩ | ⟨m, rfl, ⟨a, b, xs, ys, rfl, rfl, ha, hb, hl, hp⟩ | ⟨a, b, xs, ys, rfl, rfl, ha, hb, hl, hp⟩⟩
    · refine ⟨_, rfl, by decide, fun tp np => ?_⟩
      have S1 := same_new (o := .tup [.ty "tuple", .ty "list"]) np
      obtain ⟨T1, t1, k1, k2, k3⟩ := (ht _ S1).ex
      refine ⟨_, tp, _, .type T1, [.type "tuple", .type "list"], _, rfl, upd_same, .cons (.ty _) (.cons (.ty _) .nil), t1, kit2 k1 k2, _, rfl, iteF ?_⟩
      refine ⟨_, rfl, _, _, _, _, _, rfl, .ty _, t1, kit_ty k3, _, rfl, _, _, _, _, _, rfl, .ty _, t1, kit_ty k3, ?_, _, rfl, ?_⟩
      · cases a3 <;> rfl
      · refine ite2 (fun _ => ?_) (fun h => absurd (decide_eq_true rfl) h)
        exact ⟨_, rfl, _, rfl, rfl, hd _ S1, q _ S1⟩
    · refine ⟨_, rfl, by decide, fun tp np => ?_⟩
      have S1 := same_new (o := .tup [.ty "tuple", .ty "list"]) np
      obtain ⟨T1, t1, k1, k2, k3⟩ := (ty_lst (S1 _ _ ha)).ex
      refine ⟨_, tp, _, .type T1, [.type "tuple", .type "list"], _, rfl, upd_same, .cons (.ty _) (.cons (.ty _) .nil), t1, kit2 k1 k2, _, rfl, iteT ?_⟩
      refine ⟨_, rfl, _, _, _, _, _, rfl, .ty _, .base (.lst (S1 _ _ ha)), kit_ty lT, _, rfl, _, _, _, _, _, rfl, .ty _, .base (.lst (S1 _ _ ha)), kit_ty lL, by decide, fun l nl => ?_⟩
      have S2 := S1.trans (same_new (o := .lst [.bl false, .bl true]) nl)
      refine ⟨_, rfl, _, _, _, _, _, rfl, .ty _, .base (.lst (S2 _ _ hb)), kit_ty lT, _, rfl, _, _, _, _, _, rfl, .ty _, .base (.lst (S2 _ _ hb)), kit_ty lL, by decide, fun l2 nl2 => ?_⟩
      have S3 := S2.trans (same_new (o := .lst [.bl false, .bl true]) nl2)
      refine ⟨.list [.bool false, .bool true], .list [.bool false, .bool true], .lst (SqL.of (same_new nl2 _ _ upd_same)) (.cons (.bl _) (.cons (.bl _) .nil)), .lst (SqL.of upd_same) (.cons (.bl _) (.cons (.bl _) .nil)), by decide +kernel, by decide +kernel, ?_⟩
      rw [show PyData.eqv (.list [.bool false, .bool true]) (.list [.bool false, .bool true]) = true by decide +kernel]
      refine ⟨_, rfl, iteF ?_⟩
      refine ⟨_, rfl, a, _, rfl, .inl (SqL.of (S3 _ _ ha)), _, rfl, b, _, rfl, .inl (SqL.of (S3 _ _ hb)), rfl, _, rfl, ite2 (fun _ => ?_) (fun h => absurd (decide_eq_true (by rw [Paired.length hp])) h)⟩
      refine ⟨_, rfl, _, rfl, a, b, xs, ys, rfl, .inl ⟨SqL.of (S3 _ _ ha), SqL.of (S3 _ _ hb), fun D nD => ?_⟩⟩
      have S4 := S3.trans (same_new (o := .lst []) nD)
      refine lc_it (walk_zip (K := K) (a := a) (b := b) (xs := xs) (ys := ys) rfl) (fun i H' => Same H H' ∧ H' D = some (.lst (List.replicate i (.bl true)))) ⟨S4, upd_same⟩ (fun i H' _ h => ⟨SqL.of (h.1 _ _ ha), SqL.of (h.1 _ _ hb)⟩) ?_ ?_
      · rintro i z H1 H2 hi ⟨s1, e1⟩ ⟨T', u, v, rfl, nT, rfl, hu, hv⟩
        have s2 := s1.trans (same_new (o := .tup [u, v]) nT)
        refine ⟨T', [u, v], rfl, SqT.of upd_same, rfl, u, _, rfl, v, _, rfl, rfl, rfl, ?_⟩
        unfold tYes
        dsimp only
        rw [if_pos rfl]
        refine ⟨_, rfl, _, rfl, u, v, rfl, (paired_get hp hu hv).same s2, fun H3 s3 => ?_⟩
        refine ⟨_, s3 _ _ (same_new nT _ _ e1), by rw [List.length_replicate, sizeLine_eq]; omega, fun b' o' e' => ?_, by rw [upd_same, rep_succ]⟩
        rw [upd_ne (fun z => ?_)]
        · exact s3 _ _ (s2 _ _ e')
        · rw [z] at e'
          have z2 := S3 _ _ e'
          rw [nD] at z2
          cases z2
      · rintro H1 ⟨s1, e1⟩
        refine ⟨D, List.replicate _ true, rfl, SqL.of (by rw [e1, List.map_replicate]), ?_⟩
        rw [show (List.replicate (min xs.length ys.length) true).all id = true from List.all_eq_true.mpr fun b' hb' => by rw [List.eq_of_mem_replicate hb']; rfl]
        exact q _ s1
    · refine ⟨_, rfl, by decide, fun tp np => ?_⟩
      have S1 := same_new (o := .tup [.ty "tuple", .ty "list"]) np
      obtain ⟨T1, t1, k1, k2, k3⟩ := (ty_tup (S1 _ _ ha)).ex
      refine ⟨_, tp, _, .type T1, [.type "tuple", .type "list"], _, rfl, upd_same, .cons (.ty _) (.cons (.ty _) .nil), t1, kit2 k1 k2, _, rfl, iteT ?_⟩
      refine ⟨_, rfl, _, _, _, _, _, rfl, .ty _, .base (.tup (S1 _ _ ha)), kit_ty tT, _, rfl, _, _, _, _, _, rfl, .ty _, .base (.tup (S1 _ _ ha)), kit_ty tL, by decide, fun l nl => ?_⟩
      have S2 := S1.trans (same_new (o := .lst [.bl true, .bl false]) nl)
      refine ⟨_, rfl, _, _, _, _, _, rfl, .ty _, .base (.tup (S2 _ _ hb)), kit_ty tT, _, rfl, _, _, _, _, _, rfl, .ty _, .base (.tup (S2 _ _ hb)), kit_ty tL, by decide, fun l2 nl2 => ?_⟩
      have S3 := S2.trans (same_new (o := .lst [.bl true, .bl false]) nl2)
      refine ⟨.list [.bool true, .bool false], .list [.bool true, .bool false], .lst (SqL.of (same_new nl2 _ _ upd_same)) (.cons (.bl _) (.cons (.bl _) .nil)), .lst (SqL.of upd_same) (.cons (.bl _) (.cons (.bl _) .nil)), by decide +kernel, by decide +kernel, ?_⟩
      rw [show PyData.eqv (.list [.bool true, .bool false]) (.list [.bool true, .bool false]) = true by decide +kernel]
      refine ⟨_, rfl, iteF ?_⟩
      refine ⟨_, rfl, a, _, rfl, .inr (SqT.of (S3 _ _ ha)), _, rfl, b, _, rfl, .inr (SqT.of (S3 _ _ hb)), rfl, _, rfl, ite2 (fun _ => ?_) (fun h => absurd (decide_eq_true (by rw [Paired.length hp])) h)⟩
      refine ⟨_, rfl, _, rfl, a, b, xs, ys, rfl, .inr ⟨SqT.of (S3 _ _ ha), SqT.of (S3 _ _ hb), fun D nD => ?_⟩⟩
      have S4 := S3.trans (same_new (o := .lst []) nD)
      refine lc_it (walk_zipT (K := K) (a := a) (b := b) (xs := xs) (ys := ys) rfl) (fun i H' => Same H H' ∧ H' D = some (.lst (List.replicate i (.bl true)))) ⟨S4, upd_same⟩ (fun i H' _ h => ⟨SqT.of (h.1 _ _ ha), SqT.of (h.1 _ _ hb)⟩) ?_ ?_
      · rintro i z H1 H2 hi ⟨s1, e1⟩ ⟨T', u, v, rfl, nT, rfl, hu, hv⟩
        have s2 := s1.trans (same_new (o := .tup [u, v]) nT)
        refine ⟨T', [u, v], rfl, SqT.of upd_same, rfl, u, _, rfl, v, _, rfl, rfl, rfl, ?_⟩
        unfold tYes
        dsimp only
        rw [if_pos rfl]
        refine ⟨_, rfl, _, rfl, u, v, rfl, (paired_get hp hu hv).same s2, fun H3 s3 => ?_⟩
        refine ⟨_, s3 _ _ (same_new nT _ _ e1), by rw [List.length_replicate, sizeLine_eq]; omega, fun b' o' e' => ?_, by rw [upd_same, rep_succ]⟩
        rw [upd_ne (fun z => ?_)]
        · exact s3 _ _ (s2 _ _ e')
        · rw [z] at e'
          have z2 := S3 _ _ e'
          rw [nD] at z2
          cases z2
      · rintro H1 ⟨s1, e1⟩
        refine ⟨D, List.replicate _ true, rfl, SqL.of (by rw [e1, List.map_replicate]), ?_⟩
        rw [show (List.replicate (min xs.length ys.length) true).all id = true from List.all_eq_true.mpr fun b' hb' => by rw [List.eq_of_mem_replicate hb']; rfl]
        exact q _ s1
theorem c_alike (T : Bt mg) (F : FnP K "_law_alike" s_alike f fd) (hm : mg "_law_alike" = some (.ref f)) : ∀ n, Cal P w K mg base (n + 1) "_law_alike" (spAlike n)
  | 0 => c_alike_step T F hm 0 (cal_false F hm)
  | n + 1 => c_alike_step T F hm (n + 1) (c_alike T F hm n)
end
end L2.K33
set_option Elab.async false
set_option linter.all false
set_option maxRecDepth 100000
set_option maxHeartbeats 8000000
namespace L2.K33
open PySem PySem.Spec PyProof.Rows L2.Tb
open SX (S)
section
variable {P : Program} {w : World} {K : PySem.W.Frag} {mg : Str → Option Value} {base : Heap} {f : Addr} {fd : FuncData}
def okB : V → Bool
  | .str z => decide (z.length ≤ 100)
  | _ => true
def OkS (v : V) : Prop := ∀ z, v = .str z → z.length ≤ 100
theorem oks_all {l : List V} {v : V} (h : l.all okB = true) (hv : v ∈ l) : OkS v := fun z e => by
  have q := List.all_eq_true.mp h v hv
  rw [e] at q
  exact of_decide_eq_true q
def okA : V → Bool
  | .str z => decide (z.length ≤ 100) && z.cps.toList.all fun c => decide (c < 128)
  | _ => true
/-- texts are short and ASCII, within a tuple too -/
def OkT (H : Hp) (v : V) : Prop := okA v = true ∧ ∀ q xs, v = .ref q → H q = some (.tup xs) → xs.all okA = true ∧ xs.length ≤ 3
theorem okt_all {H : Hp} {l : List V} {v : V} (h : (l.all fun x => okA x && match x with | .ref _ => false | _ => true) = true) (hv : v ∈ l) : OkT H v := by
  have q := List.all_eq_true.mp h v hv
  obtain ⟨a, b⟩ := (Bool.and_eq_true _ _).mp q
  refine ⟨a, fun q xs e => ?_⟩
  rw [e] at b
  cases b
theorem okt_lst {H : Hp} {a : Addr} {ys : List V} (h : H a = some (.lst ys)) : OkT H (.ref a) := ⟨rfl, fun q xs e h2 => (by
  cases e
  rw [h] at h2
  cases h2)⟩
theorem okt_dct {H : Hp} {a : Addr} {ys : List (Key × V)} (h : H a = some (.dK ys)) : OkT H (.ref a) := ⟨rfl, fun q xs e h2 => (by
  cases e
  rw [h] at h2
  cases h2)⟩
theorem okt_tup {H : Hp} {a : Addr} {ys : List V} (h : H a = some (.tup ys)) (k : ys.all okA = true) (l : ys.length ≤ 3) : OkT H (.ref a) := ⟨rfl, fun q xs e h2 => (by
  cases e
  rw [h] at h2
  cases h2
  exact ⟨k, l⟩)⟩
def spOdd3 : Sp := fun vs H Q _ => ∃ p : Addr, vs = [.ref p] ∧ Purse H p ∧ ∀ (v : V) (H' : Hp), SameB p H H' → Purse H' p → Od H' 3 v → OkS v → OkT H' v → Q v H'
theorem nat_of {d : Int} (h : 0 ≤ d) : ∃ n : Nat, d = (n : Int) := Int.eq_ofNat_of_zero_le h
theorem same_new2 {H : Hp} {p : Addr} {o u : HO} (h : H p = none) : Same H (upd (upd H p o) p u) := fun b v e => by rw [upd_ne (ne_of_none e h), upd_ne (ne_of_none e h)]; exact e
theorem c_odd3 (T : Bt mg) (F : FnP K "_law_odd" s_odd f fd) (hm : mg "_law_odd" = some (.ref f)) (k_draw : Cal P w K mg base 1 "_law_draw" spDraw) : Cal P w K mg base 2 "_law_odd" spOdd3 := by
  have hnd := sc_odd.nd
  refine cal_mk F hm sc_odd (fun _ _ _ _ _ _ us hl => match us, hl with | [_], _ => rfl) (fun vs H Q E h => ?_) (fun cdv A outer s H vs Q E hr h => ?_)
  · obtain ⟨p, rfl, _⟩ := h
    rfl
  · obtain ⟨p, rfl, hp, q⟩ := h
    refine ⟨_, (pss_cons (ps_set (i := 1) hnd rfl (by first | exact Or.inl rfl | exact Or.inr rfl) (pe_cal k_draw hr (by omega) (by rfl) (pa_cons (pv 0) (pa_cons pe_int pa_nil))))
      (pss_cons (ps_if (pt_cmpR op_lt (pv 1) pe_int (nomark _))
      (pss_one (ps_ret (pe_ix (show IxR _ (rIxL K) from ix_list) (pe_lst (pa_cons pe_non (pa_cons pe_bl (pa_cons pe_bl (pa_cons pe_int (pa_cons pe_int (pa_cons (pe_un un_neg pe_int) (pa_cons pe_int (pa_cons pe_int (pa_cons (pe_op op_pow pe_int pe_int) (pa_cons (pe_un un_neg (pe_op op_pow pe_int pe_int)) pa_nil))))))))))) (pv 1) (fun _ _ => rfl))))
      pss_nil)
      (pss_cons (ps_if (pt_cmpR op_lt (pv 1) pe_int (nomark _))
      (pss_one (ps_ret (pe_ix (show IxR _ (rIxL K) from ix_list) (pe_lst (pa_cons pe_str (pa_cons pe_str (pa_cons pe_str (pa_cons pe_str (pa_cons pe_str (pa_cons pe_str pa_nil))))))) (pe_op op_sub (pv 1) pe_int) (fun _ _ => rfl))))
      pss_nil)
      (pss_cons (ps_if (pt_cmpR op_lt (pv 1) pe_int (nomark _))
      (pss_one (ps_ret (pe_ix (show IxR _ (rIxL K) from ix_list) (pe_lst (pa_cons (pe_lst pa_nil) (pa_cons (pe_lst (pa_cons pe_str pa_nil)) (pa_cons pe_dnewK (pa_cons (pe_disp (pps_cons pe_str pe_int pps_nil) (by rfl) (by rfl) (fun z => by cases z) (by decide)) pa_nil))))) (pe_op op_sub (pv 1) pe_int) (fun _ _ => rfl))))
      pss_nil)
      (pss_one (ps_ret (pe_ix (show IxR _ (rIxL K) from ix_list) (pe_lst (pa_cons (pe_tup pa_nil) (pa_cons (pe_tup (pa_cons pe_str pa_nil)) (pa_cons (pe_tup (pa_cons (pe_lst pa_nil) pa_nil)) (pa_cons (pe_tup (pa_cons pe_int (pa_cons (pe_disp (pps_cons pe_str (pe_lst (pa_cons pe_int pa_nil)) pps_nil) (by rfl) (by rfl) (fun z => by cases z) (by decide)) (pa_cons pe_int pa_nil)))) pa_nil))))) (pe_op op_sub (pv 1) pe_int) (fun _ _ => rfl)))))))), ?_⟩
    refine ⟨_, rfl, p, 24, rfl, hp, by decide, by decide, fun d H1 d0 d1 s1 p1 => ?_⟩
    obtain ⟨n, rfl⟩ := nat_of d0
    have fin : ∀ (H2 : Hp) (v : V), Same H1 H2 → Od H2 3 v → OkS v → OkT H2 v → Q v H2 := fun H2 v s ov os ot => q v H2 (s1.trans (SameB.of s)) (p1.same s) ov os ot
    refine ⟨_, rfl, _, _, rfl, rfl, _, rfl, ite2 (fun h1 => ?_) (fun h1 => ?_)⟩
    · have hn : n < 10 := by have := of_decide_eq_true h1; omega
      refine ⟨_, rfl, ⟨_, _, rfl, rfl, ⟨by decide, by decide, by decide⟩, _, _, rfl, rfl, ⟨by decide, by decide, by decide⟩, _, rfl, by show 10 ≤ sizeLine; decide, fun l nl => ⟨_, rfl, l, _, _, _, rfl, rfl, SqL.of upd_same, atI_nat (List.getElem?_eq_getElem (by show n < 10; exact hn)), fin _ _ (same_new nl) (.inl ?_) ?_ ?_⟩⟩⟩
      · exact List.all_eq_true.mp (show ([V.non, .bl true, .bl false, .int 0, .int 1, .int (-1), .int 2, .int 12, .int (10 ^ 38), .int (-(10 ^ 38))].all flatS) = true from rfl) _ (List.getElem_mem ..)
      · exact oks_all (show ([V.non, .bl true, .bl false, .int 0, .int 1, .int (-1), .int 2, .int 12, .int (10 ^ 38), .int (-(10 ^ 38))].all okB) = true from rfl) (List.getElem_mem ..)
      · exact okt_all (show ([V.non, .bl true, .bl false, .int 0, .int 1, .int (-1), .int 2, .int 12, .int (10 ^ 38), .int (-(10 ^ 38))].all fun x => okA x && match x with | .ref _ => false | _ => true) = true by decide +kernel) (List.getElem_mem ..)
    · have hn : 10 ≤ n := by
        have z : ¬ ((n : Int) < 10) := fun z => h1 (decide_eq_true z)
        omega
      refine ⟨_, rfl, _, _, rfl, rfl, _, rfl, ite2 (fun h2 => ?_) (fun h2 => ?_)⟩
      · have hn2 : n < 16 := by have := of_decide_eq_true h2; omega
        have ei : (n : Int) - 10 = ((n - 10 : Nat) : Int) := by omega
        refine ⟨by show 6 ≤ sizeLine; decide, fun l nl => ⟨_, rfl, _, _, rfl, rfl, l, _, _, _, rfl, rfl, SqL.of upd_same, (by rw [ei]; exact atI_nat (List.getElem?_eq_getElem (by show n - 10 < 6; omega))), fin _ _ (same_new nl) (.inl ?_) ?_ ?_⟩⟩
        · exact List.all_eq_true.mp (show (([("" : Str), "a", "plain", "calm sides", "(a * b)", "same a b 2"].map V.str).all flatS) = true from rfl) _ (List.getElem_mem ..)
        · exact oks_all (show (([("" : Str), "a", "plain", "calm sides", "(a * b)", "same a b 2"].map V.str).all okB) = true by decide +kernel) (List.getElem_mem ..)
        · exact okt_all (show (([("" : Str), "a", "plain", "calm sides", "(a * b)", "same a b 2"].map V.str).all fun x => okA x && match x with | .ref _ => false | _ => true) = true by decide +kernel) (List.getElem_mem ..)
      · have hn2 : 16 ≤ n := by
          have z : ¬ ((n : Int) < 16) := fun z => h2 (decide_eq_true z)
          omega
        refine ⟨_, rfl, _, _, rfl, rfl, _, rfl, ite2 (fun h3 => ?_) (fun h3 => ?_)⟩
        · have hn3 : n < 20 := by have := of_decide_eq_true h3; omega
          have ei : (n : Int) - 16 = ((n - 16 : Nat) : Int) := by omega
          refine ⟨Nat.le_of_ble_eq_true rfl, fun l1 n1 => ⟨Nat.le_of_ble_eq_true rfl, fun l2 n2 => fun d3 n3 => fun d4 n4 => ⟨upd_same, [(Sum.inr "a", .int 1)], rfl, Nat.le_of_ble_eq_true rfl, Nat.le_of_ble_eq_true rfl, fun l nl => ⟨_, rfl, _, _, rfl, rfl, l, _, _, _, rfl, rfl, SqL.of upd_same, (by rw [ei]; exact atI_nat (List.getElem?_eq_getElem (by show n - 16 < 4; omega))), ?_⟩⟩⟩⟩
          have a1 := same_new (o := .lst []) n1
          have a2 := same_new (o := .lst [.str "a"]) n2
          have a3 := same_new (o := .dK []) n3
          have a4 := same_new2 (o := .dK []) (u := .dK (mergeK [] [(Sum.inr "a", .int 1)])) n4
          have a5 := same_new (o := .lst [.ref l1, .ref l2, .ref d3, .ref d4]) nl
          refine fin _ _ (a1.trans (a2.trans (a3.trans (a4.trans a5)))) ?_ (oks_all (show ([V.ref l1, .ref l2, .ref d3, .ref d4].all okB) = true from rfl) (List.getElem_mem ..)) ?ot
          case ot =>
            have hc : n - 16 = 0 ∨ n - 16 = 1 ∨ n - 16 = 2 ∨ n - 16 = 3 := by omega
            rcases hc with e | e | e | e <;> simp only [e]
            · exact okt_lst (a5 _ _ (a4 _ _ (a3 _ _ (a2 _ _ upd_same))))
            · exact okt_lst (a5 _ _ (a4 _ _ (a3 _ _ upd_same)))
            · exact okt_dct (a5 _ _ (a4 _ _ upd_same))
            · exact okt_dct (a5 _ _ upd_same)
          have hc : n - 16 = 0 ∨ n - 16 = 1 ∨ n - 16 = 2 ∨ n - 16 = 3 := by omega
          rcases hc with e | e | e | e <;> simp only [e]
          · exact .inr (.inl ⟨l1, [], rfl, a5 _ _ (a4 _ _ (a3 _ _ (a2 _ _ upd_same))), Nat.le_of_ble_eq_true rfl, fun x hx => by cases hx⟩)
          · exact .inr (.inl ⟨l2, [.str "a"], rfl, a5 _ _ (a4 _ _ (a3 _ _ upd_same)), Nat.le_of_ble_eq_true rfl, fun x hx => by rw [List.mem_singleton.mp hx]; exact .inl rfl⟩)
          · exact .inr (.inr (.inr ⟨d3, [], rfl, a5 _ _ (a4 _ _ upd_same), Nat.le_of_ble_eq_true rfl, fun x hx => by cases hx⟩))
          · exact .inr (.inr (.inr ⟨d4, _, rfl, a5 _ _ upd_same, Nat.le_of_ble_eq_true rfl, fun x hx => by rw [List.mem_singleton.mp hx]; exact .inl rfl⟩))
        · have hn3 : 20 ≤ n := by
            have z : ¬ ((n : Int) < 20) := fun z => h3 (decide_eq_true z)
            omega
          have ei : (n : Int) - 20 = ((n - 20 : Nat) : Int) := by omega
          refine ⟨Nat.le_of_ble_eq_true rfl, fun t1 n1 => ⟨Nat.le_of_ble_eq_true rfl, fun t2 n2 => ⟨Nat.le_of_ble_eq_true rfl, fun l3 n3 => ⟨Nat.le_of_ble_eq_true rfl, fun t3 n4 => ?_⟩⟩⟩⟩
          refine fun d4 n5 => ⟨Nat.le_of_ble_eq_true rfl, fun l4 n6 => ⟨?_, [(Sum.inr "a", .ref l4)], rfl, Nat.le_of_ble_eq_true rfl, Nat.le_of_ble_eq_true rfl, fun t4 n7 => ⟨Nat.le_of_ble_eq_true rfl, fun l nl => ⟨_, rfl, _, _, rfl, rfl, l, _, _, _, rfl, rfl, SqL.of upd_same, (by rw [ei]; exact atI_nat (List.getElem?_eq_getElem (by show n - 20 < 4; omega))), ?_⟩⟩⟩⟩
          · rw [upd_ne (ne_of_none upd_same n6)]
            exact upd_same
          have a1 := same_new (o := .tup []) n1
          have a2 := same_new (o := .tup [.str "a"]) n2
          have a3 := same_new (o := .lst []) n3
          have a4 := same_new (o := .tup [.ref l3]) n4
          have nd4 : d4 ≠ l4 := ne_of_none upd_same n6
          have a6 : Same (upd (upd (upd (upd H1 t1 (.tup [])) t2 (.tup [.str "a"])) l3 (.lst [])) t3 (.tup [.ref l3])) (upd (upd (upd (upd (upd (upd (upd H1 t1 (.tup [])) t2 (.tup [.str "a"])) l3 (.lst [])) t3 (.tup [.ref l3])) d4 (.dK [])) l4 (.lst [.int 1])) d4 (.dK (mergeK [] [(Sum.inr "a", .ref l4)]))) := fun b o e => by
            rw [upd_ne (ne_of_none e n5)]
            exact same_new n6 _ _ (same_new n5 _ _ e)
          have a7 := same_new (o := .tup [.int 0, .ref d4, .int 2]) n7
          have a8 := same_new (o := .lst [.ref t1, .ref t2, .ref t3, .ref t4]) nl
          refine fin _ _ (a1.trans (a2.trans (a3.trans (a4.trans (a6.trans (a7.trans a8)))))) ?_ (oks_all (show ([V.ref t1, .ref t2, .ref t3, .ref t4].all okB) = true from rfl) (List.getElem_mem ..)) ?ot
          case ot =>
            have hc : n - 20 = 0 ∨ n - 20 = 1 ∨ n - 20 = 2 ∨ n - 20 = 3 := by omega
            rcases hc with e | e | e | e <;> simp only [e]
            · exact okt_tup (a8 _ _ (a7 _ _ (a6 _ _ (a4 _ _ (a3 _ _ (a2 _ _ upd_same)))))) rfl (by decide)
            · exact okt_tup (a8 _ _ (a7 _ _ (a6 _ _ (a4 _ _ (a3 _ _ upd_same))))) (by decide +kernel) (by decide)
            · exact okt_tup (a8 _ _ (a7 _ _ (a6 _ _ upd_same))) rfl (show (1 : Nat) ≤ 3 by decide)
            · exact okt_tup (a8 _ _ upd_same) rfl (show (3 : Nat) ≤ 3 by decide)
          have hc : n - 20 = 0 ∨ n - 20 = 1 ∨ n - 20 = 2 ∨ n - 20 = 3 := by omega
          rcases hc with e | e | e | e <;> simp only [e]
          · exact .inr (.inr (.inl ⟨t1, [], rfl, a8 _ _ (a7 _ _ (a6 _ _ (a4 _ _ (a3 _ _ (a2 _ _ upd_same))))), Nat.le_of_ble_eq_true rfl, fun x hx => by cases hx⟩))
          · exact .inr (.inr (.inl ⟨t2, [.str "a"], rfl, a8 _ _ (a7 _ _ (a6 _ _ (a4 _ _ (a3 _ _ upd_same)))), Nat.le_of_ble_eq_true rfl, fun x hx => by rw [List.mem_singleton.mp hx]; exact .inl rfl⟩))
          · refine .inr (.inr (.inl ⟨t3, [.ref l3], rfl, a8 _ _ (a7 _ _ (a6 _ _ upd_same)), Nat.le_of_ble_eq_true rfl, fun x hx => ?_⟩))
            rw [List.mem_singleton.mp hx]
            exact .inr (.inl ⟨l3, [], rfl, a8 _ _ (a7 _ _ (a6 _ _ (a4 _ _ upd_same))), Nat.le_of_ble_eq_true rfl, fun x hx => by cases hx⟩)
          · refine .inr (.inr (.inl ⟨t4, [.int 0, .ref d4, .int 2], rfl, a8 _ _ upd_same, Nat.le_of_ble_eq_true rfl, fun x hx => ?_⟩))
            rcases List.mem_cons.mp hx with e | hx
            · rw [e]; exact .inl rfl
            rcases List.mem_cons.mp hx with e | hx
            · rw [e]
              exact .inr (.inr (.inr ⟨d4, _, rfl, a8 _ _ (a7 _ _ upd_same), Nat.le_of_ble_eq_true rfl, fun x hx => by rw [List.mem_singleton.mp hx]; exact .inr ⟨_, rfl⟩⟩))
            · rw [List.mem_singleton.mp hx]; exact .inl rfl
end
end L2.K33
set_option Elab.async false
set_option linter.all false
set_option maxRecDepth 100000
set_option maxHeartbeats 8000000
namespace L2.K33
open PySem PySem.Spec PyProof.Rows L2.Tb
open SX (S)
abbrev s_told : Stmt := top 60
abbrev N_told : List Str := ["_law_act", "_law_heard", "e"]
theorem sc_told : FnScope N_told ["_law_act"] (defScope s_told) := ⟨rfl, rfl, rfl, by decide +kernel, rfl, by decide +kernel, by decide +kernel⟩
def HeardE (C : Addr) (at_ z : Str) (cls : Value) (d : Option Addr) (H : Hp) (Q : VK) : Prop := cls = .ref C ∧ ∃ dd v, d = some dd ∧ H dd = some (.xd [(at_, v)]) ∧ ∀ T, H T = none → Q (.ref T) (upd H T (.tup [.str z, v]))
/-- the law's look where InvalidIndex must come -/
def TTj (CJ : Addr) : (XK → Hp → VK → Prop) → Hp → VK → Prop := fun tl H Q =>
  tl (fun cls d H1 => HeardE CJ "given" "index" cls d H1 Q) H (fun _ _ => False)
structure ToldJ (K : PySem.W.Frag) (mg : Str → Option Value) (CJ : Addr) : Prop where
  gJ : mg "InvalidIndex" = some (.ref CJ)
  xJ : XfC K CJ
  nJ : PySem.W.findIn K (.ref CJ) "given" = some none
  jj : PySem.W.exmOne K (.ref CJ) (.ref CJ) = some true
section
variable {X : Cx} {CJ : Addr}
theorem told_gives (TF : ToldJ X.K X.mg CJ) {g : Addr} {cdg : Value} {q : Str} : LamX.GivesTo X N_told "_law_told" (defScope s_told) g cdg (defBody s_told) "_law_act" q (TTj CJ) := by
  have hnd := sc_told.nd
  intro f c' s H Q tl act hc h
  refine ⟨_, pss_cons (ps_try_asMany (X := (cxOf C8.CX0 X.prog X.w X.K X.mg X.base N_told "_law_told" (defScope s_told) g cdg X.A X.stack s H C8.E0).nox)
      (tb := fun W D σ H => ∃ Ech : XK, (∀ cls d σ' H', Ech cls d H' → W cls d σ' H') ∧ tAsg (tTup (tCons (tC (.str "ways")) (tCons (tUp fun σZ HZ Q => σZ[0]? = some (some (.ref f)) ∧ HZ c' = some (LamX.CodeO c' q) ∧ tl Ech HZ Q) tNil))) (gName 1) D σ H)
      rfl rfl hnd (fun W pn xe tk _ => ?_)
      (.cons (i := 2) rfl rfl ⟨rfl, by decide, .inl TF.gJ⟩ (fun a oe cls d pn hz hf => pss_one (ps_set (i := 1) hnd rfl (by first | exact Or.inl rfl | exact Or.inr rfl) (pe_tup (pa_cons pe_str (pa_cons (pe_xf TF.xJ TF.nJ hz hf (pv 2)) pa_nil)))))
      (.stop _))) (pss_one (ps_ret (pv 1))), ?_⟩
  · refine ⟨fun pins s' σ H' D I h' => ?_⟩
    obtain ⟨Ech, hW, h'⟩ := h'
    refine PSs.run (X := ((cxOf C8.CX0 X.prog X.w X.K X.mg X.base N_told "_law_told" (defScope s_told) g cdg X.A X.stack s H C8.E0).nox.tr pn xe)) (t := tAsg (tTup (tCons (tC (.str "ways")) (tCons (tUp fun σZ HZ Q => σZ[0]? = some (some (.ref f)) ∧ HZ c' = some (LamX.CodeO c' q) ∧ tl Ech HZ Q) tNil))) (gName 1)) ?_ pins s' σ H' D I h'
    have act1 := fun p1 p2 => pe_up (act W pn xe Ech p1 p2 tk hW)
    exact pss_one (ps_set (i := 1) hnd rfl (by first | exact Or.inl rfl | exact Or.inr rfl) (pe_tup (pa_cons pe_str (pa_cons (act1 _ _) pa_nil))))
  · refine ⟨fun cls d H1 => HeardE CJ "given" "index" cls d H1 Q, fun cls d σ' H1 e hl => ?_, _, ⟨rfl, hc, h⟩, fun _ _ z => z.elim⟩
    obtain ⟨s0, s1, s2, rfl⟩ : ∃ s0 s1 s2, σ' = [s0, s1, s2] := by
      match σ', hl with
      | [s0, s1, s2], _ => exact ⟨s0, s1, s2, rfl⟩
    obtain ⟨rfl, dd, v, rfl, ed, q⟩ := e
    exact ⟨true, TF.jj, fun _ a na => ⟨_, rfl, rfl, rfl, dd, _, v, rfl, ed, rfl, Nat.le_of_ble_eq_true rfl, fun T nT => ⟨_, rfl, q T nT⟩⟩, (fun z => Bool.noConfusion z)⟩
end
end L2.K33
set_option Elab.async false
set_option linter.all false
set_option maxRecDepth 100000
set_option maxHeartbeats 8000000
namespace L2.K33
open PySem PySem.Spec PyProof.Rows L2.Tb
open SX (S)
abbrev s_ways_right : Stmt := top 61
abbrev N_ways_right : List Str := ["_law_mine", "_law_steps_here", "_law_k", "_law_due", "_law_done"]
theorem sc_ways_right : FnScope N_ways_right ["_law_mine", "_law_steps_here"] (defScope s_ways_right) := ⟨rfl, rfl, rfl, by decide +kernel, rfl, by decide +kernel, by decide +kernel⟩
/-- the generator method, as the head tells it -/
structure WyF (P : Program) (w : World) (K : PySem.W.Frag) (mg : Str → Option Value) (base : Heap) (C SC CJ : Addr) : Prop where
  mw : ∃ g fd, Meth K SC "ways" g ∧ GFn P w K mg base 4 g fd ["self", "row"] (spWaysL K C SC CJ) ∧ GF1 P w K mg base 4 g fd ["self", "row"] (spWays1 K C SC CJ) ∧ Binds K fd ["self", "row"] [] ∧
    ∀ (sh : Shared) (a : Addr) (zs : List Value), zs.length = (["row"] : List Str).length → BindsTo sh fd ⟨[.ref a], (["row"] : List Str).zip zs⟩ ((["self", "row"] : List Str).zip (Value.ref a :: zs))
theorem scw_of {pr : Str × Bool} {ls : List (List Nat)} {ds : List Stp} (nl : NamesL ls) (d12 : ds.length ≤ 12) (st : StepsL ls.length ds.length ds) : ScW (scOf pr ls ds) ∧ (∀ i, wayT (scOf pr ls ds) i = waysI (nxS ds) i) ∧ (scOf pr ls ds).rws.length = ds.length := by
  have e : (scOf pr ls ds).steps = ds.map (rstOf ls) := by
    show readAll ls (ds.map (rowL ls)).length 0 ((ds.map (rowL ls)).map some) = _
    rw [List.length_map]
    exact readAll_ok nl d12 ds 0 fun k d hk => by
      rw [Nat.zero_add]
      exact st.at_ k d hk
  refine ⟨⟨by rw [e]; exact fwdR_S st d12⟩, fun i => ?_, by show (ds.map _).length = _; rw [List.length_map]⟩
  unfold wayT
  rw [e, nxR_S st]
def spWaysRight (C SC : Addr) : Sp := fun vs H Q _ => ∃ (a Sd : Addr) (ts : List Addr) (pr : Str × Bool) (ls : List (List Nat)) (ds : List Stp), vs = [.ref a, .ref Sd] ∧ ScAt C SC H a (scOf pr ls ds) ∧ NamesL ls ∧ H Sd = some (.lst (ts.map V.ref)) ∧ Paired (fun t d => StepAt H t d) ts ds ∧ StepsL ls.length ds.length ds ∧ ds.length ≤ 12 ∧
  ∀ H', Same H H' → Q (.bl true) H'
section
variable {P : Program} {w : World} {K : PySem.W.Frag} {mg : Str → Option Value} {base : Heap} {f : Addr} {fd : FuncData} {C SC CJ : Addr}
theorem c_ways_right (T : Bt mg) (SF : ScF K mg SC) (WY : WyF P w K mg base C SC CJ) (k_lways : Cal P w K mg base 1 "_law_ways" spLWays)
    (F : FnP K "_law_ways_right" s_ways_right f fd) (hm : mg "_law_ways_right" = some (.ref f)) : CalG P w K mg base 8 "_law_ways_right" (spWaysRight C SC) := by
  have hnd := sc_ways_right.nd
  obtain ⟨gw, fdw, WM, WF, W1, WB, WK⟩ := WY.mw
  refine calG_mk F hm sc_ways_right (fun _ _ _ _ _ _ us hl => match us, hl with | [_, _], _ => rfl) (fun vs H Q E h => ?_) (fun cdv A outer s H vs Q E hg2 hr h => ?_)
  · obtain ⟨a, Sd, ts, pr, ls, ds, rfl, _⟩ := h
    rfl
  · obtain ⟨a, Sd, ts, pr, ls, ds, rfl, sc, nl, eS, pt, st, d12, q⟩ := h
    refine ⟨_, (pss_cons (ps_for PassesOwn.never (by rfl) (pi_range1 (by rfl) T.m_range (pa_cons (pe_op op_add (pe_callB call_len_seq (by rfl) T.m_len (by decide +kernel) (pa_cons (pv 1) pa_nil)) pe_int) pa_nil)) (pg_name (i := 2) hnd rfl (by first | exact Or.inl rfl | exact Or.inr rfl))
      (pss_cons (ps_set (i := 3) hnd rfl (by first | exact Or.inl rfl | exact Or.inr rfl) (pe_cal k_lways hr (by omega) (by rfl) (pa_cons (pv 1) (pa_cons (pv 2) pa_nil))))
      (pss_cons (ps_forF PassesOwn.never (pg1_meth (pv 0) SF.cls WM W1 (hr.mono (by omega)) WB (pa_cons (pv 2) pa_nil)) (hr.mono (by omega)) (pg_name (i := 4) hnd rfl (by first | exact Or.inl rfl | exact Or.inr rfl))
      (pss_cons (ps_if (PW.pt (pw_or (pt_cmpR (show OpR _ (compareOp .Eq) (rEqD K) from op_eqD hr.units) (pv 3) (pe_lst pa_nil) (nomark _)) (pw_or1 (pt_cmpR op_ne (pe_callB (show CallR _ (.builtin "repr") (rReprD K) from call_reprD hg2 hr.units) (by rfl) T.m_repr (by decide +kernel) (pa_cons (pv 4) pa_nil)) (pe_callB (show CallR _ (.builtin "repr") (rReprD K) from call_reprD hg2 hr.units) (by rfl) T.m_repr (by decide +kernel) (pa_cons (pe_ix (show IxR _ (rIxL K) from ix_list) (pv 3) pe_int (fun _ _ => rfl)) pa_nil)) (nomark _)))))
      (pss_one (ps_ret pe_bl))
      pss_nil)
      (pss_one ps_break)))
      (pss_one (ps_if (PW.pt (pw_or (pt_cmpR op_ne (pe_callB (show CallR _ (.builtin "repr") (rReprD K) from call_reprD hg2 hr.units) (by rfl) T.m_repr (by decide +kernel) (pa_cons (pe_listG (nm := "list") (E := fun _ _ _ => False) (pgen_meth (pv 0) SF.cls WM WF (hr.mono (by omega)) WB .nil (pa_cons (pv 2) pa_nil)) pass_none (fun _ _ _ h => h.elim) (hr.mono (by decide)) (by rfl) T.m_list rfl) pa_nil)) (pe_callB (show CallR _ (.builtin "repr") (rReprD K) from call_reprD hg2 hr.units) (by rfl) T.m_repr (by decide +kernel) (pa_cons (pv 3) pa_nil)) (nomark _)) (pw_or1 (pt_cmpR op_ne (pe_callB (show CallR _ (.builtin "repr") (rReprD K) from call_reprD hg2 hr.units) (by rfl) T.m_repr (by decide +kernel) (pa_cons (pe_listG (nm := "list") (E := fun _ _ _ => False) (pgen_methK (pv 0) SF.cls WM WF (hr.mono (by omega)) (pk_cons (pv 2) pk_nil) rfl WK) pass_none (fun _ _ _ h => h.elim) (hr.mono (by decide)) (by rfl) T.m_list rfl) pa_nil)) (pe_callB (show CallR _ (.builtin "repr") (rReprD K) from call_reprD hg2 hr.units) (by rfl) T.m_repr (by decide +kernel) (pa_cons (pv 3) pa_nil)) (nomark _)))))
      (pss_one (ps_ret pe_bl))
      pss_nil)))))
      (pss_one (ps_ret pe_bl))), ?_⟩
    obtain ⟨sw, wt, rl⟩ := scw_of (pr := pr) nl d12 st
    have tl := pt.length
    refine ⟨_, rfl, Sd, _, rfl, .inl (SqL.of eS), _, _, rfl, rfl, _, rfl, by omega, by rw [List.length_map]; omega, ?_⟩
    rw [show ((((ts.map V.ref).length : Nat) : Int) + 1).toNat = ds.length + 1 by rw [List.length_map, tl]; omega]
    refine for_range (fun j σ G => Same H G ∧ ∃ x2 x3 x4 : Option V, σ = [some (.ref a), some (.ref Sd), x2, x3, x4]) ⟨Same.refl _, _, _, _, rfl⟩ ?_ ?_
    · rintro j σ G hj ⟨sg, x2, x3, x4, rfl⟩
      rw [Int.zero_add]
      refine gname_go ?_
      try dsimp only
      have hj2 : j ≤ ds.length := by omega
      obtain ⟨w16, wfew⟩ := ways_few st d12 hj2
      refine ⟨_, rfl, _, rfl, Sd, ts, ds, ls.length, ds.length, j, rfl, sg _ _ eS, paired_imp (fun _ _ z => sg _ _ z) pt, st, d12, hj2, fun L us G1 s1 nL eL pu => gname_go ?_⟩
      try dsimp only
      have s2 := sg.trans s1
      have sc1 := sc.same s2
      have dpL : ∀ {G' : Hp}, Same G1 G' → Dp K G' (.ref L) (rowsD (waysI (nxS ds) j)) := fun s => .lst (SqL.of (s _ _ eL)) (dp_rows (paired_imp (fun _ _ z => TupI.same z s) pu))
      obtain ⟨rp1, rp2, rp3, rp4⟩ := rows_rep w16 wfew
      refine seqx (fun σ' G2 => Same G1 G2 ∧ ∃ x4 : Option V, σ' = [some (.ref a), some (.ref Sd), some (.int (j : Int)), some (.ref L), x4]) ?_ fun key => ?_
      · rintro σ' G2 ⟨s3, x4, rfl⟩
        have sc2 := sc1.same s3
        obtain ⟨dx, Tt, tk, bx, rw9, ts9, h1, _⟩ := id sc2
        refine ⟨_, rfl, a, dx, _, rfl, h1, rfl, _, rfl, a, scOf pr ls ds, _, rfl, sc2, sw, .inl ⟨j, rfl, by rw [rl]; exact hj2, fun vs G3 s4 pv _ => ?_⟩⟩
        rw [wt] at pv
        refine fun p np => ?_
        have sp := same_new (o := .lst (vs.map V.ref)) np
        have dp1 : Dp K (upd G3 p (.lst (vs.map V.ref))) (.ref p) (rowsD (waysI (nxS ds) j)) := .lst (SqL.of upd_same) (dp_rows (paired_imp (fun _ _ z => TupI.same z sp) pv))
        have s5 := (s3.trans s4).trans sp
        refine ⟨p, _, rfl, dp1, rp1, rp2, rp3, rp4, _, rfl, L, _, rfl, dpL s5, rp1, rp2, rp3, rp4, rfl, _, rfl, iteN2 (by simp) ?_⟩
        have sc5 := sc1.same s5
        generalize upd G3 p (.lst (vs.map V.ref)) = G4 at s5 sc5 ⊢
        obtain ⟨dx, Tt, tk, bx, rw9, ts9, h1, _⟩ := id sc5
        refine ⟨_, rfl, a, dx, _, rfl, h1, rfl, _, rfl, a, scOf pr ls ds, _, rfl, sc5, sw, .inl ⟨j, rfl, by rw [rl]; exact hj2, fun vs G5 s6 pv _ => ?_⟩⟩
        rw [wt] at pv
        refine fun p np => ?_
        have sp := same_new (o := .lst (vs.map V.ref)) np
        have dp1 : Dp K (upd G5 p (.lst (vs.map V.ref))) (.ref p) (rowsD (waysI (nxS ds) j)) := .lst (SqL.of upd_same) (dp_rows (paired_imp (fun _ _ z => TupI.same z sp) pv))
        have s7 := (s5.trans s6).trans sp
        refine ⟨p, _, rfl, dp1, rp1, rp2, rp3, rp4, _, rfl, L, _, rfl, dpL s7, rp1, rp2, rp3, rp4, rfl, _, rfl, iteN2 (by simp) ?_⟩
        exact ⟨s2.trans s7, _, _, _, rfl⟩
      · obtain ⟨dx, Tt, tk, bx, rw9, ts9, h1, _⟩ := id sc1
        refine ⟨_, rfl, a, dx, _, rfl, h1, rfl, _, rfl, a, scOf pr ls ds, j, rfl, sc1, sw, by rw [rl]; exact hj2, fun G2 s3 => ⟨fun e => ?_, fun w ws u e hu => ?_⟩⟩
        · exact key _ _ ⟨s3, _, rfl⟩
        · rw [wt] at e
          refine gname_go ?_
          try dsimp only
          have fw : Few w := wfew w (by rw [e]; exact List.mem_cons_self)
          obtain ⟨t1, t2, t3, t4⟩ := tupD_rep fw
          have pu2 : Paired (fun u w => TupI G2 u w) us (waysI (nxS ds) j) := paired_imp (fun _ _ z => TupI.same z s3) pu
          have eL2 := s3 _ _ eL
          have dp2 := dpL s3
          rw [e] at pu2 dp2
          cases us with
          | nil => cases pu2
          | cons u0 us' =>
            cases pu2 with
            | cons h0 _ =>
              refine ⟨_, rfl, Nat.zero_le _, fun N nN => ?_⟩
              have sN := same_new (o := .lst []) nN
              have dp3 : Dp K (upd G2 N (.lst [])) (.ref L) (rowsD (w :: ws)) := by
                have := dpL (s3.trans sN)
                rwa [e] at this
              refine ⟨rowsD (w :: ws), .list [], dp3, .lst (SqL.of upd_same) .nil, rowsD_shaped _, rfl, _, rfl, iteN2 (by simp [rowsD, PyData.eqv, PyData.eqvAll]) ?_⟩
              refine ⟨_, rfl, u, tupD w, rfl, dp_tup (SqT.of (TupI.same hu sN)), t1, t2, t3, t4, _, rfl, L, _, 0, .ref u0, rfl, rfl, SqL.of (sN _ _ eL2), atI_nat (j := 0) rfl, u0, tupD w, rfl, dp_tup (SqT.of (TupI.same h0 sN)), t1, t2, t3, t4, rfl, _, rfl, iteN2 (by simp) ?_⟩
              exact key _ _ ⟨s3.trans sN, _, rfl⟩
    · rintro σ G ⟨sg, x2, x3, x4, rfl⟩
      exact q G sg
end
end L2.K33
set_option Elab.async false
set_option linter.all false
set_option maxRecDepth 100000
set_option maxHeartbeats 8000000
namespace L2.K33
open PySem PySem.Spec PyProof.Rows L2.Tb
open SX (S)
abbrev s_right : Stmt := top 62
abbrev N_right : List Str := ["_law_purse_here", "_law_pair", "_law_width", "_law_many", "_law_names_here", "_law_steps_here", "_law_mine", "_law_way", "_law_odd_here"]
theorem sc_right : FnScope N_right ["_law_purse_here"] (defScope s_right) := ⟨rfl, rfl, rfl, by decide +kernel, rfl, by decide +kernel, by decide +kernel⟩
abbrev q_right : Str := (envOfC "_law_right" (defScope s_right) 0 0 .none).qual ++ "<lambda>"
def tabsT (P1 : Addr) : List (Addr × Str) := [(P1, q_right)]
theorem tabs_u1 {P1 : Addr} : ∀ p ∈ tabsT P1, p.1 = P1 → p.2 = q_right := by
  intro p hp _
  rw [List.mem_singleton.mp hp]
def ExtB (p : Addr) (H H' : Hp) : Prop := ∀ b o, b ≠ p → H b = some o → (∀ ps, o ≠ .tbl ps) → H' b = some o
theorem ExtB.refl (p : Addr) (H : Hp) : ExtB p H H := fun _ _ _ e _ => e
theorem ExtB.ofB {p : Addr} {H H' : Hp} (s : SameB p H H') : ExtB p H H' := fun b o n e _ => s b o n e
theorem ExtB.ofS {p : Addr} {H H' : Hp} (s : Same H H') : ExtB p H H' := fun b o _ e _ => s b o e
theorem ExtB.ofN {p : Addr} {H H' : Hp} (s : LamX.ExtN H H') : ExtB p H H' := fun b o _ e t => s b o e t
theorem ExtB.trans {p : Addr} {H H1 H2 : Hp} (a : ExtB p H H1) (b : ExtB p H1 H2) : ExtB p H H2 := fun c o n e t => b c o n (a c o n e t) t
theorem tabs_B {T : List (Addr × Str)} {H H' : Hp} {p : Addr} (t : LamX.Tabs T H) (hp : Purse H p) (s : SameB p H H') : LamX.Tabs T H' := by
  obtain ⟨st, dg, c, e, _⟩ := hp.ex
  have out : ∀ {b o}, H b = some o → (∀ xs, o ≠ .lst xs) → H' b = some o := fun {b o} eb no => s b o (fun z => by
    rw [z, e] at eb
    exact no _ (Option.some.inj eb).symm) eb
  intro q hq
  obtain ⟨ps, h1, h2, h3⟩ := t q hq
  refine ⟨ps, out h1 (fun xs z => by cases z), h2, fun pos cv hc => ?_⟩
  obtain ⟨c', e1, e2⟩ := h3 pos cv hc
  refine ⟨c', e1, out e2 fun xs z => ?_⟩
  unfold LamX.CodeO at z
  cases z
theorem purse_N {H H' : Hp} {p : Addr} (h : Purse H p) (s : LamX.ExtN H H') : Purse H' p := by
  obtain ⟨st, dg, c, e, r⟩ := h.ex
  exact ⟨st, dg, c, s _ _ e (fun ps z => by cases z), r⟩

theorem keepL {G G' : Hp} {p r : Addr} {x : V} {ys : List V} (u : Purse G p) (e : G r = some (.lst (x :: ys))) (hx : ∀ i, x ≠ .int i) (s : SameB p G G') : G' r = some (.lst (x :: ys)) := s _ _ (fun z => by
  obtain ⟨st, dg, c, e2, _⟩ := u.ex
  rw [← z, e] at e2
  injection e2 with e2
  injection e2 with e2
  injection e2 with e2 e3
  exact hx _ e2) e
theorem steps_in {w m : Nat} {ds : List Stp} (h : StepsL w m ds) (hm : m ≤ 12) : ∀ d ∈ ds, StIn w d := fun d hd => by
  obtain ⟨k, hk⟩ := List.mem_iff_getElem?.mp hd
  exact (h.at_ k d hk).in_ hm
theorem pair_at {H : Hp} {ts : List Addr} {i : Nat} {x : V} (p : Paired (PairAt H) ts pairD) (hx : (ts.map V.ref)[i]? = some x) : ∃ t d, x = .ref t ∧ pairD[i]? = some d ∧ PairAt H t d := by
  rw [List.getElem?_map] at hx
  obtain ⟨t, e, rfl⟩ := Option.map_eq_some_iff.mp hx
  obtain ⟨d, e2, r⟩ := pairedNth p e
  exact ⟨t, d, rfl, e2, r⟩
def spTR (T : List (Addr × Str)) : Sp := fun vs H Q _ => ∃ p : Addr, vs = [.ref p] ∧ Purse H p ∧ LamX.Tabs T H ∧ ∀ H' : Hp, ExtB p H H' → Purse H' p → LamX.Tabs T H' → Q (.bl true) H'
def oddT : List String := ["NoneType", "bool", "int", "str", "list", "tuple", "dict"]
theorem od_ty2 {K : PySem.W.Frag} {H : Hp} {n : Nat} {v : V} (h : Od H (n + 1) v) : ∃ T ∈ oddT, TyX K H v (.type T) := by
  rcases h with h | ⟨a, xs, rfl, h2, _⟩ | ⟨a, xs, rfl, h2, _⟩ | ⟨a, kvs, rfl, h2, _⟩
  · cases v with
    | non => exact ⟨"NoneType", by decide, .base .non⟩
    | bl b => exact ⟨"bool", by decide, .base (.bl b)⟩
    | int i => exact ⟨"int", by decide, .base (.int i)⟩
    | str z => exact ⟨"str", by decide, .base (.str z)⟩
    | _ => cases h
  · exact ⟨"list", by decide, .base (.lst h2)⟩
  · exact ⟨"tuple", by decide, .base (.tup h2)⟩
  · exact ⟨"dict", by decide, .base (.dK h2)⟩
theorem od_up {H : Hp} : ∀ {n : Nat} {v : V}, Od H n v → Od H (n + 1) v
  | 0, v, h => .inl h
  | n + 1, v, h => by
    rcases h with h | ⟨a, xs, h1, h2, h3, h4⟩ | ⟨a, xs, h1, h2, h3, h4⟩ | ⟨a, kvs, h1, h2, h3, h4⟩
    · exact .inl h
    · exact .inr (.inl ⟨a, xs, h1, h2, h3, fun x hx => od_up (h4 x hx)⟩)
    · exact .inr (.inr (.inl ⟨a, xs, h1, h2, h3, fun x hx => od_up (h4 x hx)⟩))
    · exact .inr (.inr (.inr ⟨a, kvs, h1, h2, h3, h4⟩))
/-! ### kept while the purse and tables change -/
section
variable {K : PySem.W.Frag} {p : Addr} {H H' : Hp} {x v : V}
theorem neL {a : Addr} {o : HO} (u : Purse H p) (e : H a = some o) (n : ∀ xs, o ≠ .lst xs) : a ≠ p := fun z => by
  obtain ⟨st, dg, c, e2, _⟩ := u.ex
  rw [z, e2] at e
  exact n _ (Option.some.inj e).symm
theorem xT {a : Addr} {ys : List V} (u : Purse H p) (s : ExtB p H H') (e : H a = some (.tup ys)) : H' a = some (.tup ys) := s _ _ (neL u e fun xs z => by cases z) e fun ps z => by cases z
theorem xI {a C dx : Addr} {fs : List (Str × V)} (u : Purse H p) (s : ExtB p H H') (e : H a = some (.ins C dx fs)) : H' a = some (.ins C dx fs) := s _ _ (neL u e fun xs z => by cases z) e fun ps z => by cases z
theorem tyx_X {t : Value} (u : Purse H p) (u' : Purse H' p) (s : ExtB p H H') (h : TyX K H x t) : TyX K H' x t := by
  have k : ∀ {a : Addr} {o : HO}, H a = some o → (∀ xs, o ≠ .lst xs) → (∀ ps, o ≠ .tbl ps) → H' a = some o := fun {a o} e n1 n2 => s _ _ (neL u e n1) e n2
  cases h with
  | base b =>
    refine .base ?_
    cases b with
    | non => exact .non
    | bl x => exact .bl x
    | int x => exact .int x
    | str x => exact .str x
    | flt x => exact .flt x
    | @lst a xs e =>
      by_cases c : a = p
      · obtain ⟨st, dg, c', e2, _⟩ := u'.ex
        rw [c]
        exact .lst e2
      · exact .lst (s _ _ c e (fun ps z => by cases z))
    | frz e => exact .frz (k e (fun ps z => by cases z) (fun ps z => by cases z))
    | tup e => exact .tup (k e (fun ps z => by cases z) (fun ps z => by cases z))
    | dK e => exact .dK (k e (fun ps z => by cases z) (fun ps z => by cases z))
    | dT e => exact .dT (k e (fun ps z => by cases z) (fun ps z => by cases z))
    | ins e a b c d f => exact .ins (k e (fun ps z => by cases z) (fun ps z => by cases z)) a b c d f
  | byt b => exact .byt b
  | set e => exact .set (k e (fun ps z => by cases z) (fun ps z => by cases z))
  | kList e c => exact .kList e c
  | kTuple e c => exact .kTuple e c
  | kDict e c => exact .kDict e c
  | fTuple e => exact .fTuple (k e (fun ps z => by cases z) (fun ps z => by cases z))
  | fDict e => exact .fDict (k e (fun ps z => by cases z) (fun ps z => by cases z))
theorem KindAt.X {C tk : Addr} {z : Str} {b : Bool} (u : Purse H p) (s : ExtB p H H') (h : KindAt C H tk z b) : KindAt C H' tk z b := let ⟨dx, e⟩ := h; ⟨dx, xI u s e⟩
theorem od_X (u : Purse H p) (s : ExtB p H H') : ∀ {n : Nat} {v : V}, Od H n v → Od H' n v
  | 0, _, h => h
  | n + 1, v, h => by
    rcases h with h | ⟨a, xs, h1, h2, h3, h4⟩ | ⟨a, xs, h1, h2, h3, h4⟩ | ⟨a, kvs, h1, h2, h3, h4⟩
    · exact .inl h
    · refine .inr (.inl ⟨a, xs, h1, s _ _ (fun z => ?_) h2 (fun ps z => by cases z), h3, fun x hx => od_X u s (h4 x hx)⟩)
      obtain ⟨st, dg, c, e2, _⟩ := u.ex
      rw [z, e2] at h2
      cases h2
      simp at h3
    · exact .inr (.inr (.inl ⟨a, xs, h1, xT u s h2, h3, fun x hx => od_X u s (h4 x hx)⟩))
    · exact .inr (.inr (.inr ⟨a, kvs, h1, s _ _ (neL u h2 fun xs z => by cases z) h2 (fun ps z => by cases z), h3, h4⟩))
theorem okt_X {n : Nat} (u : Purse H p) (s : ExtB p H H') (od : Od H (n + 1) v) (ot : OkT H v) : OkT H' v := by
  refine ⟨ot.1, fun q xs e h9 => ?_⟩
  subst e
  obtain ⟨st, dg, c, e, _⟩ := u.ex
  rcases od with h | ⟨a, ys, h1, h2, h3, _⟩ | ⟨a, ys, h1, h2, _⟩ | ⟨a, kvs, h1, h2, _⟩
  · cases h
  · cases h1
    rw [s _ _ (fun z => by
      rw [z, e] at h2
      cases h2
      simp at h3) h2 (fun ps z => by cases z)] at h9
    cases h9
  · cases h1
    rw [xT u s h2] at h9
    cases h9
    exact ot.2 _ _ rfl h2
  · cases h1
    rw [s _ _ (neL u h2 fun xs z => by cases z) h2 (fun ps z => by cases z)] at h9
    cases h9
theorem ScAt.X {C SC a : Addr} {d : Scr} (u : Purse H p) (s : ExtB p H H') (h : ScAt C SC H a d) : ScAt C SC H' a d := by
  obtain ⟨dx, T, tk, bx, rw, ts, h1, h2, h3, h4, h5, h6⟩ := h
  refine ⟨dx, T, tk, bx, rw, ts, xI u s h1, h2.X u s, xT u s h3, xT u s h4, xT u s h5, paired_imp (fun t st z => ?_) h6⟩
  obtain ⟨nt, a, b⟩ := z
  exact ⟨nt, xT u s a, xT u s b⟩
end
theorem keepT {G G' : Hp} {p r : Addr} {ys : List V} (u : Purse G p) (e : G r = some (.tup ys)) (s : SameB p G G') : G' r = some (.tup ys) := s _ _ (fun z => by
  obtain ⟨st, dg, c, e2, _⟩ := u.ex
  rw [← z, e] at e2
  cases e2) e
theorem al_N {H H' : Hp} (s : LamX.ExtN H H') : ∀ {n : Nat} {x y : V}, Al H n x y → Al H' n x y
  | 0, _, _, h => h
  | n + 1, x, y, h => by
    have go : ∀ {xs ys : List V}, Paired (Al H n) xs ys → Paired (Al H' n) xs ys := fun {xs ys} p => by
      induction p with
      | nil => exact .nil
      | cons r _ ih => exact .cons (al_N s r) ih
    rcases h with h | ⟨a, b, xs, ys, h1, h2, h3, h4, h5, h6⟩ | ⟨a, b, xs, ys, h1, h2, h3, h4, h5, h6⟩ | ⟨a, kvs, h1, h2, h3, h4⟩
    · exact .inl h
    · exact .inr (.inl ⟨a, b, xs, ys, h1, h2, s _ _ h3 (fun ps z => by cases z), s _ _ h4 (fun ps z => by cases z), h5, go h6⟩)
    · exact .inr (.inr (.inl ⟨a, b, xs, ys, h1, h2, s _ _ h3 (fun ps z => by cases z), s _ _ h4 (fun ps z => by cases z), h5, go h6⟩))
    · exact .inr (.inr (.inr ⟨a, kvs, h1, h2, s _ _ h3 (fun ps z => by cases z), h4⟩))
theorem al_two {H : Hp} {a b : Addr} {z : Str} {v : V} (ha : H a = some (.tup [.str z, v])) (hb : H b = some (.tup [.str z, v])) (hv : Al H 4 v v) : Al H 5 (.ref a) (.ref b) :=
  .inr (.inr (.inl ⟨a, b, _, _, rfl, rfl, ha, hb, Nat.le_of_ble_eq_true rfl, .cons (.inl ⟨rfl, rfl⟩) (.cons hv .nil)⟩))
theorem ArgAt.X {H H' : Hp} {p tp L Sd : Addr} {pr : Str × Bool} {ls : List (List Nat)} {ds : List Stp} (h : ArgAt H tp L Sd pr ls ds) (u : Purse H p) (s : ExtB p H H') (n1 : L ≠ p) (n2 : Sd ≠ p) : ArgAt H' tp L Sd pr ls ds := by
  obtain ⟨ts, a, b⟩ := h.eS
  exact ⟨xT u s h.ep, h.hp, s _ _ n1 h.eL (fun ps z => by cases z), h.nl, h.n6, ⟨ts, s _ _ n2 a (fun ps z => by cases z), paired_imp (fun _ _ z => xT u s z) b⟩, h.hin, h.d12, h.ok⟩
theorem join_len1 {s B : Nat} : ∀ ls : List (List Nat), (∀ l ∈ ls, l.length ≤ B) → (TL.joinL [s] ls).length ≤ ls.length * (B + 1)
  | [], _ => by simp [TL.joinL]
  | [p], h => by
    have := h p List.mem_cons_self
    simp [TL.joinL]
    omega
  | p :: q :: r, h => by
    have ih := join_len1 (s := s) (q :: r) fun l hl => h l (List.mem_cons_of_mem _ hl)
    have hp := h p List.mem_cons_self
    show (p ++ ([s] ++ TL.joinL [s] (q :: r))).length ≤ _
    rw [List.length_append, List.length_append, List.length_singleton, List.length_cons, Nat.succ_mul]
    omega
theorem page_len {d : Scr} (ok : ScOk d) (r12 : d.rws.length ≤ 12) (hr : ∀ l ∈ d.rws, l.length ≤ 60) : (scPage d).length ≤ 1000 := by
  have k20 := (kindS_len ok.knd d.knd.2).2
  have j54 : (TL.joinL [32] d.nms).length ≤ 6 * 9 := Nat.le_trans (join_len1 (B := 8) _ ok.nms) (Nat.mul_le_mul_right _ ok.nmsL)
  have := join_len1 (s := 10) (B := 60) (cds (kindS d.knd.1 d.knd.2) :: TL.joinL [32] d.nms :: d.rws) fun l hl => by
    rcases List.mem_cons.mp hl with rfl | hl
    · rw [cds_len]; omega
    · rcases List.mem_cons.mp hl with rfl | hl
      · omega
      · exact hr l hl
  simp only [List.length_cons] at this
  refine Nat.le_trans this ?_
  have : (d.rws.length + 1 + 1) * (60 + 1) ≤ 14 * 61 := Nat.mul_le_mul_right _ (by omega)
  omega
end L2.K33
set_option Elab.async false
set_option linter.all false
set_option maxRecDepth 100000
set_option maxHeartbeats 8000000
namespace L2.K33
open PySem PySem.Spec PyProof.Rows L2.Tb
open SX (S)
abbrev s_law : Stmt := top 63
abbrev N_law : List Str := ["_law_cells", "_law_steps_here", "_law_mine", "_law_k"]
theorem sc_law : FnScope N_law ["_law_cells"] (defScope s_law) := ⟨rfl, rfl, rfl, by decide +kernel, rfl, by decide +kernel, by decide +kernel⟩
theorem sq_same {K : PySem.W.Frag} {H H' : Hp} {a : Addr} {xs : List V} (h : SqL K H a xs) (s : LamX.ExtN H H') : SqL K H' a xs := by
  rcases h with (h | ⟨o, h⟩) | h
  · exact .inl (.inl (s _ _ h (fun ps z => by cases z)))
  · exact .inl (.inr ⟨o, s _ _ h (fun ps z => by cases z)⟩)
  · exact .inr h
theorem rep_succ' {b : V} {j : Nat} : List.replicate j b ++ [b] = List.replicate (j + 1) b := (List.replicate_succ').symm
def ls0 : List (List Nat) := [cds (Str.ofString "a"), cds (Str.ofString "b")]
def ds0 : List Stp := [.tst false 0 1 2, .cp 0 0, .tst true 0 1 5, .op 0 0 0 1, .cp 1 0, .tst false 0 0 8, .cp 0 1, .go 8, .tst false 1 1 10, .cp 1 1, .go 12, .cp 0 1]
theorem nl0 : NamesL ls0 := ⟨by decide +kernel, by decide +kernel⟩
def stAtB (w m k : Nat) : Stp → Bool
  | .tst _ a b g => decide (a < w) && (decide (b < w) && (decide (k + 2 ≤ g) && decide (g ≤ m)))
  | .go g => decide (k + 1 ≤ g) && decide (g ≤ m)
  | .cp a b => decide (a < w) && decide (b < w)
  | .op s a b c => decide (s < 3) && (decide (a < w) && (decide (b < w) && decide (c < w)))
theorem stAtB_ok {w m k : Nat} {d : Stp} (h : stAtB w m k d = true) : StAt w m k d := by
  cases d <;> simpa [stAtB, StAt] using h
theorem sl0 : StepsL ls0.length ds0.length ds0 := by
  refine ⟨fun k d hk => ?_, by decide⟩
  have all : ∀ k : Nat, k < 12 → ∀ d, ds0[k]? = some d → stAtB 2 12 k d = true := by
    intro k hk d hd
    rcases (show k = 0 ∨ k = 1 ∨ k = 2 ∨ k = 3 ∨ k = 4 ∨ k = 5 ∨ k = 6 ∨ k = 7 ∨ k = 8 ∨ k = 9 ∨ k = 10 ∨ k = 11 by omega) with rfl | rfl | rfl | rfl | rfl | rfl | rfl | rfl | rfl | rfl | rfl | rfl <;> (cases hd; rfl)
  exact stAtB_ok (all k (List.getElem?_eq_some_iff.mp hk).1 d hk)
theorem w12 : (waysI (nxS ds0) 12).length = 16 := by
  unfold waysI
  rw [(ordI_perm _).length_eq, List.length_map]
  decide +kernel
theorem w11 : waysI (nxS ds0) 11 = [] := by
  have e : ways (nxS ds0) 11 0 = [] := by decide +kernel
  unfold waysI
  rw [e]
  exact (ordI_perm _).eq_nil
theorem w0 : waysI (nxS ds0) 0 = [[]] := by
  have e : ways (nxS ds0) 0 0 = [[]] := ways_row
  unfold waysI
  rw [e]
  exact List.perm_singleton.mp (ordI_perm _)
def spLaw (K : PySem.W.Frag) (T : List (Addr × Str)) : Sp := fun vs H Q _ => ∃ (a : Addr) (ns : List Int), vs = [.ref a] ∧ SqL K H a (ns.map V.int) ∧ (∀ z ∈ ns, iBits z ≤ 1048576) ∧ ns.length ≤ 63 ∧ LamX.Tabs T H ∧ ∀ H' : Hp, Q (.bl true) H'
section
variable {P : Program} {w : World} {K : PySem.W.Frag} {mg : Str → Option Value} {base : Heap} {f : Addr} {fd : FuncData} {TL9 : List (Addr × Str)} {A : Around} {C SC CJ : Addr}
theorem r_law (T : Bt mg) (SF : ScF K mg SC) (WY : WyF P w K mg base C SC CJ) (F : FnP K "law" s_law f fd) (hroom : Room 15 A) (hg : A.guards = some []) (k_cell : Cal P w K mg base 1 "_law_cell" (spCell K)) (k_purse : Cal P w K mg base 1 "_law_purse" spPurse) (k_script : Cal P w K mg base 7 "_law_script" (spScript C SC))
    (g_ways_right : CalG P w K mg base 8 "_law_ways_right" (spWaysRight C SC)) (g_right : CalG P w K mg base 13 "_law_right" (spTR TL9)) : RunsAt P w K mg base f fd ["_law_cells"] (spLaw K TL9) A := by
  have hnd := sc_law.nd
  obtain ⟨gw, fdw, WM, WF, W1, WB, WK⟩ := WY.mw
  refine runs_body F sc_law hroom fun cdv outer s H vs Q E hr h => ?_
  have free : (A.deeper (envOfC "law" (defScope s_law) s.heap.objs.size f cdv)).guards = some [] := hg
  obtain ⟨a, ns, rfl, hs, hb, hl, hT, q⟩ := h
  refine ⟨_, PSs.nox (pss_cons (ps_set (i := 1) hnd rfl (by first | exact Or.inl rfl | exact Or.inr rfl) (pe_lst (pa_cons (pe_tup (pa_cons pe_str (pa_cons pe_int (pa_cons pe_int (pa_cons pe_int pa_nil))))) (pa_cons (pe_tup (pa_cons pe_str (pa_cons pe_int (pa_cons pe_int pa_nil)))) (pa_cons (pe_tup (pa_cons pe_str (pa_cons pe_int (pa_cons pe_int (pa_cons pe_int pa_nil))))) (pa_cons (pe_tup (pa_cons pe_str (pa_cons pe_int (pa_cons pe_int (pa_cons pe_int pa_nil))))) (pa_cons (pe_tup (pa_cons pe_str (pa_cons pe_int (pa_cons pe_int pa_nil)))) (pa_cons (pe_tup (pa_cons pe_str (pa_cons pe_int (pa_cons pe_int (pa_cons pe_int pa_nil))))) pa_nil))))))))
      (pss_cons (ps_set (i := 1) hnd rfl (by first | exact Or.inl rfl | exact Or.inr rfl) (pe_op op_cat (pv 1) (pe_lst (pa_cons (pe_tup (pa_cons pe_str (pa_cons pe_int (pa_cons pe_int pa_nil)))) (pa_cons (pe_tup (pa_cons pe_str (pa_cons pe_int pa_nil))) (pa_cons (pe_tup (pa_cons pe_str (pa_cons pe_int (pa_cons pe_int (pa_cons pe_int pa_nil))))) (pa_cons (pe_tup (pa_cons pe_str (pa_cons pe_int (pa_cons pe_int pa_nil)))) (pa_cons (pe_tup (pa_cons pe_str (pa_cons pe_int pa_nil))) (pa_cons (pe_tup (pa_cons pe_str (pa_cons pe_int (pa_cons pe_int pa_nil)))) pa_nil)))))))))
      (pss_cons (ps_set (i := 2) hnd rfl (by first | exact Or.inl rfl | exact Or.inr rfl) (pe_cal k_script hr (by omega) (by rfl) (pa_cons (pe_tup (pa_cons pe_str (pa_cons pe_bl pa_nil))) (pa_cons (pe_lst (pa_cons pe_str (pa_cons pe_str pa_nil))) (pa_cons (pv 1) pa_nil)))))
      (pss_cons (ps_if (PW.pt (pw_or (pt_cmpR op_ne (pe_callB call_len_seq (by rfl) T.m_len (by decide +kernel) (pa_cons (pe_listG (nm := "list") (E := fun _ _ _ => False) (pgen_meth (pv 2) SF.cls WM WF (hr.mono (by omega)) WB .nil (pa_cons pe_int pa_nil)) pass_none (fun _ _ _ h => h.elim) (hr.mono (by decide)) (by rfl) T.m_list rfl) pa_nil)) pe_int (nomark _)) (pw_or (pt_cmpR (show OpR _ (compareOp .NotEq) (rNeD K) from op_neD hr.units) (pe_listG (nm := "list") (E := fun _ _ _ => False) (pgen_meth (pv 2) SF.cls WM WF (hr.mono (by omega)) WB .nil (pa_cons pe_int pa_nil)) pass_none (fun _ _ _ h => h.elim) (hr.mono (by decide)) (by rfl) T.m_list rfl) (pe_lst pa_nil) (nomark _)) (pw_or1 (pt_cmpR (show OpR _ (compareOp .NotEq) (rNeD K) from op_neD hr.units) (pe_listG (nm := "list") (E := fun _ _ _ => False) (pgen_meth (pv 2) SF.cls WM WF (hr.mono (by omega)) WB .nil (pa_cons pe_int pa_nil)) pass_none (fun _ _ _ h => h.elim) (hr.mono (by decide)) (by rfl) T.m_list rfl) (pe_lst (pa_cons (pe_tup pa_nil) pa_nil)) (nomark _))))))
      (pss_one (ps_ret pe_bl))
      pss_nil)
      (pss_cons (ps_if (pt_not (pt_val (pe_calG g_ways_right hr (by omega) free (by rfl) (pa_cons (pv 2) (pa_cons (pv 1) pa_nil)))))
      (pss_one (ps_ret pe_bl))
      pss_nil)
      (pss_one (ps_ret (pe_callB (cr_all (by rfl)) (by rfl) T.m_all (by decide +kernel) (pa_cons (pe_lc (own := [("_law_k", 3)]) (tt := tYes) (by rfl) hnd (pi_range1 (by rfl) T.m_range (pa_cons (pe_callB (call_max2 (by rfl)) (by rfl) T.m_max (by decide +kernel) (pa_cons pe_int (pa_cons (pe_callB (call_min2 (by rfl)) (by rfl) T.m_min (by decide +kernel) (pa_cons (pe_callB call_len_seq (by rfl) T.m_len (by decide +kernel) (pa_cons (pv 0) pa_nil)) (pa_cons pe_int pa_nil))) pa_nil))) pa_nil)) (blkOk_by (own := [("_law_k", 3)]) (N := N_law) (sc := defScope s_law) (by decide +kernel)) (fun _ _ _ _ _ => (pg_name (i := 3) hnd rfl (by first | exact Or.inl rfl | exact Or.inr rfl))) (fun _ _ _ _ _ => pts_nil) (fun _ _ _ _ _ => (pe_calG g_right hr (by omega) free (by rfl) (pa_cons (pe_cal k_purse hr (by omega) (by rfl) (pa_cons (pe_cal k_cell hr (by omega) (by rfl) (pa_cons (pv 0) (pa_cons (pv 3) pa_nil))) pa_nil)) pa_nil)))) pa_nil))))))))), ?_⟩
  have z0 : Same H H := Same.refl H
  have p0 : Paired (fun t d => StepAt H t d) ([] : List Addr) ([] : List Stp) := .nil
  refine ⟨Nat.le_of_ble_eq_true rfl, fun t1 n1 => ?_⟩
  have y1 := same_new (o := .tup [.str (Str.ofString "same"), .int 0, .int 1, .int 2]) n1
  have p1 : Paired (fun t d => StepAt (upd H t1 (.tup [.str (Str.ofString "same"), .int 0, .int 1, .int 2])) t d) ([] ++ [t1]) ([] ++ [Stp.tst false 0 1 2]) := Paired.snoc (paired_imp (fun _ _ z => y1 _ _ z) p0) (show StepAt _ t1 (Stp.tst false 0 1 2) from upd_same.trans rfl)
  have p1 : Paired (fun t d => StepAt (upd H t1 (.tup [.str (Str.ofString "same"), .int 0, .int 1, .int 2])) t d) [t1] [Stp.tst false 0 1 2] := p1
  replace z0 := z0.trans y1
  generalize upd H t1 (.tup [.str (Str.ofString "same"), .int 0, .int 1, .int 2]) = H1 at z0 p1 ⊢
  refine ⟨Nat.le_of_ble_eq_true rfl, fun t2 n2 => ?_⟩
  have y2 := same_new (o := .tup [.str (Str.ofString "="), .int 0, .int 0]) n2
  have p2 : Paired (fun t d => StepAt (upd H1 t2 (.tup [.str (Str.ofString "="), .int 0, .int 0])) t d) ([t1] ++ [t2]) ([Stp.tst false 0 1 2] ++ [Stp.cp 0 0]) := Paired.snoc (paired_imp (fun _ _ z => y2 _ _ z) p1) (show StepAt _ t2 (Stp.cp 0 0) from upd_same.trans rfl)
  have p2 : Paired (fun t d => StepAt (upd H1 t2 (.tup [.str (Str.ofString "="), .int 0, .int 0])) t d) [t1, t2] [Stp.tst false 0 1 2, Stp.cp 0 0] := p2
  replace z0 := z0.trans y2
  generalize upd H1 t2 (.tup [.str (Str.ofString "="), .int 0, .int 0]) = H2 at z0 p2 ⊢
  refine ⟨Nat.le_of_ble_eq_true rfl, fun t3 n3 => ?_⟩
  have y3 := same_new (o := .tup [.str (Str.ofString "unlike"), .int 0, .int 1, .int 5]) n3
  have p3 : Paired (fun t d => StepAt (upd H2 t3 (.tup [.str (Str.ofString "unlike"), .int 0, .int 1, .int 5])) t d) ([t1, t2] ++ [t3]) ([Stp.tst false 0 1 2, Stp.cp 0 0] ++ [Stp.tst true 0 1 5]) := Paired.snoc (paired_imp (fun _ _ z => y3 _ _ z) p2) (show StepAt _ t3 (Stp.tst true 0 1 5) from upd_same.trans rfl)
  have p3 : Paired (fun t d => StepAt (upd H2 t3 (.tup [.str (Str.ofString "unlike"), .int 0, .int 1, .int 5])) t d) [t1, t2, t3] [Stp.tst false 0 1 2, Stp.cp 0 0, Stp.tst true 0 1 5] := p3
  replace z0 := z0.trans y3
  generalize upd H2 t3 (.tup [.str (Str.ofString "unlike"), .int 0, .int 1, .int 5]) = H3 at z0 p3 ⊢
  refine ⟨Nat.le_of_ble_eq_true rfl, fun t4 n4 => ?_⟩
  have y4 := same_new (o := .tup [.str (Str.ofString "*"), .int 0, .int 0, .int 1]) n4
  have p4 : Paired (fun t d => StepAt (upd H3 t4 (.tup [.str (Str.ofString "*"), .int 0, .int 0, .int 1])) t d) ([t1, t2, t3] ++ [t4]) ([Stp.tst false 0 1 2, Stp.cp 0 0, Stp.tst true 0 1 5] ++ [Stp.op 0 0 0 1]) := Paired.snoc (paired_imp (fun _ _ z => y4 _ _ z) p3) (show StepAt _ t4 (Stp.op 0 0 0 1) from upd_same.trans rfl)
  have p4 : Paired (fun t d => StepAt (upd H3 t4 (.tup [.str (Str.ofString "*"), .int 0, .int 0, .int 1])) t d) [t1, t2, t3, t4] [Stp.tst false 0 1 2, Stp.cp 0 0, Stp.tst true 0 1 5, Stp.op 0 0 0 1] := p4
  replace z0 := z0.trans y4
  generalize upd H3 t4 (.tup [.str (Str.ofString "*"), .int 0, .int 0, .int 1]) = H4 at z0 p4 ⊢
  refine ⟨Nat.le_of_ble_eq_true rfl, fun t5 n5 => ?_⟩
  have y5 := same_new (o := .tup [.str (Str.ofString "="), .int 1, .int 0]) n5
  have p5 : Paired (fun t d => StepAt (upd H4 t5 (.tup [.str (Str.ofString "="), .int 1, .int 0])) t d) ([t1, t2, t3, t4] ++ [t5]) ([Stp.tst false 0 1 2, Stp.cp 0 0, Stp.tst true 0 1 5, Stp.op 0 0 0 1] ++ [Stp.cp 1 0]) := Paired.snoc (paired_imp (fun _ _ z => y5 _ _ z) p4) (show StepAt _ t5 (Stp.cp 1 0) from upd_same.trans rfl)
  have p5 : Paired (fun t d => StepAt (upd H4 t5 (.tup [.str (Str.ofString "="), .int 1, .int 0])) t d) [t1, t2, t3, t4, t5] [Stp.tst false 0 1 2, Stp.cp 0 0, Stp.tst true 0 1 5, Stp.op 0 0 0 1, Stp.cp 1 0] := p5
  replace z0 := z0.trans y5
  generalize upd H4 t5 (.tup [.str (Str.ofString "="), .int 1, .int 0]) = H5 at z0 p5 ⊢
  refine ⟨Nat.le_of_ble_eq_true rfl, fun t6 n6 => ?_⟩
  have y6 := same_new (o := .tup [.str (Str.ofString "same"), .int 0, .int 0, .int 8]) n6
  have p6 : Paired (fun t d => StepAt (upd H5 t6 (.tup [.str (Str.ofString "same"), .int 0, .int 0, .int 8])) t d) ([t1, t2, t3, t4, t5] ++ [t6]) ([Stp.tst false 0 1 2, Stp.cp 0 0, Stp.tst true 0 1 5, Stp.op 0 0 0 1, Stp.cp 1 0] ++ [Stp.tst false 0 0 8]) := Paired.snoc (paired_imp (fun _ _ z => y6 _ _ z) p5) (show StepAt _ t6 (Stp.tst false 0 0 8) from upd_same.trans rfl)
  have p6 : Paired (fun t d => StepAt (upd H5 t6 (.tup [.str (Str.ofString "same"), .int 0, .int 0, .int 8])) t d) [t1, t2, t3, t4, t5, t6] [Stp.tst false 0 1 2, Stp.cp 0 0, Stp.tst true 0 1 5, Stp.op 0 0 0 1, Stp.cp 1 0, Stp.tst false 0 0 8] := p6
  replace z0 := z0.trans y6
  generalize upd H5 t6 (.tup [.str (Str.ofString "same"), .int 0, .int 0, .int 8]) = H6 at z0 p6 ⊢
  refine ⟨Nat.le_of_ble_eq_true rfl, fun S1 nS1 => gname_go ?_⟩
  try dsimp only
  have yS := same_new (o := (.lst [V.ref t1, V.ref t2, V.ref t3, V.ref t4, V.ref t5, V.ref t6])) nS1
  have eS1 := upd_same (H := H6) (a := S1) (o := (.lst [V.ref t1, V.ref t2, V.ref t3, V.ref t4, V.ref t5, V.ref t6]))
  have p6 := paired_imp (S := fun t d => StepAt (upd H6 S1 (.lst [V.ref t1, V.ref t2, V.ref t3, V.ref t4, V.ref t5, V.ref t6])) t d) (fun _ _ z => yS _ _ z) p6
  replace z0 := z0.trans yS
  generalize upd H6 S1 (.lst [V.ref t1, V.ref t2, V.ref t3, V.ref t4, V.ref t5, V.ref t6]) = H6b at z0 p6 eS1 ⊢
  refine ⟨_, rfl, ?_⟩
  refine ⟨Nat.le_of_ble_eq_true rfl, fun t7 n7 => ?_⟩
  have y7 := same_new (o := .tup [.str (Str.ofString "="), .int 0, .int 1]) n7
  have p7 : Paired (fun t d => StepAt (upd H6b t7 (.tup [.str (Str.ofString "="), .int 0, .int 1])) t d) ([t1, t2, t3, t4, t5, t6] ++ [t7]) ([Stp.tst false 0 1 2, Stp.cp 0 0, Stp.tst true 0 1 5, Stp.op 0 0 0 1, Stp.cp 1 0, Stp.tst false 0 0 8] ++ [Stp.cp 0 1]) := Paired.snoc (paired_imp (fun _ _ z => y7 _ _ z) p6) (show StepAt _ t7 (Stp.cp 0 1) from upd_same.trans rfl)
  have p7 : Paired (fun t d => StepAt (upd H6b t7 (.tup [.str (Str.ofString "="), .int 0, .int 1])) t d) [t1, t2, t3, t4, t5, t6, t7] [Stp.tst false 0 1 2, Stp.cp 0 0, Stp.tst true 0 1 5, Stp.op 0 0 0 1, Stp.cp 1 0, Stp.tst false 0 0 8, Stp.cp 0 1] := p7
  replace z0 := z0.trans y7
  have eS1 := y7 _ _ eS1
  generalize upd H6b t7 (.tup [.str (Str.ofString "="), .int 0, .int 1]) = H7 at z0 p7 eS1 ⊢
  refine ⟨Nat.le_of_ble_eq_true rfl, fun t8 n8 => ?_⟩
  have y8 := same_new (o := .tup [.str (Str.ofString "go"), .int 8]) n8
  have p8 : Paired (fun t d => StepAt (upd H7 t8 (.tup [.str (Str.ofString "go"), .int 8])) t d) ([t1, t2, t3, t4, t5, t6, t7] ++ [t8]) ([Stp.tst false 0 1 2, Stp.cp 0 0, Stp.tst true 0 1 5, Stp.op 0 0 0 1, Stp.cp 1 0, Stp.tst false 0 0 8, Stp.cp 0 1] ++ [Stp.go 8]) := Paired.snoc (paired_imp (fun _ _ z => y8 _ _ z) p7) (show StepAt _ t8 (Stp.go 8) from upd_same.trans rfl)
  have p8 : Paired (fun t d => StepAt (upd H7 t8 (.tup [.str (Str.ofString "go"), .int 8])) t d) [t1, t2, t3, t4, t5, t6, t7, t8] [Stp.tst false 0 1 2, Stp.cp 0 0, Stp.tst true 0 1 5, Stp.op 0 0 0 1, Stp.cp 1 0, Stp.tst false 0 0 8, Stp.cp 0 1, Stp.go 8] := p8
  replace z0 := z0.trans y8
  have eS1 := y8 _ _ eS1
  generalize upd H7 t8 (.tup [.str (Str.ofString "go"), .int 8]) = H8 at z0 p8 eS1 ⊢
  refine ⟨Nat.le_of_ble_eq_true rfl, fun t9 n9 => ?_⟩
  have y9 := same_new (o := .tup [.str (Str.ofString "same"), .int 1, .int 1, .int 10]) n9
  have p9 : Paired (fun t d => StepAt (upd H8 t9 (.tup [.str (Str.ofString "same"), .int 1, .int 1, .int 10])) t d) ([t1, t2, t3, t4, t5, t6, t7, t8] ++ [t9]) ([Stp.tst false 0 1 2, Stp.cp 0 0, Stp.tst true 0 1 5, Stp.op 0 0 0 1, Stp.cp 1 0, Stp.tst false 0 0 8, Stp.cp 0 1, Stp.go 8] ++ [Stp.tst false 1 1 10]) := Paired.snoc (paired_imp (fun _ _ z => y9 _ _ z) p8) (show StepAt _ t9 (Stp.tst false 1 1 10) from upd_same.trans rfl)
  have p9 : Paired (fun t d => StepAt (upd H8 t9 (.tup [.str (Str.ofString "same"), .int 1, .int 1, .int 10])) t d) [t1, t2, t3, t4, t5, t6, t7, t8, t9] [Stp.tst false 0 1 2, Stp.cp 0 0, Stp.tst true 0 1 5, Stp.op 0 0 0 1, Stp.cp 1 0, Stp.tst false 0 0 8, Stp.cp 0 1, Stp.go 8, Stp.tst false 1 1 10] := p9
  replace z0 := z0.trans y9
  have eS1 := y9 _ _ eS1
  generalize upd H8 t9 (.tup [.str (Str.ofString "same"), .int 1, .int 1, .int 10]) = H9 at z0 p9 eS1 ⊢
  refine ⟨Nat.le_of_ble_eq_true rfl, fun t10 n10 => ?_⟩
  have y10 := same_new (o := .tup [.str (Str.ofString "="), .int 1, .int 1]) n10
  have p10 : Paired (fun t d => StepAt (upd H9 t10 (.tup [.str (Str.ofString "="), .int 1, .int 1])) t d) ([t1, t2, t3, t4, t5, t6, t7, t8, t9] ++ [t10]) ([Stp.tst false 0 1 2, Stp.cp 0 0, Stp.tst true 0 1 5, Stp.op 0 0 0 1, Stp.cp 1 0, Stp.tst false 0 0 8, Stp.cp 0 1, Stp.go 8, Stp.tst false 1 1 10] ++ [Stp.cp 1 1]) := Paired.snoc (paired_imp (fun _ _ z => y10 _ _ z) p9) (show StepAt _ t10 (Stp.cp 1 1) from upd_same.trans rfl)
  have p10 : Paired (fun t d => StepAt (upd H9 t10 (.tup [.str (Str.ofString "="), .int 1, .int 1])) t d) [t1, t2, t3, t4, t5, t6, t7, t8, t9, t10] [Stp.tst false 0 1 2, Stp.cp 0 0, Stp.tst true 0 1 5, Stp.op 0 0 0 1, Stp.cp 1 0, Stp.tst false 0 0 8, Stp.cp 0 1, Stp.go 8, Stp.tst false 1 1 10, Stp.cp 1 1] := p10
  replace z0 := z0.trans y10
  have eS1 := y10 _ _ eS1
  generalize upd H9 t10 (.tup [.str (Str.ofString "="), .int 1, .int 1]) = H10 at z0 p10 eS1 ⊢
  refine ⟨Nat.le_of_ble_eq_true rfl, fun t11 n11 => ?_⟩
  have y11 := same_new (o := .tup [.str (Str.ofString "go"), .int 12]) n11
  have p11 : Paired (fun t d => StepAt (upd H10 t11 (.tup [.str (Str.ofString "go"), .int 12])) t d) ([t1, t2, t3, t4, t5, t6, t7, t8, t9, t10] ++ [t11]) ([Stp.tst false 0 1 2, Stp.cp 0 0, Stp.tst true 0 1 5, Stp.op 0 0 0 1, Stp.cp 1 0, Stp.tst false 0 0 8, Stp.cp 0 1, Stp.go 8, Stp.tst false 1 1 10, Stp.cp 1 1] ++ [Stp.go 12]) := Paired.snoc (paired_imp (fun _ _ z => y11 _ _ z) p10) (show StepAt _ t11 (Stp.go 12) from upd_same.trans rfl)
  have p11 : Paired (fun t d => StepAt (upd H10 t11 (.tup [.str (Str.ofString "go"), .int 12])) t d) [t1, t2, t3, t4, t5, t6, t7, t8, t9, t10, t11] [Stp.tst false 0 1 2, Stp.cp 0 0, Stp.tst true 0 1 5, Stp.op 0 0 0 1, Stp.cp 1 0, Stp.tst false 0 0 8, Stp.cp 0 1, Stp.go 8, Stp.tst false 1 1 10, Stp.cp 1 1, Stp.go 12] := p11
  replace z0 := z0.trans y11
  have eS1 := y11 _ _ eS1
  generalize upd H10 t11 (.tup [.str (Str.ofString "go"), .int 12]) = H11 at z0 p11 eS1 ⊢
  refine ⟨Nat.le_of_ble_eq_true rfl, fun t12 n12 => ?_⟩
  have y12 := same_new (o := .tup [.str (Str.ofString "="), .int 0, .int 1]) n12
  have p12 : Paired (fun t d => StepAt (upd H11 t12 (.tup [.str (Str.ofString "="), .int 0, .int 1])) t d) ([t1, t2, t3, t4, t5, t6, t7, t8, t9, t10, t11] ++ [t12]) ([Stp.tst false 0 1 2, Stp.cp 0 0, Stp.tst true 0 1 5, Stp.op 0 0 0 1, Stp.cp 1 0, Stp.tst false 0 0 8, Stp.cp 0 1, Stp.go 8, Stp.tst false 1 1 10, Stp.cp 1 1, Stp.go 12] ++ [Stp.cp 0 1]) := Paired.snoc (paired_imp (fun _ _ z => y12 _ _ z) p11) (show StepAt _ t12 (Stp.cp 0 1) from upd_same.trans rfl)
  have p12 : Paired (fun t d => StepAt (upd H11 t12 (.tup [.str (Str.ofString "="), .int 0, .int 1])) t d) [t1, t2, t3, t4, t5, t6, t7, t8, t9, t10, t11, t12] [Stp.tst false 0 1 2, Stp.cp 0 0, Stp.tst true 0 1 5, Stp.op 0 0 0 1, Stp.cp 1 0, Stp.tst false 0 0 8, Stp.cp 0 1, Stp.go 8, Stp.tst false 1 1 10, Stp.cp 1 1, Stp.go 12, Stp.cp 0 1] := p12
  replace z0 := z0.trans y12
  have eS1 := y12 _ _ eS1
  generalize upd H11 t12 (.tup [.str (Str.ofString "="), .int 0, .int 1]) = H12 at z0 p12 eS1 ⊢
  refine ⟨Nat.le_of_ble_eq_true rfl, fun S2 nS2 => ?_⟩
  have y20 := same_new (o := (.lst [V.ref t7, V.ref t8, V.ref t9, V.ref t10, V.ref t11, V.ref t12])) nS2
  refine ⟨S1, S2, _, _, rfl, rfl, y20 _ _ eS1, upd_same, Nat.le_of_ble_eq_true rfl, fun Sd nSd => gname_go ?_⟩
  try dsimp only
  have y21 := y20.trans (same_new (o := (.lst ([V.ref t1, V.ref t2, V.ref t3, V.ref t4, V.ref t5, V.ref t6] ++ [V.ref t7, V.ref t8, V.ref t9, V.ref t10, V.ref t11, V.ref t12]))) nSd)
  have eSd := upd_same (H := upd H12 S2 (.lst [V.ref t7, V.ref t8, V.ref t9, V.ref t10, V.ref t11, V.ref t12])) (a := Sd) (o := (.lst ([V.ref t1, V.ref t2, V.ref t3, V.ref t4, V.ref t5, V.ref t6] ++ [V.ref t7, V.ref t8, V.ref t9, V.ref t10, V.ref t11, V.ref t12])))
  have pt := paired_imp (S := fun t d => StepAt (upd (upd H12 S2 (.lst [V.ref t7, V.ref t8, V.ref t9, V.ref t10, V.ref t11, V.ref t12])) Sd (.lst ([V.ref t1, V.ref t2, V.ref t3, V.ref t4, V.ref t5, V.ref t6] ++ [V.ref t7, V.ref t8, V.ref t9, V.ref t10, V.ref t11, V.ref t12]))) t d) (fun _ _ z => y21 _ _ z) p12
  replace z0 := z0.trans y21
  generalize upd (upd H12 S2 (.lst [V.ref t7, V.ref t8, V.ref t9, V.ref t10, V.ref t11, V.ref t12])) Sd (.lst ([V.ref t1, V.ref t2, V.ref t3, V.ref t4, V.ref t5, V.ref t6] ++ [V.ref t7, V.ref t8, V.ref t9, V.ref t10, V.ref t11, V.ref t12])) = H13 at z0 pt eSd ⊢
  have eSd : H13 Sd = some (.lst ([t1, t2, t3, t4, t5, t6, t7, t8, t9, t10, t11, t12].map V.ref)) := eSd
  have pt : Paired (fun t d => StepAt H13 t d) [t1, t2, t3, t4, t5, t6, t7, t8, t9, t10, t11, t12] ds0 := pt
  refine ⟨Nat.le_of_ble_eq_true rfl, fun tp ntp => ⟨Nat.le_of_ble_eq_true rfl, fun L nL => ⟨_, rfl, ?_⟩⟩⟩
  have y22 := same_new (o := .tup [.str (Str.ofString "sides"), .bl false]) ntp
  have y23 := same_new (o := .lst [.str (Str.ofString "a"), .str (Str.ofString "b")]) nL
  have eqL : ([.str (Str.ofString "a"), .str (Str.ofString "b")] : List V) = ls0.map nmV := by
    simp only [ls0, List.map_cons, List.map_nil, ← nm_S]
  have hp0 : (Str.ofString "sides", false) ∈ pairD := by decide +kernel
  have ok0 : ScR (scOf (Str.ofString "sides", false) ls0 ds0) := scOf_right hp0 nl0 (by decide) (by decide) (by decide) (by decide) sl0
  obtain ⟨sw, wt, rl⟩ := scw_of (pr := (Str.ofString "sides", false)) nl0 (by decide) sl0
  have s24 := y22.trans y23
  refine ⟨tp, L, Sd, (Str.ofString "sides", false), ls0, ds0, rfl, ⟨y23 _ _ upd_same, hp0, by rw [upd_same, eqL], nl0, by decide, ⟨_, s24 _ _ eSd, paired_imp (fun _ _ z => s24 _ _ z) pt⟩, steps_in sl0 (by decide), by decide, ok0⟩, fun b G s10 nb sb => gname_go ?_⟩
  try dsimp only
  have s25 := s24.trans s10
  have eSd := s25 _ _ eSd
  have pt := paired_imp (S := fun t d => StepAt G t d) (fun _ _ z => s25 _ _ z) pt
  have z0 := z0.trans s25
  have wy : ∀ {G2 : Hp}, Same G G2 → ∃ dx fs, G2 b = some (.ins SC dx fs) ∧ fs.lookup (Str.ofString "ways") = none := fun {G2} s => by
    obtain ⟨dx, Tt, tk, bx, rw_, ts9, h1, _⟩ := sb.same s
    exact ⟨dx, _, h1, rfl⟩
  have rlen : (scOf (Str.ofString "sides", false) ls0 ds0).rws.length = 12 := rl
  obtain ⟨dx, fs, h1, lk⟩ := wy (Same.refl _)
  refine ⟨_, rfl, b, dx, fs, rfl, h1, lk, b, scOf (Str.ofString "sides", false) ls0 ds0, .int 12, rfl, sb, sw, .inl ⟨12, rfl, by rw [rlen]; exact Nat.le_refl _, fun vs G3 s4 pv _ => ?_⟩⟩
  rw [wt] at pv
  refine fun p np => ?_
  have l16 := pv.length
  rw [w12] at l16
  have s5 := s4.trans (same_new (o := .lst (vs.map V.ref)) np)
  refine ⟨p, _, rfl, .inl (SqL.of upd_same), rfl, _, rfl, iteN2 (by rw [List.length_map, l16]; rfl) ?_⟩
  generalize upd G3 p (.lst (vs.map V.ref)) = G4 at s5 ⊢
  obtain ⟨dx, fs, h1, lk⟩ := wy s5
  refine ⟨_, rfl, b, dx, fs, rfl, h1, lk, b, scOf (Str.ofString "sides", false) ls0 ds0, .int 11, rfl, sb.same s5, sw, .inl ⟨11, rfl, by rw [rlen]; decide, fun vs G5 s6 pv _ => ?_⟩⟩
  rw [wt, w11] at pv
  cases pv
  refine fun p np => ⟨Nat.zero_le _, fun N nN => ?_⟩
  have sp := same_new (o := .lst []) np
  have sN := same_new (o := .lst []) nN
  have s7 := ((s5.trans s6).trans sp).trans sN
  refine ⟨.list [], .list [], .lst (SqL.of (sN _ _ upd_same)) .nil, .lst (SqL.of upd_same) .nil, rfl, rfl, _, rfl, iteN2 (by simp [PyData.eqv, PyData.eqvAll]) ?_⟩
  generalize upd (upd G5 p (.lst [])) N (.lst []) = G6 at s7 ⊢
  obtain ⟨dx, fs, h1, lk⟩ := wy s7
  refine ⟨_, rfl, b, dx, fs, rfl, h1, lk, b, scOf (Str.ofString "sides", false) ls0 ds0, .int 0, rfl, sb.same s7, sw, .inl ⟨0, rfl, Nat.zero_le _, fun vs G7 s8 pv _ => ?_⟩⟩
  rw [wt, w0] at pv
  refine fun p np => ⟨Nat.zero_le _, fun u nu => ⟨Nat.le_of_ble_eq_true rfl, fun N nN => ?_⟩⟩
  have sp := same_new (o := .lst (vs.map V.ref)) np
  have su := same_new (o := .tup []) nu
  have sN := same_new (o := .lst [V.ref u]) nN
  have s9 := (((s7.trans s8).trans sp).trans su).trans sN
  have d1 : Dp K (upd (upd (upd G7 p (.lst (vs.map V.ref))) u (.tup [])) N (.lst [V.ref u])) (.ref p) (rowsD [[]]) := .lst (SqL.of (sN _ _ (su _ _ upd_same))) (dp_rows (paired_imp (fun _ _ z => TupI.same z ((sp.trans su).trans sN)) pv))
  have d2 : Dp K (upd (upd (upd G7 p (.lst (vs.map V.ref))) u (.tup [])) N (.lst [V.ref u])) (.ref N) (rowsD [[]]) := .lst (SqL.of upd_same) (.cons (dp_tup (ns := []) (SqT.of (sN _ _ upd_same))) .nil)
  refine ⟨rowsD [[]], rowsD [[]], d1, d2, rowsD_shaped _, rowsD_shaped _, _, rfl, iteN2 (by simp [rowsD, tupD, PyData.eqv, PyData.eqvAll]) ?_⟩
  generalize upd (upd (upd G7 p (.lst (vs.map V.ref))) u (.tup [])) N (.lst [V.ref u]) = G8 at s9 ⊢
  dsimp only [tNext]
  refine ⟨_, rfl, _, rfl, b, Sd, _, (Str.ofString "sides", false), ls0, ds0, rfl, sb.same s9, nl0, s9 _ _ eSd, paired_imp (fun _ _ z => s9 _ _ z) pt, sl0, by decide, fun G9 s10 => ⟨_, rfl, iteF ?_⟩⟩
  dsimp only [tNext]
  have z9 := (z0.trans s9).trans s10
  have x0 : LamX.ExtN H G9 := LamX.ExtN.of z9
  have t := hT.ext z9
  clear z0 z9 s9 s7 s5 pt eSd sb
  refine ret_go (cb_one ?_)
  refine ⟨_, rfl, a, _, rfl, .inl (sq_same hs x0), _, _, rfl, _, _, rfl, _, rfl, ?_⟩
  have hb0 : ∀ z : Int, 0 ≤ (if (if 3 < z then 3 else z) > 1 then if 3 < z then 3 else z else 1) ∧ (if (if 3 < z then 3 else z) > 1 then if 3 < z then 3 else z else 1) ≤ 4 := fun z => by
    by_cases h1 : 3 < z
    · rw [if_pos h1, if_pos (by decide)]
      decide
    · rw [if_neg h1]
      by_cases h2 : z > 1
      · rw [if_pos h2]
        omega
      · rw [if_neg h2]
        decide
  have hm := hb0 ((ns.map V.int).length : Nat)
  generalize (if (if 3 < (((ns.map V.int).length : Nat) : Int) then 3 else (((ns.map V.int).length : Nat) : Int)) > 1 then if 3 < (((ns.map V.int).length : Nat) : Int) then 3 else (((ns.map V.int).length : Nat) : Int) else 1) = m at hm ⊢
  refine ⟨by omega, by omega, fun D nD => ?_⟩
  have y0 := same_new (o := .lst []) nD
  refine lc_range (fun n H' => LamX.ExtN G9 H' ∧ LamX.Tabs TL9 H' ∧ H' D = some (.lst (List.replicate n (.bl true)))) ⟨LamX.ExtN.of y0, t.ext y0, upd_same⟩ ?_ ?_
  · rintro j G1 hj ⟨x1, t1, e1⟩
    refine ⟨rfl, ?_⟩
    unfold tYes
    dsimp only
    rw [if_pos rfl]
    refine ⟨_, rfl, _, rfl, a, ns, j, by rw [Int.zero_add]; rfl, sq_same hs (x0.trans x1), hb, by omega, fun z G2 s2 hz => ⟨z, rfl, hz, fun p G3 s3 np hp => ⟨p, rfl, hp, (t1.ext s2).ext s3, fun G4 y4 u4 t4 => ?_⟩⟩⟩
    have x24 : LamX.ExtN G2 G4 := fun b o e n => y4 b o (ne_of_none e np) (s3 b o e) n
    have x14 := (LamX.ExtN.of s2).trans x24
    have e4 := x14 _ _ e1 (fun ps z => by cases z)
    refine ⟨_, e4, by rw [List.length_replicate, sizeLine_eq]; omega, ?_, ?_, by rw [upd_same, rep_succ']⟩
    · intro b o e n
      rw [upd_ne (ne_of_none e nD)]
      exact (x1.trans x14) b o e n
    · have out : ∀ {b o}, G4 b = some o → (∀ xs, o ≠ .lst xs) → (upd G4 D (.lst (List.replicate j (.bl true) ++ [.bl true]))) b = some o := fun {b o} eb no => by
        rw [upd_ne fun z => ?_]
        · exact eb
        · rw [z, e4] at eb
          exact no _ (Option.some.inj eb).symm
      intro q' hq
      obtain ⟨ps, h1, h2, h3⟩ := t4 q' hq
      refine ⟨ps, out h1 (fun xs z => by cases z), h2, fun pos cv hc => ?_⟩
      obtain ⟨c', y1, y2⟩ := h3 pos cv hc
      refine ⟨c', y1, out y2 fun xs z => ?_⟩
      unfold LamX.CodeO at z
      cases z
  · rintro G1 ⟨x1, t1, e1⟩
    refine ⟨D, List.replicate _ true, rfl, SqL.of (by rw [e1, List.map_replicate]), ?_⟩
    rw [show (List.replicate m.toNat true).all id = true from List.all_eq_true.mpr fun b' hb' => by rw [List.eq_of_mem_replicate hb']; rfl]
    exact q _
end
end L2.K33
set_option Elab.async false
set_option linter.all false
set_option maxRecDepth 100000
set_option maxHeartbeats 4000000
/-! x op y by the own method of x's class, y of a built-in type, what is raised passes -/
namespace L2.Tb
open PySem PySem.Spec PyProof.Rows PySem.W
/-- what the built-in type says of the operator -/
structure Rgt (K : PySem.W.Frag) (C : Addr) (op : Operator) (T : String) : Prop where
  own : ∃ o, findIn K (.type T) (PySem.dunder op.info.2) = some o
  ref : ∃ o, findIn K (.type T) (dunderR op.info.2) = some o
  sub : subIn K (.type T) (.ref C) = some false
section
variable {prog : Program} {w : World} {A : Around} {E : Value → Shared → Prop} {s : Shared} {K : Frag} {x C L f : Addr} {hp : Heap} {m : Str → Option Value} {ox : Obj} {od : Option Obj} {T : String} {op : Operator} {y : Value} {Q : Value → Shared → Prop}
theorem bin_left (F : Fr hp L s.heap m) (hK : K.In hp) (J : InstAt s.heap x ox C od) (ty : Looks (model prog w) s.heap (typeOf y) (.type T)) (sf : selfFirst K C = true) (hs : findIn K (.ref C) (PySem.dunder op.info.2) = some (some (.ref f)))
    (hf : isFn K (.ref f) = true) (hr : findIn K (.ref C) (dunderR op.info.2) = some none) (R : Rgt K C op T) (h : wpAny (model prog w) A (call (.ref f) [.ref x, y]) (PySem.W.CmpBack Q) E s) : wpAny (model prog w) A (binaryOp op (.ref x) y) Q E s := by
  have kin := hK.keeps F.keep
  obtain ⟨cd, tl, e1, e2⟩ := ksp_first sf
  obtain ⟨o1, t1⟩ := R.own
  obtain ⟨o2, t2⟩ := R.ref
  have t3 := R.sub
  rcases ei : op.info with ⟨sg, nm⟩
  rw [ei] at hs hr t1 t2
  dsimp only at hs hr t1 t2
  have go := ksp_try kin J hs hf h
  obtain ⟨hh, gn, dr, tk, os⟩ := s
  have a1 : Looks (model prog w) hh (typeOf (.ref x)) (.ref C) := J.type
  have a3 : Looks (model prog w) hh (fillsNumberSlot (.ref C) nm) true := fills_K kin e1 e2 hs
  have a4 := ksp_fillsT (M := model prog w) kin t1 t2
  have a5 : Looks (model prog w) hh (isSubtype (.type T) (.ref C)) false := looks_subIn kin t3
  have a6 : Looks (model prog w) hh (numberSlotInPython (.ref C) nm) true := ksp_inPy kin hs hr (.inl rfl)
  have a7 : Looks (model prog w) hh (numberSlotInPython (.type T) nm) false := Looks.of_pure rfl
  have a8 : Looks (model prog w) hh (typeLookup (.type T) (dunderR nm)) o2 := looks_findIn kin t2
  generalize ((o1.isSome && !isSeqSlot o1) || (o2.isSome && !isSeqSlot o2)) = rt at a4
  have ne : (Value.ref C == Value.type T) = false := by
    cases hq : (Value.ref C == Value.type T) with
    | false => rfl
    | true => cases beq_iff_eq.mp hq
  simp only [binaryOp, ei]
  refine wpAny_holding (wpAny_bind ?_)
  unfold binaryOp1
  refine wpAny_bind (a1.at (wpAny_bind (ty.at (wpAny_bind (a3.at ?_)))))
  simp only [ne, Bool.false_eq_true, if_false]
  cases rt
  all_goals
    ksp_lk
    refine wpAny_mono go (fun r s2 hv => ?_) fun _ _ e => e
    obtain ⟨v, rfl, qv⟩ := hv
    ksp_lk
    exact qv
end
section
variable {X : Cx} {CX : CXT} {C f : Addr} {fd : FuncData} {ps : List Str} {sp : Sp} {k : Nat} {op : Operator} {E : XK}
def rOwnBinX (K : PySem.W.Frag) (C : Addr) (op : Operator) (sp : Sp) (E : XK) : R2 := fun x y H Q => ∃ (a dx : Addr) (fs : List (Str × V)) (T : String), x = .ref a ∧ H a = some (.ins C dx fs) ∧ TyX K H y (.type T) ∧ Rgt K C op T ∧ sp [.ref a, y] H Q E
theorem op_ownBinX (F : FnOk X.prog X.w X.K X.mg X.base CX k f fd ps sp) (hr : Room k X.A) (sf : selfFirst X.K C = true) (hs : findIn X.K (.ref C) (PySem.dunder op.info.2) = some (some (.ref f))) (hf : isFn X.K (.ref f) = true)
    (hrr : findIn X.K (.ref C) (dunderR op.info.2) = some none) (hb : Binds X.K fd ps []) (hx : Passes CX X E) : OpR X (binaryOp op) (rOwnBinX X.K C op sp E) := by
  intro pins s σ H x y v u Q I rx ry h
  obtain ⟨a, dx, fs, T, rfl, ea, ty, R, h⟩ := h
  obtain rfl : v = Value.ref a := rx
  obtain ⟨mA, O, _⟩ := ins_get I.hok ea
  obtain ⟨od, J, _⟩ := O.look
  obtain ⟨m, hF⟩ := I.fr
  obtain ⟨Pt, kt, pt, _⟩ := kit_of I ry ty
  have hl := F.len _ _ _ _ h
  refine bin_left hF I.ok.mod.kin J (kt.ty _ _ I.kIn pt) sf hs hf hrr R (wpAny_call (codeAny_mono (F.run X.A X.stack s H ⟨[.ref a, u], []⟩ [.ref a, u] [.ref a, y] _ E hr I.env0 (by
    have z := hb s [.ref a, u] I.kIn (by simpa using hl)
    simpa using z) (.cons rfl (.cons ry .nil)) h) fun r s' hq => ?_))
  match r, hq with
  | .error e, hq => exact hx pins σ H s e s' I hq
  | .ok (.ret u2), hq =>
    obtain ⟨v2, H', I', rv, q⟩ := I.after hq
    exact cmp_back rv ⟨v2, H', I', rv, q⟩
end
end L2.Tb
set_option Elab.async false
set_option linter.all false
set_option maxRecDepth 100000
set_option maxHeartbeats 8000000
namespace L2.K33
open PySem PySem.Spec PyProof.Rows L2.Tb
open SX (S)
theorem ne_p {H : Hp} {p r : Addr} (u : Purse H p) (n : H r = none) : r ≠ p := fun z => by
  obtain ⟨st, dg, c, e, _⟩ := u.ex
  rw [z, e] at n
  cases n
theorem no_int {K : PySem.W.Frag} {H : Hp} {n : Nat} {v : V} (h : Od H (n + 1) v) : (∃ i, v = .int i) ∨ NoI K H v := by
  rcases h with h | ⟨a, xs, rfl, h2, _⟩ | ⟨a, xs, rfl, h2, _⟩ | ⟨a, kvs, rfl, h2, _⟩
  · cases v with
    | non => exact .inr ⟨"NoneType", .base .non, .inl (by decide +kernel)⟩
    | bl b => exact .inr ⟨"bool", .base (.bl b), .inr ⟨by decide +kernel, by decide +kernel⟩⟩
    | int i => exact .inl ⟨i, rfl⟩
    | str z => exact .inr ⟨"str", .base (.str z), .inl (by decide +kernel)⟩
    | _ => cases h
  · exact .inr ⟨"list", .base (.lst h2), .inl (by decide +kernel)⟩
  · exact .inr ⟨"tuple", .base (.tup h2), .inl (by decide +kernel)⟩
  · exact .inr ⟨"dict", .base (.dK h2), .inl (by decide +kernel)⟩
section
variable {P : Program} {w : World} {K : PySem.W.Frag} {mg : Str → Option Value} {base : Heap} {at_ : Str × Option Str} {fd fdt fds : FuncData} {ft fs pd gd C SC dL CT CF CX CN CI CR CJ P1 : Addr} {md : Value} {es : Array DictEntry} {n : Nat}
theorem c_right (T : Bt mg) (SF : ScF K mg SC) (WY : WyF P w K mg base C SC CJ) (TF : ToldJ K mg CJ) (nJ : PySem.W.subIn K (.ref CJ) (.type "StopIteration") = some false) (mstr : mg "str" = none)
    (Fs : FnOk P w K mg base L2.CX0 4 fs fds ["self"] (spSstr C SC)) (hs : PySem.W.findIn K (.ref SC) "__str__" = some (some (.ref fs))) (hsf : PySem.W.isFn K (.ref fs) = true) (Bs : Binds K fds ["self"] [])
    (RC : ClX.CRead K SC md) (RM : ClX.CMet K SC md "read" pd gd) (FRd : FnR P w K mg base L2.CX0 7 gd (spSread C SC))
    (Ft : FnP K "_law_told" s_told ft fdt) (mt : mg "_law_told" = some (.ref ft)) (TB : LamX.TabB base mg (He.codeOf K at_) P1)
    (k_draw : Cal P w K mg base 1 "_law_draw" spDraw) (k_odd : Cal P w K mg base 2 "_law_odd" spOdd3) (k_pairs : Cal P w K mg base 2 "_law_pairs" spPairs) (k_names : Cal P w K mg base 3 "_law_names" spNames) (k_steps : Cal P w K mg base 2 "_law_steps" spSteps)
    (k_script : Cal P w K mg base 7 "_law_script" (spScript C SC)) (g_ways_right : CalG P w K mg base 8 "_law_ways_right" (spWaysRight C SC)) (k_alike : Cal P w K mg base 6 "_law_alike" (spAlike 5))
    (F : FnP K "_law_right" s_right (He.fAd K at_) fd) (hm : mg "_law_right" = some (.ref (He.fAd K at_))) : CalG P w K mg base 13 "_law_right" (spTR (tabsT P1)) := by
  have hnd := sc_right.nd
  obtain ⟨gw, fdw, WM, WF, W1, WB, WK⟩ := WY.mw
  have b_told : Binds K fdt ["_law_act"] [] := Ft.bindsN fun _ _ _ _ _ _ us hl => match us, hl with | [_], _ => rfl
  refine calG_mkC F hm sc_right (fun _ _ _ _ _ _ us hl => match us, hl with | [_], _ => rfl) (fun vs H Q E h => ?_) (fun cdv A outer s H vs Q E hcd hg2 hr h => ?_)
  · obtain ⟨p, rfl, _⟩ := h
    rfl
  · subst hcd
    obtain ⟨p, rfl, hp, hT, q⟩ := h
    have free := hg2
    have ktold := Ft.kp
    obtain ⟨oc, od, dV, kV, doc, pm, an, cdt, ct, osl, rfl, lk, hct, _, _⟩ := id Ft.ex
    refine ⟨_, PSs.nox (pss_cons (ps_par (i := 1) (j := 2) (by rfl) hnd rfl rfl (by decide) (by rfl) (by rfl) (pa_cons (pe_ix (show IxR _ (rIxL K) from ix_list) (pe_cal0 k_pairs hr (by omega) (by rfl)) (pe_cal k_draw hr (by omega) (by rfl) (pa_cons (pv 0) (pa_cons pe_int pa_nil))) (fun _ _ => rfl)) (pa_cons (pe_op op_add pe_int (pe_cal k_draw hr (by omega) (by rfl) (pa_cons (pv 0) (pa_cons pe_int pa_nil)))) pa_nil)) (by rfl))
      (pss_cons (ps_set (i := 3) hnd rfl (by first | exact Or.inl rfl | exact Or.inr rfl) (pe_ix (show IxR _ (rIxL K) from ix_list) (pe_lst (pa_cons (pe_op op_add pe_int (pe_cal k_draw hr (by omega) (by rfl) (pa_cons (pv 0) (pa_cons pe_int pa_nil)))) (pa_cons pe_int (pa_cons pe_int pa_nil)))) (pe_cal k_draw hr (by omega) (by rfl) (pa_cons (pv 0) (pa_cons pe_int pa_nil))) (fun _ _ => rfl)))
      (pss_cons (ps_set (i := 4) hnd rfl (by first | exact Or.inl rfl | exact Or.inr rfl) (pe_cal k_names hr (by omega) (by rfl) (pa_cons (pv 0) (pa_cons (pv 2) pa_nil))))
      (pss_cons (ps_set (i := 5) hnd rfl (by first | exact Or.inl rfl | exact Or.inr rfl) (pe_cal k_steps hr (by omega) (by rfl) (pa_cons (pv 0) (pa_cons (pv 2) (pa_cons (pv 3) (pa_cons pe_int pa_nil))))))
      (pss_cons (ps_set (i := 6) hnd rfl (by first | exact Or.inl rfl | exact Or.inr rfl) (pe_cal k_script hr (by omega) (by rfl) (pa_cons (pv 1) (pa_cons (pv 4) (pa_cons (pv 5) pa_nil)))))
      (pss_cons (ps_if (PW.pt (pw_or (pt_not (pt_val (pe_calG g_ways_right hr (by omega) free (by rfl) (pa_cons (pv 6) (pa_cons (pv 5) pa_nil))))) (pw_or1 (pt_not (pt_val (pe_calG g_ways_right hr (by omega) free (by rfl) (pa_cons (ClX.pe_cmeth (pe_glob (v := .ref SC) (by rfl) SF.mgS rfl) RC RM FRd (hr.mono (by omega)) (show Passes L2.CX0 _ L2.E0 from pass0) (pa_cons (pe_callTy (show CallR _ (.type "str") (rStrOwn SC (spSstr C SC)) from call_strOwn Fs (hr.mono (by omega)) hs hsf Bs) (by rfl) mstr (by decide +kernel) (pa_cons (pv 6) pa_nil)) pa_nil)) (pa_cons (pv 5) pa_nil))))))))
      (pss_one (ps_ret pe_bl))
      pss_nil)
      (pss_cons (ps_pairL rfl (pa_cons (pe_cal k_draw hr (by omega) (by rfl) (pa_cons (pv 0) (pa_cons pe_int pa_nil))) (pa_cons (pe_cal k_odd hr (by omega) (by rfl) (pa_cons (pv 0) pa_nil)) pa_nil)) (pgs_cons (pg_name (i := 7) hnd rfl (by first | exact Or.inl rfl | exact Or.inr rfl)) (pgs_cons (pg_name (i := 8) hnd rfl (by first | exact Or.inl rfl | exact Or.inr rfl)) pgs_nil)) (by rfl) (by rfl) (by rfl))
      (pss_cons (ps_set (i := 8) hnd rfl (by first | exact Or.inl rfl | exact Or.inr rfl) (pe_ix (show IxR _ (rIxL K) from ix_list) (pe_lst (pa_cons (pv 8) (pa_cons (pe_op op_add (pv 3) pe_int) (pa_cons (pe_un un_neg pe_int) (pa_cons (pe_op op_add (pe_op op_add (pv 3) pe_int) (pe_cal k_draw hr (by omega) (by rfl) (pa_cons (pv 0) (pa_cons (pe_op op_pow pe_int pe_int) pa_nil)))) (pa_cons (pe_callTy call_str_int (by rfl) mstr (by decide +kernel) (pa_cons (pv 3) pa_nil)) pa_nil)))))) (pv 7) (fun _ _ => rfl)))
      (pss_cons (ps_if (PW.pt (pw_and (pt_val (pe_callB call_isi (by rfl) T.m_isinstance (by decide +kernel) (pa_cons (pv 8) (pa_cons (pe_bltn (v := .ty "int") (by rfl) T.m_int (by decide +kernel) rfl) pa_nil)))) (pw_and (pt_not (pt_val (pe_callB call_isi (by rfl) T.m_isinstance (by decide +kernel) (pa_cons (pv 8) (pa_cons (pe_bltn (v := .ty "bool") (by rfl) T.m_bool (by decide +kernel) rfl) pa_nil))))) (pw_and1 (pt_chain op_le op_le pe_int (pv 8) (pv 3))))))
      (pss_one (ps_ret pe_bl))
      pss_nil)
      (pss_one (ps_ret (pe_and (pe_cal k_alike hr (by omega) (by rfl) (pa_cons (LamX.pe_lamcall (T := tabsT P1) (k := 8) (P := P1) (by rfl) mt ktold lk hct b_told sc_told rfl (by first | exact .inl rfl | exact .inr (.inl rfl)) (told_gives TF) TB rfl List.mem_cons_self tabs_u1 (hr.mono (by decide)) (LamX.lamS_by (sc := defScope s_right) (by decide +kernel)) rfl (fun _ _ _ _ _ => rfl) (fun A outer s H E f c' hr5 => (pe_listG (nm := "list") (E := fun cls d H => cls = .ref CJ ∧ E cls d H) (pgen_meth (pv 6) SF.cls WM WF (hr5.mono (by decide)) WB .nil (pa_cons (pv 8) pa_nil)) (passes_call (takes_of rfl rfl rfl rfl) (fun _ _ _ _ h => h.2)) (fun cls d H h => h.1 ▸ nJ) (hr5.mono (by decide)) (by rfl) T.m_list rfl))) (pa_cons (pe_tup (pa_cons pe_str (pa_cons (pv 8) pa_nil))) pa_nil))) (pe_one (pe_calG g_ways_right hr (by omega) free (by rfl) (pa_cons (pv 6) (pa_cons (pv 5) pa_nil)))))))))))))))), ?_⟩
    refine ⟨rfl, fun lp H1 ts0 s1 e1 prs => ⟨_, rfl, p, 12, rfl, hp.same s1, by decide, by decide, fun k H2 k0 k1 s2 u2 => ?_⟩⟩
    have u1 := hp.same s1
    have l12 : ts0.length = 12 := prs.length.trans (by decide)
    obtain ⟨kn, rfl⟩ := Int.eq_ofNat_of_zero_le k0
    have kl : kn < ts0.length := by omega
    have hk : (ts0.map V.ref)[kn]? = some (.ref ts0[kn]) := by rw [List.getElem?_map, List.getElem?_eq_getElem kl]; rfl
    obtain ⟨tp, pr, ep, hpr, hta⟩ := pair_at prs hk
    rw [ep] at hk
    have hp9 : pr ∈ pairD := List.mem_of_getElem? hpr
    have e2 : H2 lp = some (.lst (ts0.map V.ref)) := by
      cases ts0 with
      | nil => exact absurd l12 (by decide)
      | cons x r => exact keepL u1 e1 (fun i z => by cases z) s2
    have hta2 : PairAt H2 tp pr := keepT u1 hta s2
    have sB2 := (SameB.of s1).trans s2
    refine ⟨lp, _, _, .ref tp, rfl, rfl, SqL.of e2, atI_nat hk, ?_⟩
    refine ⟨_, rfl, p, 6, rfl, u2, by decide, by decide, fun w0 H3 w0a w0b s3 u3 => ⟨_, _, rfl, rfl, _, _, rfl, ?_⟩⟩
    try dsimp only
    obtain ⟨wn, rfl⟩ := Int.eq_ofNat_of_zero_le w0a
    have hta3 : PairAt H3 tp pr := keepT u2 hta2 s3
    refine ⟨_, rfl, p, 12, rfl, u3, by decide, by decide, fun m0 H4 m0a m0b s4 u4 => ⟨_, _, rfl, rfl, Nat.le_of_ble_eq_true rfl, fun N nN => ?_⟩⟩
    obtain ⟨m9, rfl⟩ := Int.eq_ofNat_of_zero_le m0a
    have hta4 : PairAt H4 tp pr := keepT u3 hta3 s4
    have nNp := ne_p u4 nN
    have sN := same_new (o := .lst [(fun i j : Int => V.int (i + j)) 1 (m9 : Int), .int 12, .int 8]) nN
    have eN := upd_same (H := H4) (a := N) (o := .lst [(fun i j : Int => V.int (i + j)) 1 (m9 : Int), .int 12, .int 8])
    refine ⟨_, rfl, p, 3, rfl, u4.same sN, by decide, by decide, fun k3 H5 k3a k3b s5 u5 => ?_⟩
    obtain ⟨k9, rfl⟩ := Int.eq_ofNat_of_zero_le k3a
    have hta5 : PairAt H5 tp pr := keepT (u4.same sN) (sN _ _ hta4) s5
    have sB5 := (((sB2.trans s3).trans s4).trans (SameB.of sN)).trans s5
    have many : ∃ mn : Nat, 1 ≤ mn ∧ mn ≤ 12 ∧ [(fun i j : Int => V.int (i + j)) 1 (m9 : Int), .int 12, .int 8][k9]? = some (V.int (mn : Int)) := by
      have k3 : k9 < 3 := by omega
      match k9, k3 with
      | 0, _ => exact ⟨1 + m9, by omega, by omega, by rw [Int.natCast_add]; rfl⟩
      | 1, _ => exact ⟨12, by decide, by decide, rfl⟩
      | 2, _ => exact ⟨8, by decide, by decide, rfl⟩
      | n + 3, h => omega
    obtain ⟨mn, mn1, mn12, hmn⟩ := many
    refine ⟨N, _, _, _, rfl, rfl, SqL.of (s5 _ _ nNp eN), atI_nat hmn, gname_go ?_⟩
    try dsimp only
    refine ⟨_, rfl, _, rfl, p, 1 + wn, rfl, u5, by omega, fun ls L H6 hl nl s6 u6 nLp nL eL => gname_go ?_⟩
    try dsimp only
    have hta6 : PairAt H6 tp pr := keepT u5 hta5 s6
    refine ⟨_, rfl, _, rfl, _, rfl, p, 1 + wn, mn, rfl, u6, by omega, by omega, by omega, fun ds ts Sd H7 dl hst pt nt s7 u7 nSd nSdp eS => gname_go ?_⟩
    try dsimp only
    have hta7 : PairAt H7 tp pr := keepT u6 hta6 s7
    have eL7 := s7 _ _ nLp eL
    rw [← hl, ← dl] at hst
    have d12 : ds.length ≤ 12 := by omega
    have ok : ScR (scOf pr ls ds) := scOf_right hp9 nl (by omega) (by omega) (by omega) d12 hst
    have ar : ArgAt H7 tp L Sd pr ls ds := ⟨hta7, hp9, eL7, nl, by omega, ⟨ts, eS, pt⟩, steps_in hst d12, d12, ok⟩
    have sB7 := (sB5.trans s6).trans s7
    refine ⟨_, rfl, _, rfl, _, rfl, tp, L, Sd, pr, ls, ds, rfl, ar, fun a H8 s8 na sc => gname_go ?_⟩
    try dsimp only
    have u8 := u7.same s8
    have sB8 := sB7.trans (SameB.of s8)
    have rl : (scOf pr ls ds).rws.length = ds.length := by show (ds.map _).length = _; rw [List.length_map]
    have r60 : ∀ l ∈ (scOf pr ls ds).rws, l.length ≤ 60 := fun l hl => by
      obtain ⟨d, hd, rfl⟩ := List.mem_map.mp hl
      exact row_len nl (ar.hin d hd)
    have pgl := page_len ok.ok (by rw [rl]; exact d12) r60
    refine ⟨_, rfl, _, rfl, a, Sd, ts, pr, ls, ds, rfl, sc, nl, s8 _ _ eS, paired_imp (fun _ _ z => s8 _ _ z) pt, hst, d12, fun G1 y1 => ⟨_, rfl, iteF ?_⟩⟩
    have sc1 := sc.same y1
    obtain ⟨dx, Tt, tk, bx, rw_, ts9, h1, _⟩ := id sc1
    refine ⟨rfl, _, rfl, a, dx, _, rfl, h1, a, scOf pr ls ds, rfl, sc1, ok.ok, fun G2 y2 => ?_⟩
    refine ⟨_, rfl, scOf pr ls ds, rfl, ok, by omega, fun a2 G3 y3 na2 sc3 => ?_⟩
    have s8y := ((s8.trans y1).trans y2).trans y3
    refine ⟨_, rfl, a2, Sd, ts, pr, ls, ds, rfl, sc3, nl, s8y _ _ eS, paired_imp (fun _ _ z => s8y _ _ z) pt, hst, d12, fun G4 y4 => ⟨_, rfl, iteF ?_⟩⟩
    dsimp only [tNext]
    have y14 := ((y1.trans y2).trans y3).trans y4
    have sc4 := sc.same y14
    have u9 := u8.same y14
    have sB9 := sB8.trans (SameB.of y14)
    have ar9 := (ar.same s8).same y14
    have sT9 := s8.trans y14
    clear y1 y2 y3 y4 sc3 na2 h1 sc1
    refine ⟨_, rfl, p, 5, rfl, u9, by decide, by decide, fun k5 H9 k5a k5b s9 u10 => ?_⟩
    refine ⟨_, rfl, p, rfl, u10, fun v H10 s10 u11 od _ ot => ⟨rfl, _, _, rfl, gname_go ⟨_, _, rfl, gname_go ⟨rfl, ?_⟩⟩⟩⟩
    try dsimp only
    obtain ⟨k9, rfl⟩ := Int.eq_ofNat_of_zero_le k5a
    refine ⟨_, rfl, _, rfl, _, _, rfl, rfl, _, rfl, _, rfl, _, _, rfl, rfl, _, rfl, _, _, rfl, rfl, ⟨by decide, by decide, by decide⟩, p, _, rfl, u11, by decide, by decide, fun d11 H11 d11a d11b s11 u12 => ⟨_, _, rfl, rfl, ?_⟩⟩
    refine ⟨_, rfl, _, rfl, ?_, Nat.le_of_ble_eq_true rfl, fun N nN => ?_⟩
    · have := log_num2 (g := mn) (by omega)
      exact this
    have sT13 := (SameB.of sT9).trans ((s9.trans s10).trans s11)
    have sN := same_new (o := .lst [v, (fun i j : Int => V.int (i + j)) (mn : Int) 1, .int (-1), (fun i j : Int => V.int (i + j)) ((mn : Int) + 1) d11, .str (Str.ofString (toString (mn : Int)))]) nN
    have eN := upd_same (H := H11) (a := N) (o := .lst [v, (fun i j : Int => V.int (i + j)) (mn : Int) 1, .int (-1), (fun i j : Int => V.int (i + j)) ((mn : Int) + 1) d11, .str (Str.ofString (toString (mn : Int)))])
    have od11 : Od H11 3 v := od_X (p := p) u11 (ExtB.ofB s11) od
    have sB11 := ((sB9.trans s9).trans s10).trans s11
    have ar11 := ar9.X u9 (ExtB.ofB ((s9.trans s10).trans s11)) nLp nSdp
    have sc11 := sc4.X u9 (ExtB.ofB ((s9.trans s10).trans s11))
    have pick : ∃ vv : V, [v, (fun i j : Int => V.int (i + j)) (mn : Int) 1, .int (-1), (fun i j : Int => V.int (i + j)) ((mn : Int) + 1) d11, .str (Str.ofString (toString (mn : Int)))][k9]? = some vv ∧ Od H11 3 vv := by
      have k5 : k9 < 5 := by omega
      match k9, k5 with
      | 0, _ => exact ⟨_, rfl, od11⟩
      | 1, _ => exact ⟨_, rfl, .inl rfl⟩
      | 2, _ => exact ⟨_, rfl, .inl rfl⟩
      | 3, _ => exact ⟨_, rfl, .inl rfl⟩
      | 4, _ => exact ⟨_, rfl, .inl rfl⟩
      | n + 5, h => omega
    obtain ⟨vv, hvv, ovv⟩ := pick
    generalize [v, (fun i j : Int => V.int (i + j)) (mn : Int) 1, .int (-1), (fun i j : Int => V.int (i + j)) ((mn : Int) + 1) d11, .str (Str.ofString (toString (mn : Int)))] = lst at sN eN hvv ⊢
    have ov12 := od_X u12 (ExtB.ofS sN) ovv
    have u13 := u12.same sN
    have sB13 := sB11.trans (SameB.of sN)
    have ar13 := ar11.same sN
    have sc13 := sc11.same sN
    generalize upd H11 N (.lst lst) = H13 at sN eN ov12 u13 sB13 ar13 sc13 ⊢
    refine ⟨_, rfl, N, _, _, _, rfl, rfl, SqL.of eN, atI_nat hvv, gname_go ?_⟩
    try dsimp only
    obtain ⟨sw, wt, rl2⟩ := scw_of (pr := pr) nl d12 hst
    have x13 : ExtB p H H13 := ExtB.ofB sB13
    have t13 : LamX.Tabs (tabsT P1) H13 := tabs_B hT hp sB13
    by_cases inr_ : ∃ i : Int, vv = .int i ∧ 0 ≤ i ∧ i ≤ mn
    · obtain ⟨i, rfl, i0, i1⟩ := inr_
      refine ⟨_, rfl, _, _, _, _, _, rfl, .ty _, .base (.int i), kit_ty (by decide +kernel : kitB "int" "int" = some true), _, rfl, iteT ⟨_, rfl, _, _, _, _, _, rfl, .ty _, .base (.int i), kit_ty (by decide +kernel : kitB "int" "bool" = some false), _, rfl, iteT ?_⟩⟩
      refine ⟨_, rfl, _, _, rfl, rfl, _, rfl, iteT2 (decide_eq_true i0) ⟨_, rfl, _, _, rfl, rfl, _, rfl, iteT2 (decide_eq_true i1) ?_⟩⟩
      exact q H13 x13 u13 t13
    · have bad : ∀ {G : Hp}, ExtB p H13 G → IxBad K G vv (scOf pr ls ds).rws.length := fun {G} s => by
        rcases no_int (K := K) (od_X u13 s ov12) with ⟨i, rfl⟩ | h
        · refine .inl ⟨i, rfl, fun z => inr_ ⟨i, rfl, z.1, ?_⟩⟩
          have := z.2
          rw [rl2, dl] at this
          exact this
        · exact .inr h
      refine seqx (fun σ' G => G = H13 ∧ σ' = [some (.ref p), some (.ref tp), some (.int ((1 : Int) + (wn : Int))), some (.int (mn : Int)), some (.ref L), some (.ref Sd), some (.ref a), some (.int (k9 : Int)), some vv]) ?_ fun key => ?_
      · rintro σ' G ⟨rfl, rfl⟩
        have al : Al G 4 vv vv := (od_up ov12).al
        refine ret_go ⟨t13, fun G2 y2 w2 => ?_⟩
        have sc14 := sc13.X u13 (ExtB.ofN y2)
        obtain ⟨dx, Tt, tk, bx, rw_, ts9, h1, _⟩ := id sc14
        refine ⟨_, rfl, a, dx, _, rfl, h1, rfl, _, rfl, a, scOf pr ls ds, vv, rfl, sc14, sw, .inr ⟨bad (ExtB.ofN y2), fun d H' s n e => ⟨rfl, rfl, d, vv, rfl, e, fun T9 nT => ⟨_, rfl, Nat.le_of_ble_eq_true rfl, fun T8 n8 => ?_⟩⟩⟩⟩
        have a1 := same_new (o := .tup [.str "index", vv]) nT
        have a2 := same_new (o := .tup [.str (Str.ofString "index"), vv]) n8
        have yy := y2.trans (LamX.ExtN.of ((s.trans a1).trans a2))
        refine ⟨_, _, rfl, al_two (a2 _ _ upd_same) upd_same (al_N yy al), fun G9 s9 => ⟨_, rfl, iteT ?_⟩⟩
        have y9 := yy.trans (LamX.ExtN.of s9)
        have w9 := ((w2.ext s).ext a1).ext (a2.trans s9)
        have u14 := purse_N u13 y9
        have sc9 := sc13.X u13 (ExtB.ofN y9)
        have ar9 := ar13.X u13 (ExtB.ofN y9) nLp nSdp
        obtain ⟨ts2, eS2, pt2⟩ := ar9.eS
        refine ⟨_, rfl, _, rfl, a, Sd, ts2, pr, ls, ds, rfl, sc9, nl, eS2, pt2, hst, d12, fun G10 s10 => ?_⟩
        exact q G10 (x13.trans (ExtB.ofN (y9.trans (LamX.ExtN.of s10)))) (u14.same s10) (w9.ext s10)
      · rcases no_int (K := K) ov12 with ⟨i, rfl⟩ | ⟨Tn, ty, kk⟩
        · refine ⟨_, rfl, _, _, _, _, _, rfl, .ty _, .base (.int i), kit_ty (by decide +kernel : kitB "int" "int" = some true), _, rfl, iteT ⟨_, rfl, _, _, _, _, _, rfl, .ty _, .base (.int i), kit_ty (by decide +kernel : kitB "int" "bool" = some false), _, rfl, iteT ?_⟩⟩
          refine ⟨_, rfl, _, _, rfl, rfl, _, rfl, ?_⟩
          by_cases c0 : 0 ≤ i
          · refine iteT2 (decide_eq_true c0) ⟨_, rfl, _, _, rfl, rfl, _, rfl, iteN2 (decide_eq_false fun c1 => inr_ ⟨i, rfl, c0, c1⟩) ?_⟩
            exact key _ _ ⟨rfl, rfl⟩
          · exact iteN2 (decide_eq_false c0) ⟨_, rfl, iteF (key _ _ ⟨rfl, rfl⟩)⟩
        · rcases kk with k1 | ⟨k1, k2⟩
          · refine ⟨_, rfl, _, _, _, _, _, rfl, .ty _, ty, kit_ty k1, _, rfl, iteF ?_⟩
            exact iteF (key _ _ ⟨rfl, rfl⟩)
          · refine ⟨_, rfl, _, _, _, _, _, rfl, .ty _, ty, kit_ty k1, _, rfl, iteT ⟨_, rfl, _, _, _, _, _, rfl, .ty _, ty, kit_ty k2, _, rfl, iteF ?_⟩⟩
            exact iteF (key _ _ ⟨rfl, rfl⟩)
end
end L2.K33
set_option Elab.async false
set_option linter.all false
set_option maxRecDepth 100000
set_option maxHeartbeats 0
namespace L2.K33
open PySem PySem.Spec PyProof.Rows L2.Tb
open SX (S)
theorem ways_kw {K : PySem.W.Frag} {f : Addr} {fd : FuncData} (F : FunK K "ways" "Script.ways" s_ways [] f fd) (sh : Shared) (a : Addr) (zs : List Value) (hl : zs.length = (["row"] : List Str).length) :
    BindsTo sh fd ⟨[.ref a], (["row"] : List Str).zip zs⟩ ((["self", "row"] : List Str).zip (Value.ref a :: zs)) := by
  match zs, hl with
  | [v], _ =>
    obtain ⟨oc, od, dV, kV, doc, pm, an, cdv, ct, osl, rfl, lk, hcd, hD, hK⟩ := F.ex
    rcases hD with ⟨_, rfl⟩ | ⟨e, _⟩
    · exact .of_eq rfl
    · exact absurd rfl e
section
variable {P : Program} {w : World} {K : PySem.W.Frag} {mg : Str → Option Value} {h : Heap}
theorem ends {f : Addr} (G : h.Ns mainGlobals mg) (hfa : mg ("law" : Str) = some (.ref f)) (c : SaysH factB fnA tabL cdL w h K) :
    ∃ (fd : FuncData) (T : List (Addr × Str)), (∀ (s : Shared) (v : Value), BindsTo s fd ⟨[v], []⟩ [("_law_cells", v)]) ∧ (∀ H : Hp, (∀ p ∈ cdL.map (He.cT K), H p.2 = some (.tbl #[])) → LamX.Tabs T H) ∧
      
      ∀ base : Heap, K.In base → base.Ns mainGlobals mg → (∀ p ∈ cdL.map (He.cT K), LamX.TabB base mg p.1 p.2) → RunsAt P w K mg base f fd ["_law_cells"] (spLaw K T) callerA := by
  have X := c.kin
  obtain ⟨f1, z⟩ := He.ba (show factB K = true from c.fb)
  obtain ⟨f2, z⟩ := He.ba z
  obtain ⟨fErr, z⟩ := He.ba z
  obtain ⟨fCalm, z⟩ := He.ba z
  obtain ⟨fKind, z⟩ := He.ba z
  obtain ⟨fLots, z⟩ := He.ba z
  obtain ⟨fStop, z⟩ := He.ba z
  obtain ⟨fWays, z⟩ := He.ba z
  obtain ⟨fSc, z⟩ := He.ba z
  obtain ⟨fRow, z⟩ := He.ba z
  obtain ⟨fIn, z⟩ := He.ba z
  have fIr := z
  have T : Bt mg := ⟨He.free_ok X G (all_get f2 0), He.free_ok X G (all_get f2 1), He.free_ok X G (all_get f2 2), He.free_ok X G (all_get f2 3), He.free_ok X G (all_get f2 4), He.free_ok X G (all_get f2 5), He.free_ok X G (all_get f2 6), He.free_ok X G (all_get f2 7), He.free_ok X G (all_get f2 8), He.free_ok X G (all_get f2 9), He.free_ok X G (all_get f2 10), He.free_ok X G (all_get f2 11), He.free_ok X G (all_get f2 12), He.free_ok X G (all_get f2 13), He.free_ok X G (all_get f2 14), He.free_ok X G (all_get f2 15), He.free_ok X G (all_get f2 16), He.free_ok X G (all_get f2 17), He.free_ok X G (all_get f2 18)⟩
  have mstr : mg "str" = none := He.free_ok X G (all_get f2 19)
  obtain ⟨fd_is_integer, F_is_integer⟩ := c.nth (d := dTop "is_integer" 17) 0
  have g_is_integer := He.glo_ok X G (all_get f1 12)
  obtain ⟨fd_is_number, F_is_number⟩ := c.nth (d := dTop "is_number" 18) 1
  have g_is_number := He.glo_ok X G (all_get f1 13)
  obtain ⟨fd_is_name, F_is_name⟩ := c.nth (d := dTop "is_name" 19) 2
  have g_is_name := He.glo_ok X G (all_get f1 14)
  obtain ⟨fd_is_one_of, F_is_one_of⟩ := c.nth (d := dTop "is_one_of" 20) 3
  have g_is_one_of := He.glo_ok X G (all_get f1 15)
  obtain ⟨fd_check_names, F_check_names⟩ := c.nth (d := dTop "check_names" 21) 4
  have g_check_names := He.glo_ok X G (all_get f1 16)
  obtain ⟨fd_check_boxes, F_check_boxes⟩ := c.nth (d := dTop "check_boxes" 22) 5
  have g_check_boxes := He.glo_ok X G (all_get f1 17)
  obtain ⟨fd_check_kind, F_check_kind⟩ := c.nth (d := dTop "check_kind" 30) 6
  have g_check_kind := He.glo_ok X G (all_get f1 18)
  obtain ⟨fd__holds, F__holds⟩ := c.nth (d := dTop "_holds" 31) 7
  have g__holds := He.glo_ok X G (all_get f1 19)
  obtain ⟨fd__least_lot, F__least_lot⟩ := c.nth (d := dTop "_least_lot" 32) 8
  have g__least_lot := He.glo_ok X G (all_get f1 20)
  obtain ⟨fd_read_rows, F_read_rows⟩ := c.nth (d := dTop "read_rows" 37) 9
  have g_read_rows := He.glo_ok X G (all_get f1 21)
  obtain ⟨fd_all_ways, F_all_ways⟩ := c.nth (d := dTop "all_ways" 38) 10
  have g_all_ways := He.glo_ok X G (all_get f1 22)
  obtain ⟨fd__read_row, F__read_row⟩ := c.nth (d := dTop "_read_row" 39) 11
  have g__read_row := He.glo_ok X G (all_get f1 23)
  obtain ⟨fd__step, F__step⟩ := c.nth (d := dTop "_step" 40) 12
  have g__step := He.glo_ok X G (all_get f1 24)
  obtain ⟨fd__goal, F__goal⟩ := c.nth (d := dTop "_goal" 41) 13
  have g__goal := He.glo_ok X G (all_get f1 25)
  obtain ⟨fd__following, F__following⟩ := c.nth (d := dTop "_following" 42) 14
  have g__following := He.glo_ok X G (all_get f1 26)
  obtain ⟨fd_check_row, F_check_row⟩ := c.nth (d := dTop "check_row" 45) 15
  have g_check_row := He.glo_ok X G (all_get f1 27)
  obtain ⟨fd_cell, F_cell⟩ := c.nth (d := dTop "_law_cell" 47) 16
  have g_cell := He.glo_ok X G (all_get f1 28)
  obtain ⟨fd_purse, F_purse⟩ := c.nth (d := dTop "_law_purse" 48) 17
  have g_purse := He.glo_ok X G (all_get f1 29)
  obtain ⟨fd_draw, F_draw⟩ := c.nth (d := dTop "_law_draw" 49) 18
  have g_draw := He.glo_ok X G (all_get f1 30)
  obtain ⟨fd_alike, F_alike⟩ := c.nth (d := dTop "_law_alike" 50) 19
  have g_alike := He.glo_ok X G (all_get f1 31)
  obtain ⟨fd_odd, F_odd⟩ := c.nth (d := dTop "_law_odd" 51) 20
  have g_odd := He.glo_ok X G (all_get f1 32)
  obtain ⟨fd_lots, F_lots⟩ := c.nth (d := dTop "_law_lots" 52) 21
  have g_lots := He.glo_ok X G (all_get f1 33)
  obtain ⟨fd_pairs, F_pairs⟩ := c.nth (d := dTop "_law_pairs" 53) 22
  have g_pairs := He.glo_ok X G (all_get f1 34)
  obtain ⟨fd_name, F_name⟩ := c.nth (d := dTop "_law_name" 54) 23
  have g_name := He.glo_ok X G (all_get f1 35)
  obtain ⟨fd_names, F_names⟩ := c.nth (d := dTop "_law_names" 55) 24
  have g_names := He.glo_ok X G (all_get f1 36)
  obtain ⟨fd_steps, F_steps⟩ := c.nth (d := dTop "_law_steps" 56) 25
  have g_steps := He.glo_ok X G (all_get f1 37)
  obtain ⟨fd_row, F_row⟩ := c.nth (d := dTop "_law_row" 57) 26
  have g_row := He.glo_ok X G (all_get f1 38)
  obtain ⟨fd_script, F_script⟩ := c.nth (d := dTop "_law_script" 58) 27
  have g_script := He.glo_ok X G (all_get f1 39)
  obtain ⟨fd_ways, F_ways⟩ := c.nth (d := dTop "_law_ways" 59) 28
  have g_ways := He.glo_ok X G (all_get f1 40)
  obtain ⟨fd_told, F_told⟩ := c.nth (d := dTop "_law_told" 60) 29
  have g_told := He.glo_ok X G (all_get f1 41)
  obtain ⟨fd_ways_right, F_ways_right⟩ := c.nth (d := dTop "_law_ways_right" 61) 30
  have g_ways_right := He.glo_ok X G (all_get f1 42)
  obtain ⟨fd_right, F_right⟩ := c.nth (d := dTop "_law_right" 62) 31
  have g_right := He.glo_ok X G (all_get f1 43)
  obtain ⟨fd_law, F_law⟩ := c.nth (d := dTop "law" 63) 32
  have g_law := He.glo_ok X G (all_get f1 44)
  have e := hfa.symm.trans g_law
  cases e
  obtain ⟨er1, er2⟩ := errsB_ok fErr
  obtain ⟨k1, fKind⟩ := He.ba fKind
  obtain ⟨k2, fKind⟩ := He.ba fKind
  obtain ⟨k3, fKind⟩ := He.ba fKind
  obtain ⟨k4, fKind⟩ := He.ba fKind
  obtain ⟨k5, fKind⟩ := He.ba fKind
  obtain ⟨k6, fKind⟩ := He.ba fKind
  obtain ⟨k7, fKind⟩ := He.ba fKind
  obtain ⟨k8, fKind⟩ := He.ba fKind
  obtain ⟨k9, fKind⟩ := He.ba fKind
  obtain ⟨k10, fKind⟩ := He.ba fKind
  obtain ⟨k11, fKind⟩ := He.ba fKind
  obtain ⟨k12, fKind⟩ := He.ba fKind
  obtain ⟨k13, fKind⟩ := He.ba fKind
  obtain ⟨k14, fKind⟩ := He.ba fKind
  obtain ⟨k15, fKind⟩ := He.ba fKind
  have k16 := fKind
  obtain ⟨es, n, D⟩ := c.tb (fun K => He.ga K "LOTS", wordsD) List.mem_cons_self
  obtain ⟨inL, lots⟩ := lotsB_ok fLots D
  obtain ⟨s1, fSc⟩ := He.ba fSc
  obtain ⟨s2, fSc⟩ := He.ba fSc
  obtain ⟨s3, fSc⟩ := He.ba fSc
  obtain ⟨s4, fSc⟩ := He.ba fSc
  obtain ⟨s5, fSc⟩ := He.ba fSc
  obtain ⟨s6, fSc⟩ := He.ba fSc
  obtain ⟨s7, fSc⟩ := He.ba fSc
  obtain ⟨s8, fSc⟩ := He.ba fSc
  obtain ⟨s9, fSc⟩ := He.ba fSc
  obtain ⟨s10, fSc⟩ := He.ba fSc
  obtain ⟨s11, fSc⟩ := He.ba fSc
  obtain ⟨s12, fSc⟩ := He.ba fSc
  obtain ⟨s13, fSc⟩ := He.ba fSc
  obtain ⟨s14, fSc⟩ := He.ba fSc
  obtain ⟨s15, fSc⟩ := He.ba fSc
  obtain ⟨s16, fSc⟩ := He.ba fSc
  obtain ⟨s17, fSc⟩ := He.ba fSc
  obtain ⟨s18, fSc⟩ := He.ba fSc
  obtain ⟨s19, fSc⟩ := He.ba fSc
  obtain ⟨s20, fSc⟩ := He.ba fSc
  obtain ⟨s21, fSc⟩ := He.ba fSc
  obtain ⟨s22, fSc⟩ := He.ba fSc
  obtain ⟨s23, fSc⟩ := He.ba fSc
  have s24 := fSc
  obtain ⟨r1, fRow⟩ := He.ba fRow
  obtain ⟨r2, fRow⟩ := He.ba fRow
  obtain ⟨r3, fRow⟩ := He.ba fRow
  obtain ⟨r4, fRow⟩ := He.ba fRow
  obtain ⟨r5, fRow⟩ := He.ba fRow
  obtain ⟨r6, fRow⟩ := He.ba fRow
  obtain ⟨r7, fRow⟩ := He.ba fRow
  obtain ⟨r8, fRow⟩ := He.ba fRow
  obtain ⟨r9, fRow⟩ := He.ba fRow
  have r10 := fRow
  refine ⟨_, tabsT (He.cT K ("_law_right", none)).2, fun s v => FunD.bindsA (ps := ["_law_cells"]) F_law (fun _ _ _ _ _ _ us hl => match us, hl with | [_], _ => rfl) s [v] rfl, fun H hH => ?_, fun base _ _ TB => ?_⟩
  · intro p hp
    rw [List.mem_singleton.mp hp]
    exact LamX.TabS.nil (hH _ List.mem_cons_self)
  have eT : ErC P w K mg base "InvalidTurns" "given" bVE (He.ga K "InvalidTurns") := erc_of (st := inClass (top 5) 0) X G (er1 "InvalidTurns" (by decide)).1 bVE_ok (c.nth (d := dIn (fun K => He.ma K (He.ga K "InvalidTurns") "__init__") "__init__" "InvalidTurns.__init__" (inClass (top 5) 0) []) 33) rfl ⟨rfl, rfl, rfl, by decide +kernel, rfl, by decide +kernel, by decide +kernel⟩ rfl rfl (by decide) (by decide) (fun _ _ _ _ _ _ us hl => match us, hl with | [_, _], _ => rfl) (fun _ _ _ _ _ _ _ _ => rfl)
  have eF : ErC P w K mg base "InvalidFlag" "given" bVE (He.ga K "InvalidFlag") := erc_of (st := inClass (top 4) 0) X G (er1 "InvalidFlag" (by decide)).1 bVE_ok (c.nth (d := dIn (fun K => He.ma K (He.ga K "InvalidFlag") "__init__") "__init__" "InvalidFlag.__init__" (inClass (top 4) 0) []) 34) rfl ⟨rfl, rfl, rfl, by decide +kernel, rfl, by decide +kernel, by decide +kernel⟩ rfl rfl (by decide) (by decide) (fun _ _ _ _ _ _ us hl => match us, hl with | [_, _], _ => rfl) (fun _ _ _ _ _ _ _ _ => rfl)
  have eX : ErC P w K mg base "InvalidText" "given" bVE (He.ga K "InvalidText") := erc_of (st := inClass (top 3) 0) X G (er1 "InvalidText" (by decide)).1 bVE_ok (c.nth (d := dIn (fun K => He.ma K (He.ga K "InvalidText") "__init__") "__init__" "InvalidText.__init__" (inClass (top 3) 0) []) 35) rfl ⟨rfl, rfl, rfl, by decide +kernel, rfl, by decide +kernel, by decide +kernel⟩ rfl rfl (by decide) (by decide) (fun _ _ _ _ _ _ us hl => match us, hl with | [_, _], _ => rfl) (fun _ _ _ _ _ _ _ _ => rfl)
  have eN : ErC P w K mg base "NotAKind" "given" bVE (He.ga K "NotAKind") := erc_of (st := inClass (top 7) 0) X G (er1 "NotAKind" (by decide)).1 bVE_ok (c.nth (d := dIn (fun K => He.ma K (He.ga K "NotAKind") "__init__") "__init__" "NotAKind.__init__" (inClass (top 7) 0) []) 36) rfl ⟨rfl, rfl, rfl, by decide +kernel, rfl, by decide +kernel, by decide +kernel⟩ rfl rfl (by decide) (by decide) (fun _ _ _ _ _ _ us hl => match us, hl with | [_, _], _ => rfl) (fun _ _ _ _ _ _ _ _ => rfl)
  have KF : KiF P w K mg base (He.ga K "Kind") (He.ga K "LOTS") (He.ga K "InvalidTurns") (He.ga K "InvalidFlag") es n := ⟨He.glo_ok X G (all_get f1 7), He.cls_ok k1, He.noat_ok k2, He.noat_ok k3, He.glo_ok X G (all_get f1 8), D, inL, eT, eF, (er1 "InvalidTurns" (by decide)).2.1, (er1 "InvalidFlag" (by decide)).2.1⟩
  have KG : KiG K w mg (He.ga K "Kind") (He.ga K "LOTS") := ⟨He.str_ok X G fCalm, lots, insB_ok k5, of_decide_eq_true k14⟩
  have KM := He.mkr_ok k4
  obtain ⟨fdi, Fi⟩ := c.nth (d := dIn (fun K => He.ma K (He.ga K "Kind") "__init__") "__init__" "Kind.__init__" (inClass (top 29) 0) [("calm", .bl false)]) 40
  obtain ⟨fds, Fs⟩ := c.nth (d := dIn (fun K => He.ma K (He.ga K "Kind") "__str__") "__str__" "Kind.__str__" (inClass (top 29) 10) []) 41
  obtain ⟨fde, Fe⟩ := c.nth (d := dIn (fun K => He.ma K (He.ga K "Kind") "__eq__") "__eq__" "Kind.__eq__" (inClass (top 29) 9) []) 42
  obtain ⟨fdr, Fr⟩ := c.nth (d := dIn (fun K => cAd K (He.ga K "Kind") "read") "read" "Kind.read" (inClass (top 29) 1) []) 43
  have c_i := c_kinit T mstr KF Fi
  obtain ⟨B1, _⟩ := kinit_binds Fi
  have c_r := c_kread T mstr KF KG eX (er1 "InvalidText" (by decide)).2.1 KM c_i B1 Fr
  have br : Binds K fdr ["cls", "text"] [] := Fr.bindsN (fun _ _ _ _ _ _ us hl => match us, hl with | [_, _], _ => rfl)
  have KS : KiS P w K mg base (He.ga K "Kind") (He.ga K "LOTS") (He.ga K "InvalidTurns") (He.ga K "InvalidFlag") (He.ga K "InvalidText") (He.ga K "NotAKind") es n :=
    ⟨mstr, KF, KG, ⟨_, fdi, KM, c_i, B1⟩, ⟨_, fds, (He.meth_ok k6).at_, (He.meth_ok k6).fn, c_kstr T mstr KF KG Fs, Fs.bindsN (fun _ _ _ _ _ _ us hl => match us, hl with | [_], _ => rfl)⟩, ⟨_, fde, (He.meth_ok k7).at_, (He.meth_ok k7).fn, c_keq T KF KG Fe, Fe.bindsN (fun _ _ _ _ _ _ us hl => match us, hl with | [_, _], _ => rfl)⟩, He.eqO_ok k8,
     ⟨_, _, _, fdr, creadB_ok k12, cmetB_ok k13, c_r, fun A outer s H us vs Q E hr e0 r hs => c_r.raw br .nil A outer s H us vs Q E hr e0 r (by show spKread _ _ _ (vs ++ []) _ _ _; rw [List.append_nil]; exact hs)⟩⟩
  have CF : ChF mg := ⟨He.str_ok X G r7, He.str_ok X G r8, He.int_ok X G r9⟩
  have RF : RoF K mg := ⟨He.str_ok X G r1, He.str_ok X G r2, ⟨_, He.glo_ok X G (all_get f1 10), tupB_ok r3⟩, ⟨_, He.glo_ok X G (all_get f1 11), tupB_ok r4⟩, He.int_ok X G r5, He.int_ok X G r6⟩
  have eIn : ErC P w K mg base "InvalidNames" "index" bVE (He.ga K "InvalidNames") := erc_of (st := inClass (top 8) 0) X G (He.ba fIn).1 bVE_ok (c.nth (d := dIn (fun K => He.ma K (He.ga K "InvalidNames") "__init__") "__init__" "InvalidNames.__init__" (inClass (top 8) 0) []) 38) rfl ⟨rfl, rfl, rfl, by decide +kernel, rfl, by decide +kernel, by decide +kernel⟩ rfl rfl (by decide) (by decide) (fun _ _ _ _ _ _ us hl => match us, hl with | [_, _], _ => rfl) (fun _ _ _ _ _ _ _ _ => rfl)
  have eIr : ErC P w K mg base "InvalidRows" "index" bVE (He.ga K "InvalidRows") := erc_of (st := inClass (top 9) 0) X G (He.ba fIr).1 bVE_ok (c.nth (d := dIn (fun K => He.ma K (He.ga K "InvalidRows") "__init__") "__init__" "InvalidRows.__init__" (inClass (top 9) 0) []) 39) rfl ⟨rfl, rfl, rfl, by decide +kernel, rfl, by decide +kernel, by decide +kernel⟩ rfl rfl (by decide) (by decide) (fun _ _ _ _ _ _ us hl => match us, hl with | [_, _], _ => rfl) (fun _ _ _ _ _ _ _ _ => rfl)
  have eIj : ErC P w K mg base "InvalidIndex" "given" bVE (He.ga K "InvalidIndex") := erc_of (st := inClass (top 6) 0) X G (er1 "InvalidIndex" (by decide)).1 bVE_ok (c.nth (d := dIn (fun K => He.ma K (He.ga K "InvalidIndex") "__init__") "__init__" "InvalidIndex.__init__" (inClass (top 6) 0) []) 37) rfl ⟨rfl, rfl, rfl, by decide +kernel, rfl, by decide +kernel, by decide +kernel⟩ rfl rfl (by decide) (by decide) (fun _ _ _ _ _ _ us hl => match us, hl with | [_, _], _ => rfl) (fun _ _ _ _ _ _ _ _ => rfl)
  have k_is_name := c_is_name (P := P) (w := w) (base := base) T mstr CF F_is_name g_is_name
  have x_check_names := c_check_names T k_is_name eIn (of_decide_eq_true (He.ba fIn).2) F_check_names g_check_names
  have x_check_boxes := c_check_boxes T (He.int_ok X G r10) eIn (of_decide_eq_true (He.ba fIn).2) x_check_names F_check_boxes g_check_boxes
  have k_one_of := c_one_of (P := P) (w := w) (base := base) T mstr F_is_one_of g_is_one_of
  have k_goal := c_goal (P := P) (w := w) (base := base) T mstr F__goal g__goal
  have k_step := c_step T RF k_one_of F__step g__step
  have k_read_row := c_read_row T mstr RF k_step k_goal F__read_row g__read_row
  have x_read_rows := c_read_rows T RF k_read_row eIr (of_decide_eq_true (He.ba fIr).2) F_read_rows g_read_rows
  have x_check_kind := calX_of (st := s_check_kind) F_check_kind g_check_kind (fun _ _ _ _ _ _ us hl => match us, hl with | [_], _ => rfl) (c_check T KF KG eN (er1 "NotAKind" (by decide)).2.1 F_check_kind)
  have SF : ScF K mg (He.ga K "Script") := ⟨He.glo_ok X G (all_get f1 9), He.cls_ok s1, He.noat_ok s2, He.noat_ok s3, He.noat_ok s4, He.noat_ok s5, insB_ok s7, of_decide_eq_true s18⟩
  have SM := He.mkr_ok s6
  obtain ⟨fdSi, Si⟩ := c.nth (d := dIn (fun K => He.ma K (He.ga K "Script") "__init__") "__init__" "Script.__init__" (inClass (top 44) 0) []) 44
  obtain ⟨fdSs, Ss⟩ := c.nth (d := dIn (fun K => He.ma K (He.ga K "Script") "__str__") "__str__" "Script.__str__" (inClass (top 44) 9) []) 45
  obtain ⟨fdSl, Sl⟩ := c.nth (d := dIn (fun K => He.ma K (He.ga K "Script") "__len__") "__len__" "Script.__len__" (inClass (top 44) 7) []) 46
  obtain ⟨fdSd, Sd⟩ := c.nth (d := dIn (fun K => cAd K (He.ga K "Script") "read") "read" "Script.read" (inClass (top 44) 1) []) 48
  obtain ⟨fdSw, Sw⟩ := c.nth (d := dIn (fun K => He.ma K (He.ga K "Script") "ways") "ways" "Script.ways" (inClass (top 44) 6) []) 47
  have c_si := c_sinit T SF x_check_kind x_check_boxes x_read_rows Si
  have Bsi : Binds K fdSi ["self", "kind", "boxes", "rows"] [] := Si.bindsN (fun _ _ _ _ _ _ us hl => match us, hl with | [_, _, _, _], _ => rfl)
  have c_sd := c_sread T SF KS SM c_si Bsi Sd
  have bsd : Binds K fdSd ["cls", "text"] [] := Sd.bindsN (fun _ _ _ _ _ _ us hl => match us, hl with | [_, _], _ => rfl)
  have FRd : FnR P w K mg base L2.CX0 7 _ (spSread (He.ga K "Kind") (He.ga K "Script")) := fun A outer s H us vs Q E hr e0 r hs => c_sd.raw bsd .nil A outer s H us vs Q E hr e0 r (by show spSread _ _ (vs ++ []) _ _ _; rw [List.append_nil]; exact hs)
  have c_sl := c_slen (P := P) (w := w) (base := base) (C := He.ga K "Kind") T SF Sl
  have Bsl : Binds K fdSl ["self"] [] := Sl.bindsN (fun _ _ _ _ _ _ us hl => match us, hl with | [_], _ => rfl)
  have c_ss := c_sstr SF KS Ss
  have Bss : Binds K fdSs ["self"] [] := Ss.bindsN (fun _ _ _ _ _ _ us hl => match us, hl with | [_], _ => rfl)
  have TF : ToldJ K mg (He.ga K "InvalidIndex") := ⟨He.glo_ok X G (all_get f1 4), (er1 "InvalidIndex" (by decide)).2.2.1, (er1 "InvalidIndex" (by decide)).2.2.2, er2 "InvalidIndex" (by decide) "InvalidIndex" (by decide)⟩
  have TB1 := TB _ List.mem_cons_self
  have k_is_integer := c_is_integer (P := P) (w := w) (base := base) T F_is_integer g_is_integer
  have k_is_number := c_is_number k_is_integer F_is_number g_is_number
  have x_check_row := c_check_row T c_sl (He.meth_ok s10).at_ (He.meth_ok s10).fn Bsl k_is_number eIj (er1 "InvalidIndex" (by decide)).2.1 F_check_row g_check_row
  have k_following := c_following (P := P) (w := w) (base := base) RF F__following g__following
  have k_all_ways := c_all_ways T k_following F_all_ways g_all_ways
  have WY : WyF P w K mg base (He.ga K "Kind") (He.ga K "Script") (He.ga K "InvalidIndex") := ⟨_, fdSw, He.meth_ok fWays, c_ways SF (He.noat_ok s2) x_check_row k_all_ways Sw, c_ways1 SF (He.noat_ok s2) x_check_row k_all_ways Sw, Sw.bindsN (fun _ _ _ _ _ _ us hl => match us, hl with | [_, _], _ => rfl), ways_kw Sw⟩
  have room : Room 15 callerA := ⟨rfl, by decide, by decide⟩
  have k_cell := c_cell (P := P) (w := w) (base := base) T F_cell g_cell
  have k_purse := c_purse (P := P) (w := w) (base := base) T F_purse g_purse
  have k_draw := c_draw (P := P) (w := w) (base := base) T F_draw g_draw
  have k_lots := c_lots (P := P) (w := w) (base := base) F_lots g_lots
  have k_pairs := c_pairs T F_pairs g_pairs k_lots
  have k_name := c_name T F_name g_name k_draw
  have k_names := c_names T F_names g_names k_draw k_name
  have k_steps := c_steps T F_steps g_steps k_draw
  have k_row := c_row (P := P) (w := w) (base := base) T mstr F_row g_row
  have k_script := c_script T SF KS SM c_si Bsi k_row F_script g_script
  have k_lways := c_lways (P := P) (w := w) (base := base) T F_ways g_ways
  have k_odd := c_odd3 T F_odd g_odd k_draw
  have k_alike := c_alike (P := P) (w := w) (base := base) T F_alike g_alike 5
  have g_wr := c_ways_right T SF WY k_lways F_ways_right g_ways_right
  have g_r := c_right T SF WY TF (of_decide_eq_true fStop) mstr c_ss (He.meth_ok s8).at_ (He.meth_ok s8).fn Bss (creadB_ok s16) (cmetB_ok s17) FRd F_told g_told TB1 k_draw k_odd k_pairs k_names k_steps k_script g_wr k_alike F_right g_right
  exact r_law T SF WY F_law room rfl k_cell k_purse k_script g_wr g_r
end
end L2.K33
open PySem PySem.W PySem.Calls PyProof.Rows
theorem PySem.Challenge.cw_thirdback_k33_whole_ways_to_each_index_holds : PySem.Challenge.rw_thirdback_k33_whole_ways_to_each_index.Holds := by
  w_on; o_law
  refine HandSHeadRun.head_any (r := OpenLaw.row PySem.Challenge.rw_thirdback_k33_whole_ways_to_each_index) (q := view (OpenLaw.row PySem.Challenge.rw_thirdback_k33_whole_ways_to_each_index).prog [63]) (H := L2.K33.hookX) (ob := L2.K33.ob) (M := 20000) (loose := L2.K33.looseN) (d := HandSHeadRun.topDef (OpenLaw.row PySem.Challenge.rw_thirdback_k33_whole_ways_to_each_index).prog 63) (kwd := []) L2.K33.ob_eq
    (by kernel_rfl) (fun s => by kernel_rfl) L2.K33.run (by kernel_rfl) (by kernel_rfl) (by kernel_rfl) (by rfl) (by first | assumption | decide +kernel) (by decide +kernel) ⟨rfl, rfl, rfl, rfl, rfl, by decide +kernel⟩ ?hw ?hc
  case hw => w_witness2
  case hc =>
    refine L2.Tb.walk_atT (l := PySem.Challenge.rw_thirdback_k33_whole_ways_to_each_index) (n := 63) (x := "_law_cells") rfl (by decide) (by kernel_rfl) ?F
    intro w mg fa h Y G hmg0
    obtain ⟨K, c⟩ := Y
    have hmg : mg ("law" : PySem.Str) = some (.ref fa) := by
      have e : (HandSHeadRun.topDef (OpenLaw.row PySem.Challenge.rw_thirdback_k33_whole_ways_to_each_index).prog 63).name = ("law" : PySem.Str) := by kernel_rfl
      rw [← e]
      exact hmg0
    obtain ⟨fd, T, hb, hT, hF⟩ := L2.K33.ends (P := (PySem.Challenge.rw_thirdback_k33_whole_ways_to_each_index).prog) (w := w) G hmg c
    obtain ⟨y1, y2, y3⟩ := c.cs
    exact ⟨K, fd, L2.K33.spLaw K T, L2.K33.cdL.map (He.cT K), c.kin, y1, y2, y3, hb, fun H a ns hl hbits hH hS => ⟨a, ns, rfl, hS, hbits, hl, hT H hH, fun _ => rfl⟩, hF⟩
