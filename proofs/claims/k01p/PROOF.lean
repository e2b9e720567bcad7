import PyProof.Rows.All
import Wide.All
import OpenK.AllK
import Wide.FinOn
import HandS.ForMost
import HandS.Exc
import HandS.ExcInit
import HandS.ExcCtx
import HandS.ExcField
import HandS.ExcIs
import HandS.TryOnly
import HandS.ExcOwn
import HandS.CallSlots
import HandS.WordsExc
import HandS.HotCalls
import HandS.SuiteRaise
import HandS.Defaults
import HandS.Wide
import HandS.FStr
import HandS.StrMore
import HandS.IsInst
import HandS.Evl
import HandS.Head0
import HandS.Head1
import HandS.Head2
import HandS.HeadEnd
import HandS.HeadHook1
import HandS.HeadHook2
import HandS.EndBits
import HandS.Style
import HandS.SortKw
import KE.KRevSl
import KE.DatumOrd
import PySem.Challenge.RW_leapcard_k01_turns_and_mirrors
set_option Elab.async false
set_option linter.all false
set_option maxRecDepth 100000
set_option maxHeartbeats 2000000
namespace Lc
open PySem PySem.Spec PyProof.Rows L2

/-! ### an error class, whatever own classes stand between it and ValueError -/
def excC (K : PySem.W.Frag) (C : Addr) : Bool := match K.lookup C with
  | some ⟨.type "type", _, .cls cd, sl⟩ => (match cd.mro, sl.toList with
    | .ref C' :: bm, [_, _, _, _, some (.builtin n), _] => C' == C && (n == "ValueError.__new__" && (!cd.hasDel && (cd.hasDict && PySem.HandSPX.refsVE bm)))
    | _, _ => false)
  | _ => false
theorem excC_ok {K : PySem.W.Frag} {C : Addr} (q : excC K C = true) :
    ∃ nm q N bs bm sn sub ab col dd k0 k1 k2 k3 k5, K.lookup C = some (excClassObj nm q C N bs bm true sn sub ab col dd k0 k1 k2 k3 k5 "ValueError.__new__") ∧ PySem.HandSPX.refsVE bm = true := by
  unfold excC at q
  split at q
  · rename_i dd cd sl ho
    split at q
    · rename_i C' bm k0 k1 k2 k3 n k5 hm hs
      simp only [Bool.and_eq_true, beq_iff_eq, Bool.not_eq_true'] at q
      obtain ⟨rfl, rfl, hdel, hd, hv⟩ := q
      obtain ⟨nm, bs, mro, ns, qn, hdd, sn, sub, ab, col, del⟩ := cd
      dsimp only at hm hdel hd
      subst hm hdel hd
      have hsl : sl = #[k0, k1, k2, k3, some (.builtin "ValueError.__new__"), k5] := by
        obtain ⟨l⟩ := sl
        simp only at hs
        rw [hs]
      subst hsl
      exact ⟨nm, qn, ns, bs, bm, sn, sub, ab, col, dd, k0, k1, k2, k3, k5, ho, hv⟩
    · cases q
  · cases q
def oexB (K : PySem.W.Frag) (C : Addr) : Bool := excC K C && (decide (PySem.W.findIn K (.ref C) "__setattr__" = some (some (.builtin "object.__setattr__"))) && (decide (PySem.W.subIn K (.ref C) (.type "BaseException") = some true) &&
  (decide (PySem.W.typeIn K (.ref C) = some (.type "type")) && PySem.W.keepIn K (.ref C))))
theorem oexB_ok {K : PySem.W.Frag} {C : Addr} (h : oexB K C = true) : OexC K C := by
  obtain ⟨h1, h⟩ := Bool.and_eq_true_iff.mp h
  obtain ⟨h2, h⟩ := Bool.and_eq_true_iff.mp h
  obtain ⟨h3, h⟩ := Bool.and_eq_true_iff.mp h
  obtain ⟨h4, h5⟩ := Bool.and_eq_true_iff.mp h
  exact ⟨excC_ok h1, of_decide_eq_true h2, of_decide_eq_true h3, of_decide_eq_true h4, h5⟩

/-! ### the Hook of HeadHook2 with one more Bool -/
abbrev AlE : Type := He.AlD × Bool
def asM (g : Addr → Option Obj) (n : Nat) : List Addr := He.asD g n ++ [cStatics]
def obsEG (n : Nat) (fa : List He.Fa) (fn : List He.DefD) (ex : PySem.W.Frag → Bool) (g : Addr → Option Obj) : AlE := (He.obsD fa fn (He.frG g (asM g n)), ex (He.frG g (asM g n)))
def SaysM (fa : List He.Fa) (fn : List He.DefD) (ex : PySem.W.Frag → Bool) (K : PySem.W.Frag) : Prop := He.SaysD fa fn K ∧ ex K = true
def hookM (n : Nat) (fa : List He.Fa) (fn : List He.DefD) (ex : PySem.W.Frag → Bool) : PySem.W.Hook where
  α := AlE
  obs := fun s => obsEG n fa fn ex s.heap.get?
  val := fun _ => (He.valD fn, true)
  says := fun _ h => ∃ K : PySem.W.Frag, K.In h ∧ SaysM fa fn ex K
  of := fun _ _ e => ⟨_, He.frG_in, congrArg (fun z : AlE => z.1) e, congrArg (fun z : AlE => z.2) e⟩
  keeps := fun _ _ _ ⟨K, hK, c⟩ k => ⟨K, PySem.W.Frag.In.keeps hK k, c⟩
theorem obsEG_eq {n : Nat} {fa : List He.Fa} {fn : List He.DefD} {ex : PySem.W.Frag → Bool} {g : Addr → Option Obj} {s : Shared} (h : ∀ a, g a = s.heap.get? a) : obsEG n fa fn ex g = (hookM n fa fn ex).obs s := by
  have e : g = s.heap.get? := funext h
  rw [e] <;> rfl

/-! ### a def of the text, found by where it stands -/
instance : Inhabited FuncData := ⟨PySem.W.fnOf "" "" { posonlyargs := [], args := [], vararg := none, kwonlyargs := [], kw_defaults := [], kwarg := none, defaults := [] } [] { kind := .function, names := [], isGenerator := false, isCoroutine := false } .none .none .none .none none .none .none⟩
def fdOf (K : PySem.W.Frag) (f : Addr) : FuncData := match K.lookup f with
  | some ⟨_, _, .func fd, _⟩ => fd
  | _ => default
abbrev HasD (K : PySem.W.Frag) (d : He.DefD) : Prop := FunD K d.name d.qual d.params d.body d.scope (d.dvs K) (d.kws K) (He.fAd K d.at_) (fdOf K (He.fAd K d.at_))
theorem fdOf_eq {K : PySem.W.Frag} {x qual : Str} {pa : Arguments} {bd : List Stmt} {sc : Scope} {dvs : List V} {kws : List (Str × V)} {f : Addr} {fd : FuncData} (F : FunD K x qual pa bd sc dvs kws f fd) : fdOf K f = fd := by
  obtain ⟨oc, od, dV, kV, doc, pm, an, cdv, ct, osl, rfl, lk, _⟩ := F.ex
  unfold fdOf
  rw [lk]
theorem has_of {fa : List He.Fa} {fn : List He.DefD} {K : PySem.W.Frag} (c : He.SaysD fa fn K) (i : Nat) {d : He.DefD} (h : fn[i]? = some d) : HasD K d := by
  obtain ⟨fd, F⟩ := c.def_ i h
  show FunD K d.name d.qual d.params d.body d.scope (d.dvs K) (d.kws K) (He.fAd K d.at_) (fdOf K (He.fAd K d.at_))
  rw [fdOf_eq F]
  exact F
abbrev OkD (P : Program) (w : World) (K : PySem.W.Frag) (mg : Str → Option Value) (base : Heap) (k : Nat) (d : He.DefD) (ps : List Str) (sp : Sp) : Prop := FnOk P w K mg base (L2N.CX P w) k (He.fAd K d.at_) (fdOf K (He.fAd K d.at_)) ps sp
end Lc
namespace Lc
open PySem PySem.Spec PyProof.Rows L2
section
variable {X : Cx}
/-! ### s[::-1] of a text -/
def revS (z : Str) : Str := ⟨z.cps.toList.reverse.toArray⟩
def tRevS (te : TE) : TE := fun σ H Q => te σ H fun x H1 => ∃ z, x = .str z ∧ z.length ≤ sizeLine ∧ Q (.str (revS z)) H1
theorem revS_picks (z : Str) : ((Builtin.Str.strSliceIndices none none (-1) z.length).filterMap (z.cps[·]?)).toArray = z.cps.toList.reverse.toArray := by
  have e : Builtin.Str.strSliceIndices none none (-1) z.length = sliceRange ((z.length : Int) - 1) (-1) (-1) := by
    first
      | rfl
      | simp [Builtin.Str.strSliceIndices]
  rw [e, PySem.W.krv_sliceRange, PySem.W.krv_range, List.filterMap_reverse]
  have h := PySem.W.krv_all z.cps
  exact congrArg (fun l : List Nat => l.reverse.toArray) h
theorem pe_revS {e : Expr} {te : TE} {k : Nat} {p1 p2 p3 pos : Pos} (he : PE X e te) : PE X (.Subscript e (.Slice none none (some (.UnaryOp .USub (.Constant (.int 1) k p1) p2)) p3) pos) (tRevS te) := by
  refine ⟨fun pins s σ H Q I h => ?_⟩
  refine Subscript_ (thn (he.run pins s σ H _ I h) fun v s1 ⟨x, H1, I1, r1, q1⟩ => ?_)
  obtain ⟨z, ex, hz, q⟩ := q1
  subst ex
  obtain ⟨t, rfl⟩ := r1
  have hst : PO X (some (.UnaryOp .USub (.Constant (.int 1) k p1) p2)) (tPart (tUn (rU fun i => .int (-i)) (tC (.int 1)))) := po_some (pe_un un_neg pe_int)
  refine wpAny_Slice (thn (po_none.run pins s1 σ H1 (fun o H2 => o = none ∧ H2 = H1) I1 ⟨rfl, rfl⟩) fun vl s2 ⟨l, H2, I2, pl, el, e2⟩ => ?_)
  subst el e2
  refine thn (po_none.run pins s2 σ H2 (fun o H3 => o = none ∧ H3 = H2) I2 ⟨rfl, rfl⟩) fun vu s3 ⟨u, H3, I3, pu, eu, e3⟩ => ?_
  subst eu e3
  refine thn (hst.run pins s3 σ H3 (fun o H4 => o = some (-1) ∧ H4 = H3) I3 ⟨1, rfl, -1, rfl, rfl, rfl⟩) fun vs s4 ⟨o, H4, I4, ps, eo, e4⟩ => ?_
  subst eo e4
  have I5 : Inv X pins σ H4 { s4 with heap := s4.heap.push { cls := .type "slice", data := .fields #[vl, vu, vs] } } := I4.kept (t' := s4.toks) fun b ob q => Heap.get?_push_of_some _ q
  cases pl
  cases pu
  cases ps with
  | int _ t5 =>
  show wpAny (model X.prog X.w) X.A (subscriptTail e (.Slice none none (some (.UnaryOp .USub (.Constant (.int 1) k p1) p2)) p3) (.str z t) (.ref s4.heap.objs.size)) (EP X pins σ Q) X.xe { s4 with heap := s4.heap.push { cls := .type "slice", data := .fields #[.none, .none, .int (-1) t5] } }
  refine tail_any (ops := [.str z t, .ref s4.heap.objs.size]) (typeIs_str _ _ _) F.slot_str_getitem.lookup ?_ (by with_unfolding_all rfl)
  refine wpAny_getItem_str_slice (l := none) (u := none) (st := some (-1, t5)) (Heap.IsSliceOf.new _ .none .none (.int (-1) t5)) (by rfl) ?_
  show Made.post (if ((-1 : Int) == 1 && (Builtin.Str.strSliceIndices none none (-1) z.length).length == z.length) = true then Made.val (.str z t)
    else Made.str ⟨((Builtin.Str.strSliceIndices none none (-1) z.length).filterMap (z.cps[·]?)).toArray⟩) (EP X pins σ Q) _
  rw [if_neg (by rw [show ((-1 : Int) == 1) = false by decide, Bool.false_and]; decide), revS_picks]
  refine ⟨?_, .str (revS z), H4, I5.tok _, ⟨_, rfl⟩, q⟩
  show z.cps.toList.reverse.toArray.size ≤ sizeLine
  have hz2 : z.cps.toList.length ≤ sizeLine := by
    have : z.length = z.cps.toList.length := by simp [Str.length]
    omega
  simpa using hz2

/-! ### min(xs, default=d) of a list of texts -/
def minS : Str → List Str → Str := PySem.W.minOf
def rMinSD (K : PySem.W.Frag) : List V → List V → Hp → VK → Prop := fun vs zs H Q => ∃ (a : Addr) (xs : List Str) (d : V), vs = [.ref a] ∧ zs = [d] ∧ SqL K H a (xs.map V.str) ∧ (xs = [] → Q d H) ∧ ∀ y ys, xs = y :: ys → Q (.str (minS y ys)) H
theorem holdAll_strs {h : Heap} : ∀ {xs : List Str} {its : List Value}, Vals (xs.map V.str) its → PySem.W.HoldAll h its xs
  | [], its, r => by
    cases r
    exact ⟨_, .nil⟩
  | x :: xs, its, r => by
    cases r with
    | cons r1 r2 =>
      obtain ⟨t, rfl⟩ := r1
      obtain ⟨as, q⟩ := holdAll_strs (h := h) r2
      exact ⟨_, .cons (.str x t) q⟩
theorem cr_minSD (hc : X.calm = true) (hu : X.A.units + 1 < cLine) : CallRK X (.builtin "min") [("default" : Str)] (rMinSD X.K) := by
  intro pins s σ H vs zs us ws Q I r rz h
  obtain ⟨a, xs, d, rfl, rfl, hs, q0, q1⟩ := h
  obtain ⟨its, rv, hl, _⟩ := I.list hs
  rw [Vals.ref1 r]
  cases rz with
  | cons rd rn =>
    cases rn
    rename_i dv
    show wpAny _ _ (call (.builtin "min") [.ref a] [(Str.ofString "default", dv)]) _ _ _
    refine PySem.W.min_list_datum_default (α := Str) (xs := xs) (I.ok.hd hc) hl.isList (by simpa using holdAll_strs rv) hu (fun e h' tk hk => ?_) fun y ys i v h' tk e hi hv hk => ?_
    · exact ⟨d, H, I.kept hk, rd, q0 e⟩
    · refine ⟨.str (minS y ys), H, I.kept hk, ?_, q1 y ys e⟩
      obtain ⟨as, rr⟩ := hv
      have rr' : Reads h' v (.str (minS y ys)) as := rr
      cases rr' with
      | str _ t => exact ⟨t, rfl⟩
/-- the call -/
theorem pe_minSD {e : Expr} {t : TA} {tk : TA} {p pos : Pos} {kw : Keyword} (hc : X.calm = true) (hu : X.A.units + 1 < cLine) (hg : Gl X "min") (hm : X.mg "min" = none) (ha : PA X [e] t) (hk : PK X [kw] tk)
    (he : backTo pos (starEach (e :: []) X.env) = (false, eval e X.env) :: backTo pos (starEach [] X.env) := by rfl) (hpl : (backTo pos (starEach (e :: []) X.env)).any (·.1) = false := by rfl)
    (hall : (backToKw pos (keywordEach [kw] X.env)).all (·.1.isSome) = true := by rfl) (hnone : (backToKw pos (keywordEach [kw] X.env)).any (·.1.isNone) = false := by rfl) (hks : (backToKw pos (keywordEach [kw] X.env)).filterMap (·.1) = [("default" : Str)] := by rfl) :
    PE X (.Call (.Name "min" p) [e] [kw] pos) (tCKw (rMinSD X.K) t tk) :=
  pe_callBK (cr_minSD hc hu) hg hm (by decide +kernel) ha hk (by decide) (by decide) he hpl hall hnone hks

/-! ### C.__init__(self, ..) of an own class C between the error's class and ValueError -/
theorem pe_ownInit {x : Str} {CL : Addr} {e : Expr} {es : List Expr} {ta : TA} {p1 p2 pos : Pos} {pl : Sem Bool} (hg : Gl X x) (hm : X.mg x = some (.ref CL)) (hdb : (x == ("__debug__" : Str)) = false := by decide)
    (sp : PySem.W.specialIn X.K (.ref CL) "__getattribute__" = some (some (.builtin "type.__getattribute__"))) (rd : PySem.W.readsIn X.K CL (.type "type") = true)
    (vV : PySem.W.findCls X.K (.ref CL) (.type "type") "__init__" = some (.val (.builtin "ValueError.__init__"))) (ha : PA X (e :: es) ta)
    (hc : eval (.Call (.Attribute (.Name x p1) "__init__" p2) (e :: es) [] pos) X.env = (do
      let ov ← eval (.Name x p1) X.env
      standAt p2.atName
      let (f, first) ← holding [ov] (getMethod ov "__init__" pl)
      callWith pos f first (backTo pos (starEach (e :: es) X.env)) (backToKw pos (keywordEach [] X.env))) := by rfl)
    (he : starEach (e :: es) X.env = (false, eval e X.env) :: starEach es X.env := by rfl) (hpl : (backTo pos (starEach es X.env)).any (·.1) = false := by rfl) :
    PE X (.Call (.Attribute (.Name x p1) "__init__" p2) (e :: es) [] pos) (tVeI X.K ta) := by
  refine ⟨fun pins s σ H Q I h => ?_⟩
  refine PySem.W.methodCall_KW (ld_glob I hg hm ?_ hdb) hc
  refine PySem.W.method_cls I.kIn sp (PySem.W.cls_value I.kIn rd vV (by decide +kernel) ?_)
  show wpAny _ _ (callWith pos (Value.builtin "ValueError.__init__") [] (backTo pos (starEach (e :: es) X.env)) []) _ _ _
  refine PyProof.Rows.callWith_method1 (thn (ha.run pos pins _ σ H _ (I.tok _) h) fun us s1 ⟨vs, H1, I1, r1, a, C, ws, ev, hl, T, ea, q⟩ => ?_) he hpl
  subst ev
  cases r1 with
  | @cons _ u0 _ ur ra rw' =>
    obtain rfl : u0 = Value.ref a := ra
    have hlen : ur.length ≤ sizeLine := by
      rw [← Paired.length rw', sizeLine_eq]
      omega
    exact oinit_ok T I1 ea hlen fun s' J => ⟨.non, H1, J, rfl, q⟩

/-! ### an error with its own __init__ made where nothing is handled: its context is None -/
theorem passN : Passes (L2N.CX X.prog X.w) X E0 := fun _ _ _ _ _ _ _ h => by
  obtain ⟨_, _, _, _, _, _, _, _, _, _, _, _, no⟩ := h
  exact absurd no id
theorem pmkN_oex {CY : CXT} {nm : Str} {C g : Addr} {lev : Nat} {fdI : FuncData} {prs : List Str} {pr : Sp} {xs : List Value} {ws : List V} {arg : Expr} {more : List Expr} {tA : TA} {q1 q2 : Pos}
    (ox : OexC X.K C) (at_ : PySem.W.findIn X.K (.ref C) "__init__" = some (some (.ref g))) (isf : PySem.W.typeIn X.K (.ref g) = some (.type "function"))
    (keeps : FnOk X.prog X.w X.K X.mg X.base CY lev g fdI prs pr) (room : Room (lev + 1) X.A) (bnd : Binds X.K fdI prs xs) (vls : Vals ws xs) (ps : Passes CY X E0) (gl : Gl X nm) (mgx : X.mg nm = some (.ref C)) (pa : PA X (arg :: more) tA)
    (ndb : (nm == ("__debug__" : Str)) = false := by decide) (plain1 : starEach (arg :: more) X.env = (false, eval arg X.env) :: starEach more X.env := by rfl) (plain2 : (backTo q2 (starEach more X.env)).any (·.1) = false := by rfl) :
    L2N.PMk X (.Call (.Name nm q1) (arg :: more) [] q2) (tMkO C pr ws tA) := by
  intro pins s σ H Q I goal
  obtain ⟨_, _, _, _, mro, _, _, _, _, _, _, _, _, _, _, lkC, ve⟩ := ox.cls
  refine wpAny_Call_Name_kw (ld_glob I gl mgx ?_ ndb)
  refine PySem.W.callWith_K (h₀ := X.base) I.ok.mod.kin ox.kC (thn (pa.run q2 pins s σ H _ I goal) ?_) plain1 plain2
  rintro us ⟨hp, gs, dr, tk, os⟩ ⟨vs, Ha, Ia, ra, small, each⟩
  refine ⟨Ia.kIn, ?_⟩
  show wpAny _ _ (call (.ref C) us) _ _ _
  have above : hp.objs.size ≤ hp.objs.size + 1 := by omega
  have free : Ha (hp.objs.size + 1) = none := Ia.hok.fresh above
  have pr1 := each (hp.objs.size + 1) free
  let hp2 := (hp.push (PySem.W.kdv_tup us)).push (PySem.HandSPX.excO C hp.objs.size)
  have kept : ∀ b o, hp.get? b = some o → hp2.get? b = some o := fun b o e => Heap.get?_push_of_some _ (Heap.get?_push_of_some _ e)
  have here : hp2.get? (hp.objs.size + 1) = some (PySem.HandSPX.excO C hp.objs.size) := by show ((hp.push (PySem.W.kdv_tup us)).push (PySem.HandSPX.excO C hp.objs.size)).get? _ = _; heap_get
  have Ib : Inv X pins σ (upd Ha (hp.objs.size + 1) (exo (hp.objs.size + 1) C none)) ⟨hp2, gs, dr, tk, os⟩ := Ia.laid (t' := tk) (a := hp.objs.size + 1) (o := exo (hp.objs.size + 1) C none) (h' := hp2) kept above (exo_ok here)
  have rb : Vals (V.ref (hp.objs.size + 1) :: (vs ++ ws)) (Value.ref (hp.objs.size + 1) :: (us ++ xs)) := .cons rfl (ra.append vls)
  have many : (Value.ref (hp.objs.size + 1) :: us ++ xs).length = prs.length := by rw [← keeps.len _ _ _ _ pr1]; exact rb.length.symm
  have fits : us.length ≤ sizeLine := by rw [← Paired.length ra, sizeLine_eq]; omega
  have body := keeps.run _ X.stack _ _ ⟨Value.ref (hp.objs.size + 1) :: us, []⟩ (Value.ref (hp.objs.size + 1) :: (us ++ xs)) _ _ E0 (room.make C us []) (Ib.env0.make C us []) (bnd _ (Value.ref (hp.objs.size + 1) :: us) Ib.kIn many) rb pr1
  refine wpAny_call (PySem.HandSPX.call_own F.excBase_ValueError (fun Y => PySem.HandSPX.refsVE_contains Y mro ve) (Ia.kIn _ _ lkC) (PySem.W.looks_findIn Ia.kIn at_) (fun self => PySem.W.bind_fn Ia.kIn self isf) fits (codeAny_mono body ?_))
  intro r s' after
  match r, after with
  | .error er, after => exact ps pins σ _ _ er s' Ib after
  | .ok (.ret u), after =>
    obtain ⟨v, Hb, os2, bare2, un2, hok2, rv, none_, d, fs, oa, od, newd, fin⟩ := after
    subst none_
    obtain ⟨h2, g2, d2, t2, os'⟩ := s'
    refine ⟨rv, ?_⟩
    obtain ⟨t0, G, J, kG, ge, hoe, na⟩ := mk_end0 (d2 := d2) (t2 := t2) Ia above kept un2 hok2 os2 bare2 oa od newd
    exact ⟨hp.objs.size + 1, _, _, ⟨G, g2, d2, t2, os'⟩, _, .ref C, some d, rfl, J, kG, ge, hoe, ⟨rfl, rfl, fun vs hv => by cases hv; rfl⟩, rfl, rfl, na, rfl, bare2, raises_own ox.exC ox.tyC, fin⟩
  | .ok .next, after => exact False.elim after
  | .ok .brk, after => exact False.elim after
  | .ok .cont, after => exact False.elim after

/-! ### isinstance(e, C), e the caught error, C its very class -/
theorem isi_same {x D : Addr} {ox : Obj} {od : Option Obj} {prog : Program} {w : World} {A : Around} {E : Value → Shared → Prop} {s : Shared} {Q : Value → Shared → Prop} (J : PySem.W.InstAt s.heap x ox D od) (h : ∀ tk, Q (.bool true) { s with toks := tk }) :
    wpAny (model prog w) A (call (.builtin "isinstance") [.ref x, .ref D]) Q E s := by
  refine call_isinstance (S := fun _ R s => PySem.W.InstAt s.heap x ox D od ∧ ∀ tk, R (.ok (.ret (.bool true))) { s with toks := tk }) (fun prog w A R s hs => isinstance_outer ?_ (fun z => nomatch z)) ⟨J, h⟩
  obtain ⟨hp, g, d, tt, os⟩ := s
  obtain ⟨J2, hq⟩ := hs
  have LT := J2.type (M := model prog w)
  unfold Builtin.«isinstance.nested»
  refine wpAny_bind (LT.at ?_)
  rw [if_pos (beq_self_eq_true _)]
  first
    | exact wpAny_bind (wpAny_rule (wpAny_pure (hq tt)))
    | exact wpAny_bind (wpAny_rule (hq tt))
def rIsX (D a : Addr) (cls : Value) (d : Option Addr) : List V → Hp → VK → Prop := fun xs H Q => ∃ (dd : Addr) (fs : List (Str × V)), xs = [.ref a, .ref D] ∧ cls = .ref D ∧ d = some dd ∧ H dd = some (.xd fs) ∧ Q (.bl true) H
theorem call_isX {a D : Addr} {oe : Obj} {cls : Value} {d : Option Addr} {pn : List (Addr × Obj)} (hz : Zc cls d oe) (hf : ∃ vs, oe.data = .fields vs) : CallR (X.suite a ((a, oe) :: pn)) (.builtin "isinstance") (rIsX D a cls d) := by
  intro pins s σ H xs us Q I r h
  obtain ⟨dd, fs, rfl, rfl, rfl, ha, q⟩ := h
  obtain ⟨u1, u2, rfl, r1, r2⟩ := vals2 r
  obtain rfl : u1 = Value.ref a := r1
  obtain rfl : u2 = Value.ref D := r2
  obtain ⟨hget, _⟩ := I.pin (a, oe) (List.mem_append.mpr (.inl List.mem_cons_self))
  obtain ⟨vs, hv⟩ := hf
  have hx : ObjOk X.prog X.w H s.heap dd (.xd fs) := I.hok dd _ ha
  obtain ⟨mA, hns, _⟩ := hx
  obtain ⟨od, ho, _⟩ := lookIn_ns hns
  have J : PySem.W.InstAt s.heap a oe D (some od) := ⟨hget, hz.1, by unfold PySem.W.notCls; rw [hv] <;> rfl, by rw [hz.2]; exact ho⟩
  exact isi_same J fun tk => ⟨.bl true, H, I.tok _, rfl, q⟩
theorem hot_suite {a : Addr} {oe : Obj} {cls : Value} {d : Option Addr} {pn : List (Addr × Obj)} (hz : L2N.Zn cls d oe) (hf : ∃ vs, oe.data = .fields vs) : L2H.HotC (X.suite a ((a, oe) :: pn)) := by
  obtain ⟨vs, hv⟩ := hf
  exact ⟨(a, oe), ⟨rfl, vs, hv, hz.2.2 vs hv⟩, List.mem_cons_self⟩
theorem takes0N : L2N.Takes X (fun _ _ _ _ => False) := fun _ _ x => by
  obtain ⟨_, _, _, _, _, _, _, _, _, _, _, _, _, _, _, _, no⟩ := x
  exact absurd no id
theorem passAtN {σ : L2.St} : PassesAt (L2N.CX X.prog X.w) X σ E0 := fun _ _ _ _ _ _ h => by
  obtain ⟨_, _, _, _, _, _, _, _, _, _, _, _, no⟩ := h
  exact absurd no id
end
end Lc
namespace Lc
open PySem PySem.Spec PyProof.Rows L2 Evl
section
variable {K : PySem.W.Frag} {σ : L2.St} {H H' : Hp} {ta tb te tx : TE} {t u : TT} {x y z v : V} {r : R2} {D : Ends}
theorem rv_catS {a b : Str} (h : a.length + b.length ≤ 100000) : RV (fun x y H Q => ∃ i j, x = .str i ∧ y = .str j ∧ i.length + j.length ≤ sizeLine ∧ Q (.str (i ++ j)) H) (.str a) (.str b) H (.str (a ++ b)) := fun H1 _ _ q => ⟨a, b, rfl, rfl, sz_of h, q H1 (Ex.refl H1)⟩
theorem rv_ltS {a b : Str} : RV (fun x y H Q => ∃ i j, x = .str i ∧ y = .str j ∧ Q (.bl (decide (i.cps.toList < j.cps.toList))) H) (.str a) (.str b) H (.bl (decide (a.cps.toList < b.cps.toList))) := fun H1 _ _ q => ⟨a, b, rfl, rfl, q H1 (Ex.refl H1)⟩
theorem rv_inC {c : Nat} {b : Str} : RV (fun x y H Q => ∃ (c : Nat) (z : Str), x = .str ⟨#[c]⟩ ∧ y = .str z ∧ Q (.bl (decide (c ∈ z.cps.toList))) H) (.str ⟨#[c]⟩) (.str b) H (.bl (decide (c ∈ b.cps.toList))) := fun H1 _ _ q => ⟨c, b, rfl, rfl, q H1 (Ex.refl H1)⟩
theorem rv_notInC {c : Nat} {b : Str} : RV (fun x y H Q => ∃ (c : Nat) (z : Str), x = .str ⟨#[c]⟩ ∧ y = .str z ∧ Q (.bl (!decide (c ∈ z.cps.toList))) H) (.str ⟨#[c]⟩) (.str b) H (.bl (!decide (c ∈ b.cps.toList))) := fun H1 _ _ q => ⟨c, b, rfl, rfl, q H1 (Ex.refl H1)⟩
theorem rc_lenS {w : Str} (h : w.length ≤ 100000) : RC (fun xs H Q => ∃ x n, xs = [x] ∧ LenV K x H n ∧ Q (.int n) H) [.str w] H (.int w.length) := fun H1 _ _ q => ⟨.str w, w.length, rfl, ⟨sz_of h, rfl⟩, q H1 (Ex.refl H1)⟩
theorem rc_lenL {p : Addr} {xs : List V} (h : SqL K H p xs) : RC (fun xs H Q => ∃ x n, xs = [x] ∧ LenV K x H n ∧ Q (.int n) H) [.ref p] H (.int xs.length) := fun H1 e _ q => ⟨.ref p, xs.length, rfl, .inl ⟨xs, ex_l e h, rfl⟩, q H1 (Ex.refl H1)⟩
theorem rc_lenT {p : Addr} {xs : List V} (h : SqT K H p xs) : RC (fun xs H Q => ∃ x n, xs = [x] ∧ LenV K x H n ∧ Q (.int n) H) [.ref p] H (.int xs.length) := fun H1 e _ q => ⟨.ref p, xs.length, rfl, .inr ⟨xs, ex_t e h, rfl⟩, q H1 (Ex.refl H1)⟩
theorem rc_intI {i : Int} : RC (fun xs H Q => (∃ i, xs = [V.int i] ∧ Q (V.int i) H) ∨ ∃ k, xs = [V.bl k] ∧ Q (V.int (if k = true then 1 else 0)) H) [.int i] H (.int i) := fun H1 _ _ q => .inl ⟨i, rfl, q H1 (Ex.refl H1)⟩
theorem rc_intB {k : Bool} : RC (fun xs H Q => (∃ i, xs = [V.int i] ∧ Q (V.int i) H) ∨ ∃ k, xs = [V.bl k] ∧ Q (V.int (if k = true then 1 else 0)) H) [.bl k] H (.int (if k = true then 1 else 0)) := fun H1 _ _ q => .inr ⟨k, rfl, q H1 (Ex.refl H1)⟩
theorem rc_sum {p : Addr} {ns : List Int} (h : SqL K H p (ns.map V.int)) : RC (rSum K) [.ref p] H (.int ns.sum) := fun H1 e _ q => ⟨p, ns, rfl, ex_l e h, q H1 (Ex.refl H1)⟩
theorem rc_min2 {i j : Int} : RC (fun xs H Q => ∃ i j, xs = [V.int i, V.int j] ∧ Q (.int (if j < i then j else i)) H) [.int i, .int j] H (.int (if j < i then j else i)) := fun H1 _ _ q => ⟨i, j, rfl, q H1 (Ex.refl H1)⟩
theorem rc_isStr {w : Str} : RC (rIsi K) [.str w, .ty "str"] H (.bl true) := fun H1 _ _ q => ⟨.str w, .ty "str", .type "str", .type "str", true, rfl, .ty _, .base (.str _), kit_ty (by decide +kernel), q H1 (Ex.refl H1)⟩
theorem ev_slS {tl th : TO} {w : Str} {lo hi : Option Int} (h : Ev te σ H (.str w)) (h1 : EvO tl σ H lo) (h2 : EvO th σ H hi) (hz : w.length ≤ 100000) : Ev (tSl rSlS te tl th) σ H (.str (cutS w lo hi)) := fun H1 e _ q =>
  h H1 e _ fun H2 e2 => h1 H2 (e.trans e2) _ fun H3 e3 => h2 H3 ((e.trans e2).trans e3) _ fun H4 e4 => ⟨w, rfl, sz_of hz, q H4 ((e2.trans e3).trans e4)⟩
theorem ev_revS {w : Str} (h : Ev te σ H (.str w)) (hz : w.length ≤ 100000) : Ev (tRevS te) σ H (.str (revS w)) := fun H1 e _ q => h H1 e _ fun H2 e2 => ⟨w, rfl, sz_of hz, q H2 e2⟩
theorem ev_join {a : Str} {ys : List Str} (h : Ev ta σ H (.str a)) (hl : EvL te σ H (ys.map V.str)) (hz : (ys.map (·.length)).sum + ys.length * a.length ≤ 16777216) :
    Ev (tM1 (fun x xs H Q => ∃ a p, ∃ ys : List Str, x = .str a ∧ xs = [.ref p] ∧ (SqL K H p (ys.map V.str) ∨ SqT K H p (ys.map V.str)) ∧ (ys.map (·.length)).sum + ys.length * a.length ≤ 16777216 ∧ Q (.str (Txt.join a ys)) H) ta te) σ H (.str (Txt.join a ys)) := fun H1 e _ q =>
  h H1 e _ fun H2 e2 => ⟨⟨a, rfl⟩, hl H2 (e.trans e2) _ fun p H3 _ e3 hp => ⟨a, p, ys, rfl, rfl, .inl (sq_of hp), hz, q H3 (e2.trans e3)⟩⟩
def minD (d : Str) : List Str → Str
  | [] => d
  | y :: ys => minS y ys
theorem ev_minSD {xs : List Str} {d : Str} (hl : EvL te σ H (xs.map V.str)) (hd : Ev ta σ H (.str d)) : Ev (tCKw (rMinSD K) (tCons te tNil) (tCons ta tNil)) σ H (.str (minD d xs)) := fun H1 e Q q =>
  hl H1 e _ fun p H2 _ e2 hp => hd H2 (e.trans e2) _ fun H3 e3 => ⟨p, xs, .str d, rfl, rfl, sq_of (e3 p _ hp), fun ex => by
    subst ex
    exact q H3 (e2.trans e3), fun y ys ex => by
    subst ex
    exact q H3 (e2.trans e3)⟩
end
end Lc
namespace Lc
open PySem PySem.Spec PyProof.Rows L2 Evl
/-- a text by its signs -/
def S (l : List Nat) : Str := ⟨l.toArray⟩
theorem tl_S (l : List Nat) : (S l).cps.toList = l := rfl
theorem S_tl (z : Str) : S z.cps.toList = z := by
  apply Str.ext'
  simp [S]
theorem S_len (l : List Nat) : (S l).length = l.length := by simp [S, Str.length]
theorem S_inj {a b : List Nat} (h : S a = S b) : a = b := by
  have := congrArg (fun z : Str => z.cps.toList) h
  exact this
theorem S_app (a b : List Nat) : S a ++ S b = S (a ++ b) := by
  have h := TL.tl_append (S a) (S b)
  rw [← S_tl (S a ++ S b)]
  exact congrArg S h
theorem join_S : ∀ l : List Nat, Txt.join (S []) (l.map fun c => S [c]) = S l := by
  intro l
  rw [TL.join_eq, ← S_tl (Str.join (S []) _)]
  refine congrArg S ?_
  have h := TL.tl_join (S []) (l.map fun c => S [c])
  refine Eq.trans h ?_
  rw [List.map_map]
  show TL.joinL [] (l.map fun c => [c]) = l
  induction l with
  | nil => rfl
  | cons a r ih =>
    cases r with
    | nil => rfl
    | cons b r =>
      show [a] ++ ([] ++ TL.joinL [] ((b :: r).map fun c => [c])) = a :: b :: r
      rw [ih (TL.tl_join _ _)]
      rfl
theorem join_sz (l : List Nat) (h : l.length ≤ 100000) : (((l.map fun c => S [c]).map (·.length)).sum + (l.map fun c => S [c]).length * (S []).length) ≤ 16777216 := by
  have e : ∀ l : List Nat, ((l.map fun c => S [c]).map (·.length)).sum = l.length := by
    intro l
    induction l with
    | nil => rfl
    | cons a r ih =>
      rw [List.map_cons, List.map_cons, List.sum_cons, ih, S_len]
      simp
      omega
  rw [e]
  have : (S []).length = 0 := rfl
  rw [this]
  omega
theorem cut_from (l : List Nat) (i : Nat) : cutS (S l) (some (i : Int)) none = S (l.drop i) := by
  unfold cutS
  rw [S_len, HT.sIx_nat, HT.sIx_none, tl_S]
  refine congrArg S ?_
  rw [List.take_of_length_le (by rw [List.length_drop]; omega)]
  by_cases h : i ≤ l.length
  · rw [Nat.min_eq_left h]
  · rw [Nat.min_eq_right (by omega), List.drop_of_length_le (Nat.le_refl _), List.drop_of_length_le (by omega)]
theorem cut_to (l : List Nat) (i : Nat) : cutS (S l) none (some (i : Int)) = S (l.take i) := by
  unfold cutS
  rw [S_len, HT.sIx_nat, HT.sIx_none, tl_S]
  refine congrArg S ?_
  rw [List.drop_zero, Nat.sub_zero]
  by_cases h : i ≤ l.length
  · rw [Nat.min_eq_left h]
  · rw [Nat.min_eq_right (by omega), List.take_of_length_le (Nat.le_refl _), List.take_of_length_le (by omega)]
theorem atI_i {α : Type} {xs : List α} {i : Int} (h0 : 0 ≤ i) (h1 : i < xs.length) (d : α) : atI xs i = some (xs.getD i.toNat d) := by
  have e : i = (i.toNat : Int) := by omega
  have hl : i.toNat < xs.length := by omega
  rw [e]
  refine atI_nat ?_
  rw [Int.toNat_natCast, List.getElem?_eq_getElem hl, List.getD_eq_getElem?_getD, List.getElem?_eq_getElem hl]
  rfl
theorem revS_S (l : List Nat) : revS (S l) = S l.reverse := rfl
section
variable {K : PySem.W.Frag} {σ : L2.St} {H H' : Hp} {ta tb te tx : TE} {t u : TT} {x y z v : V} {r : R2} {D : Ends}
theorem rv_ixSS {l : List Nat} {i : Int} (hl : l.length ≤ 100000) (h0 : 0 ≤ i) (h1 : i < l.length) : RV rIxS (.str (S l)) (.int i) H (.str (S [l.getD i.toNat 0])) := rv_ixS (by rw [S_len]; exact hl) (atI_i h0 h1 0)
theorem ev_cbL {r : List V → Hp → VK → Prop} {xs : List V} (h : EvL te σ H xs) (hr : ∀ p H1, H1 p = some (.lst xs) → Ex H H1 → RC r [.ref p] H1 z) : Ev (tCB r (tCons te tNil)) σ H z := fun H1 e Q q =>
  h H1 e _ fun p H2 _ e2 hp => hr p H2 hp (e.trans e2) H2 (Ex.refl H2) Q fun H3 e3 => q H3 (e2.trans e3)
theorem cutV_ints (ns : List Int) (lo hi : Option Int) : ∃ ms : List Int, cutV (ns.map V.int) lo hi = ms.map V.int := by
  unfold cutV
  exact ⟨_, by rw [← List.map_drop, ← List.map_take]⟩
end
/-! ### a box of three ints that a call changes -/
def Bx (H : Hp) (b : Addr) : Prop := ∃ i j k : Int, H b = some (.lst [.int i, .int j, .int k])
def ExB (b : Addr) (H H' : Hp) : Prop := ∀ c o, c ≠ b → H c = some o → H' c = some o
theorem ExB.refl {b : Addr} (H : Hp) : ExB b H H := fun _ _ _ h => h
theorem ExB.trans {b : Addr} {H H1 H2 : Hp} (h : ExB b H H1) (h2 : ExB b H1 H2) : ExB b H H2 := fun c o hc e => h2 c o hc (h c o hc e)
theorem ExB.of {b : Addr} {H H1 : Hp} (h : Ex H H1) : ExB b H H1 := fun c o _ e => h c o e
theorem Bx.ex {b : Addr} {H H1 : Hp} (h : Bx H b) (e : Ex H H1) : Bx H1 b := by
  obtain ⟨i, j, k, h⟩ := h
  exact ⟨i, j, k, e b _ h⟩
theorem ExB.upd {b : Addr} {H : Hp} {o : HO} : ExB b H (upd H b o) := fun c o hc e => by rw [upd_ne hc]; exact e
theorem Bx.put {b : Addr} {H : Hp} {i j k : Int} : Bx (upd H b (.lst [.int i, .int j, .int k])) b := ⟨i, j, k, upd_same⟩
theorem ExB.seq {K : PySem.W.Frag} {b a : Addr} {H H' : Hp} {xs : List V} (e : ExB b H H') (hab : a ≠ b) (h : SqL K H a xs) : SqL K H' a xs := by
  rcases h with (h | ⟨o, h⟩) | h
  · exact .inl (.inl (e _ _ hab h))
  · exact .inl (.inr ⟨o, e _ _ hab h⟩)
  · exact .inr h
theorem ExB.bx {b c : Addr} {H H' : Hp} (e : ExB b H H') (hcb : c ≠ b) (h : Bx H c) : Bx H' c := by
  obtain ⟨i, j, k, h⟩ := h
  exact ⟨i, j, k, e c _ hcb h⟩

section
variable {H : Hp}
theorem rv_inSS {c : Nat} {g : List Nat} : RV (fun x y H Q => ∃ (c : Nat) (z : Str), x = .str ⟨#[c]⟩ ∧ y = .str z ∧ Q (.bl (decide (c ∈ z.cps.toList))) H) (.str (S [c])) (.str (S g)) H (.bl (decide (c ∈ g))) := fun H1 _ _ q => ⟨c, S g, rfl, rfl, q H1 (Ex.refl H1)⟩
theorem rv_notInSS {c : Nat} {g : List Nat} : RV (fun x y H Q => ∃ (c : Nat) (z : Str), x = .str ⟨#[c]⟩ ∧ y = .str z ∧ Q (.bl (!decide (c ∈ z.cps.toList))) H) (.str (S [c])) (.str (S g)) H (.bl (!decide (c ∈ g))) := fun H1 _ _ q => ⟨c, S g, rfl, rfl, q H1 (Ex.refl H1)⟩
theorem rv_ltSS {a b : List Nat} : RV (fun x y H Q => ∃ i j, x = .str i ∧ y = .str j ∧ Q (.bl (decide (i.cps.toList < j.cps.toList))) H) (.str (S a)) (.str (S b)) H (.bl (decide (a < b))) := fun H1 _ _ q => ⟨S a, S b, rfl, rfl, q H1 (Ex.refl H1)⟩
theorem rv_catSS {a b : List Nat} (h : a.length + b.length ≤ 100000) : RV (fun x y H Q => ∃ i j, x = .str i ∧ y = .str j ∧ i.length + j.length ≤ sizeLine ∧ Q (.str (i ++ j)) H) (.str (S a)) (.str (S b)) H (.str (S (a ++ b))) := by
  have h2 := rv_catS (H := H) (a := S a) (b := S b) (by rw [S_len, S_len]; exact h)
  rw [S_app] at h2
  exact h2
theorem rc_lenSS {K : PySem.W.Frag} {l : List Nat} (h : l.length ≤ 100000) : RC (fun xs H Q => ∃ x n, xs = [x] ∧ LenV K x H n ∧ Q (.int n) H) [.str (S l)] H (.int l.length) := by
  have h2 := rc_lenS (K := K) (H := H) (w := S l) (by rw [S_len]; exact h)
  rw [S_len] at h2
  exact h2
theorem rc_lenStr {l : List Nat} (h : l.length ≤ 100000) : RC (fun xs H Q => ∃ z, xs = [V.str z] ∧ z.length ≤ sizeLine ∧ Q (.int z.length) H) [.str (S l)] H (.int l.length) := fun H1 _ _ q => ⟨S l, rfl, sz_of (by rw [S_len]; exact h), by rw [S_len]; exact q H1 (Ex.refl H1)⟩
theorem rv_eqII {a b : Int} : RV rEq (.int a) (.int b) H (.bl (decide (a = b))) := by
  have h2 := rv_eq (H := H) (x := .int a) (y := .int b) rfl
  have e : decide (V.int a = V.int b) = decide (a = b) := decide_eq_decide.mpr ⟨fun h => by injection h, fun h => by rw [h]⟩
  rw [e] at h2
  exact h2
theorem rv_neII {a b : Int} : RV rNe (.int a) (.int b) H (.bl (!decide (a = b))) := by
  have h2 := rv_ne (H := H) (x := .int a) (y := .int b) rfl
  have e : decide (V.int a = V.int b) = decide (a = b) := decide_eq_decide.mpr ⟨fun h => by injection h, fun h => by rw [h]⟩
  rw [e] at h2
  exact h2
theorem rv_neSS {a b : List Nat} : RV rNe (.str (S a)) (.str (S b)) H (.bl (!decide (a = b))) := by
  have h2 := rv_ne (H := H) (x := .str (S a)) (y := .str (S b)) rfl
  have e : decide (V.str (S a) = V.str (S b)) = decide (a = b) := decide_eq_decide.mpr ⟨fun h => S_inj (by injection h), fun h => by rw [h]⟩
  rw [e] at h2
  exact h2
theorem rv_eqSS {a b : List Nat} : RV rEq (.str (S a)) (.str (S b)) H (.bl (decide (a = b))) := by
  have h2 := rv_eq (H := H) (x := .str (S a)) (y := .str (S b)) rfl
  have e : decide (V.str (S a) = V.str (S b)) = decide (a = b) := by
    apply decide_eq_decide.mpr
    constructor
    · intro h
      exact S_inj (by injection h)
    · intro h
      rw [h]
  rw [e] at h2
  exact h2
end
/-! ### loops and comprehensions over a text -/
section
variable {K : PySem.W.Frag} {σ : L2.St} {H H' : Hp} {ta tb te tx : TE} {t : TT} {x y z v : V} {r : R2} {D : Ends} {tu tz : TS}
theorem its_at {l : List Nat} {i : Nat} {c : Nat} (h : (S l).cps[i]? = some c) : l[i]? = some c := by
  have h2 : l.toArray[i]? = some c := h
  simpa using h2
theorem its_sz (l : List Nat) : (S l).cps.size = l.length := by
  show l.toArray.size = l.length
  simp
theorem s_forS {l : List Nat} {j : Nat} (h : Ev te σ H (.str (S l))) (Pv : Nat → L2.St → Hp → Prop) (h0 : ∀ H1, Ex H H1 → Pv 0 σ H1)
    (hs : ∀ i c σ' H', l[i]? = some c → Pv i σ' H' → tu { D with nx := Pv (i + 1), ct := Pv (i + 1), bk := D.nx } (σ'.set j (some (.str (S [c])))) H') (hd : ∀ σ' H', Pv l.length σ' H' → D.nx σ' H') : tFor (iStr te) (gName j) tu D σ H :=
  h H (Ex.refl H) _ fun H1 e => ⟨S l, rfl, fun i m σ' H' => m = l.length - i ∧ i ≤ l.length ∧ Pv i σ' H', ⟨l.length, by simp, Nat.zero_le _, h0 H1 e⟩, fun i m σ' H' hw => by
    obtain ⟨rfl, hi, p⟩ := hw
    by_cases hlt : i < l.length
    · refine .inr ⟨by show i < (S l).cps.size; rw [its_sz]; exact hlt, Pv (i + 1), fun σ2 H2 p2 => ⟨l.length - (i + 1), by omega, rfl, hlt, p2⟩, fun x H2 hy => ?_⟩
      obtain ⟨e2, c, hc, ex⟩ := hy
      subst e2 ex
      exact hs i c σ' _ (its_at hc) p
    · have ei : i = l.length := by omega
      subst ei
      exact .inl ⟨by show (S l).cps.size ≤ l.length; rw [its_sz]; exact Nat.le_refl _, hd σ' H' p⟩⟩
theorem q_forS {l : List Nat} {j : Nat} (h : Ev te σ H (.str (S l))) (Pv : Nat → L2.St → Hp → Prop) (h0 : ∀ H1, Ex H H1 → Pv 0 σ H1)
    (hs : ∀ i c σ' H', l[i]? = some c → Pv i σ' H' → tu { D with nx := Pv (i + 1), ct := Pv (i + 1), bk := tz D } (σ'.set j (some (.str (S [c])))) H') (hd : ∀ σ' H', Pv l.length σ' H' → tz D σ' H') : tSeq (tFor (iStr te) (gName j) tu) tz D σ H :=
  s_forS (D := { D with nx := tz D }) h Pv h0 hs hd
theorem el_lcS {l : List Nat} {tl : TE} {j : Nat} {vs : List Nat} (f : Nat → Bool) (v : Nat → V) (h : Ev tl σ H (.str (S l))) (hz : l.length ≤ 40000) (hw : ∀ x, wipe ((wipe σ vs).set j (some x)) vs = wipe σ vs)
    (ht : ∀ (i : Nat) (c : Nat) H1, Ex H H1 → l[i]? = some c → EvT t ((wipe σ vs).set j (some (.str (S [c])))) H1 (f i)) (he : ∀ (i : Nat) (c : Nat) H1, Ex H H1 → l[i]? = some c → f i = true → Ev te ((wipe σ vs).set j (some (.str (S [c])))) H1 (v i)) :
    EvL (tLc (iStr tl) (gName j) t te vs) σ H (given l.length f v) := fun H0 e Q q => h H0 e _ fun H1 e1 => ⟨S l, rfl, fun Dl hD => by
  refine ⟨fun i m H' => m = l.length - i ∧ i ≤ l.length ∧ Cw H1 f v Dl i H', ⟨l.length, by simp, Nat.zero_le _, ⟨hD, Ex.new hD, upd_same⟩⟩, ?_⟩
  rintro i m H' ⟨rfl, hi, p⟩
  by_cases hlt : i < l.length
  · refine .inr ⟨by show i < (S l).cps.size; rw [its_sz]; exact hlt, Cw H1 f v Dl (i + 1), fun H2 p2 => ⟨l.length - (i + 1), by omega, rfl, hlt, p2⟩, fun x H2 hy => ?_⟩
    obtain ⟨e2, c, hc, ex⟩ := hy
    subst e2 ex
    have hc' := its_at hc
    exact ⟨hw _, cw_turn p (by omega) (ht i c H1 (e.trans e1) hc') (fun hf => he i c H1 (e.trans e1) hc' hf)⟩
  · have ei : i = l.length := by omega
    subst ei
    exact .inl ⟨by show (S l).cps.size ≤ l.length; rw [its_sz]; exact Nat.le_refl _, q Dl H' (fresh_back e1 p.1) (e1.trans p.2.1) p.2.2⟩⟩
end
theorem et_yes {σ : L2.St} {H : Hp} : EvT tYes σ H true := fun H1 _ _ q => q H1 (Ex.refl H1)
theorem given_all (n : Nat) (v : Nat → V) : given n (fun _ => true) v = (List.range n).map v := by
  unfold given
  rw [List.filter_eq_self.mpr (fun _ _ => rfl)]
theorem ev_index {K : PySem.W.Frag} {W : WX} {σ : L2.St} {H : Hp} {to : TE} {ta : TA} {z b : Str} {k : Nat} (ho : Ev to σ H (.str z)) (ha : EvA ta σ H [.str b]) (hk : Txt.index0 z b = some k) : Ev (tBMS K "str" (rIndexX W) to ta) σ H (.int (k : Int)) := fun H1 e _ q =>
  ho H1 e _ fun H2 e2 => ⟨rfl, ha H2 (e.trans e2) _ fun H3 e3 => ⟨z, b, rfl, rfl, fun j hj => by
    rw [hk] at hj
    cases hj
    exact q H3 (e2.trans e3), fun hn => by
    rw [hk] at hn
    cases hn⟩⟩
theorem given_filter {α : Type} (l : List α) (d : α) (p : α → Bool) (g : α → V) : given l.length (fun i => p (l.getD i d)) (fun i => g (l.getD i d)) = (l.filter p).map g := by
  unfold given
  have e : l = (List.range l.length).map fun i => l.getD i d := by
    apply List.ext_getElem
    · simp
    · intro i h1 h2
      simp [h1]
  conv => rhs; rw [e]
  rw [List.filter_map, List.map_map]
  rfl
theorem ev_pow10 {σ : L2.St} {H : Hp} {n v : Int} (h : (10 : Int) ^ n.toNat = v) (h0 : 0 ≤ n) (h1 : n ≤ 1000) : Ev (tOp (rI CPow fun i j => V.int (i ^ j.toNat)) (tC (V.int 10)) (tC (V.int n))) σ H (.int v) := by
  rw [← h]
  exact ev_op ev_c ev_c (rv_I ⟨h0, by omega, by decide⟩)
theorem getD_map_str (cs : List Nat) (k : Nat) : (cs.map fun c => V.str (S [c])).getD k (V.str (S [0])) = V.str (S [cs.getD k 0]) := by
  rw [List.getD_eq_getElem?_getD, List.getD_eq_getElem?_getD, List.getElem?_map]
  cases cs[k]? <;> rfl
theorem getD_in {l : List Nat} {k : Nat} (h : k < l.length) : l.getD k 0 ∈ l := by
  rw [List.getD_eq_getElem?_getD, List.getElem?_eq_getElem h]
  exact List.getElem_mem h
theorem emod_le_nat (i : Nat) {u : Int} (h : 0 < u) : (i : Int) % u ≤ i := by
  have h1 : (i : Int) % u + u * ((i : Int) / u) = i := by
    first
      | exact Int.emod_add_mul_ediv _ _
      | exact Int.emod_add_ediv _ _
  have h2 : 0 ≤ (i : Int) / u := Int.ediv_nonneg (by omega) (by omega)
  have h3 : 0 ≤ u * ((i : Int) / u) := Int.mul_nonneg (by omega) h2
  omega
theorem ev_to {σ : L2.St} {H : Hp} {te ti : TE} {l : List Nat} {k : Nat} (h : Ev te σ H (.str (S l))) (hi : Ev ti σ H (.int (k : Int))) (hl : l.length ≤ 100000) : Ev (tSl rSlS te tNoPart (tPart ti)) σ H (.str (S (l.take k))) := by
  have h := ev_slS h eo_none (eo_some hi) (by rw [S_len]; exact hl)
  rw [cut_to] at h
  exact h
theorem ev_from {σ : L2.St} {H : Hp} {te ti : TE} {l : List Nat} {k : Nat} (h : Ev te σ H (.str (S l))) (hi : Ev ti σ H (.int (k : Int))) (hl : l.length ≤ 100000) : Ev (tSl rSlS te (tPart ti) tNoPart) σ H (.str (S (l.drop k))) := by
  have h := ev_slS h (eo_some hi) eo_none (by rw [S_len]; exact hl)
  rw [cut_from] at h
  exact h
theorem op_first {σ : L2.St} {H : Hp} {r : R2} {ta tb : TE} {x : V} {Q : VK} (h : Ev ta σ H x) (k : ∀ H1, Ex H H1 → tb σ H1 fun y H2 => r x y H2 Q) : tOp r ta tb σ H Q := h H (Ex.refl H) _ k
theorem ret_op {σ : L2.St} {H : Hp} {r : R2} {ta tb : TE} {x : V} {D : Ends} (h : Ev ta σ H x) (k : ∀ H1, Ex H H1 → tb σ H1 fun y H2 => r x y H2 D.rt) : tRet (tOp r ta tb) D σ H := h H (Ex.refl H) _ k
end Lc
namespace Lc
open PySem PySem.Spec PyProof.Rows L2 Evl
/-! ### rows turned: the mathematics -/
theorem ext_getD {l m : List Nat} (h : l.length = m.length) (k : ∀ i, i < l.length → l.getD i 0 = m.getD i 0) : l = m := by
  apply List.ext_getElem h
  intro i h1 h2
  have := k i h1
  rw [List.getD_eq_getElem?_getD, List.getD_eq_getElem?_getD, List.getElem?_eq_getElem h1, List.getElem?_eq_getElem h2] at this
  exact this
def ix (n : Nat) (x : Int) : Nat := (x % (n : Int)).toNat
theorem ix_lt {n : Nat} (h : 0 < n) (x : Int) : ix n x < n := by
  have h0 := Int.emod_nonneg x (show (n : Int) ≠ 0 by omega)
  have h1 := Int.emod_lt_of_pos x (show (0 : Int) < n by omega)
  unfold ix
  omega
theorem ix_cast {n : Nat} (h : 0 < n) (x : Int) : ((ix n x : Nat) : Int) = x % (n : Int) := Int.toNat_of_nonneg (Int.emod_nonneg x (by omega))
theorem emod_split (x n : Int) : x % n + n * (x / n) = x := by
  first
    | exact Int.emod_add_mul_ediv _ _
    | exact Int.emod_add_ediv _ _
theorem ix_eq {n : Nat} (h : 0 < n) {x : Int} {r : Nat} (q : Int) (e : x = (r : Int) + (n : Int) * q) (hr : r < n) : ix n x = r := by
  unfold ix
  rw [e, Int.add_mul_emod_self_left, Int.emod_eq_of_lt (by omega) (by omega)]
  rfl
theorem ix_ex {n : Nat} (h : 0 < n) (x : Int) : ∃ q, x = ((ix n x : Nat) : Int) + (n : Int) * q := ⟨x / (n : Int), by rw [ix_cast h, emod_split]⟩
def mvL (l : List Nat) (a : Int) : List Nat := (List.range l.length).map fun (i : Nat) => l.getD (ix l.length ((i : Int) + a)) 0
theorem mvL_len (l : List Nat) (a : Int) : (mvL l a).length = l.length := by
  unfold mvL
  rw [List.length_map, List.length_range]
theorem mvL_get {l : List Nat} {a : Int} {i : Nat} (h : i < l.length) : (mvL l a).getD i 0 = l.getD (ix l.length ((i : Int) + a)) 0 := by
  unfold mvL
  rw [List.getD_eq_getElem?_getD, List.getElem?_map, List.getElem?_range h]
  rfl
theorem mvL_nil (a : Int) : mvL [] a = [] := rfl
theorem mvL_mvL (l : List Nat) (a b : Int) : mvL (mvL l a) b = mvL l (a + b) := by
  by_cases hn : 0 < l.length
  · refine ext_getD (by rw [mvL_len, mvL_len, mvL_len]) fun i hi => ?_
    rw [mvL_len, mvL_len] at hi
    rw [mvL_get (by rw [mvL_len]; exact hi), mvL_len, mvL_get (ix_lt hn _), mvL_get hi]
    refine congrArg (fun k => l.getD k 0) ?_
    obtain ⟨q1, e1⟩ := ix_ex hn ((i : Int) + b)
    obtain ⟨q2, e2⟩ := ix_ex hn (((ix l.length ((i : Int) + b) : Nat) : Int) + a)
    refine (ix_eq hn (q1 + q2) ?_ (ix_lt hn _)).symm
    rw [Int.mul_add]
    omega
  · have e : l = [] := List.length_eq_zero_iff.mp (by omega)
    subst e
    rfl
theorem mvL_mul (l : List Nat) (k : Int) : mvL l (k * (l.length : Int)) = l := by
  refine ext_getD (mvL_len _ _) fun i hi => ?_
  rw [mvL_len] at hi
  rw [mvL_get hi, ix_eq (r := i) (by omega) k (by rw [Int.mul_comm k]) hi]
theorem mvL_zero (l : List Nat) : mvL l 0 = l := by
  have h := mvL_mul l 0
  rw [Int.zero_mul] at h
  exact h
theorem mvL_rev (l : List Nat) (a : Int) : (mvL l a).reverse = mvL l.reverse (0 - a) := by
  have rg : ∀ (m : List Nat) (i : Nat), i < m.length → m.reverse.getD i 0 = m.getD (m.length - 1 - i) 0 := fun m i hi => by
    rw [List.getD_eq_getElem?_getD, List.getD_eq_getElem?_getD, List.getElem?_reverse hi]
  refine ext_getD (by rw [mvL_len, List.length_reverse, List.length_reverse, mvL_len]) fun i hi => ?_
  rw [List.length_reverse, mvL_len] at hi
  have hn : 0 < l.length := by omega
  rw [rg _ _ (by rw [mvL_len]; exact hi), mvL_len, mvL_get (by omega), mvL_get (by rw [List.length_reverse]; exact hi), List.length_reverse, rg _ _ (ix_lt hn _)]
  refine congrArg (fun k => l.getD k 0) ?_
  obtain ⟨q, e⟩ := ix_ex hn ((i : Int) + (0 - a))
  have hlt := ix_lt hn ((i : Int) + (0 - a))
  refine ix_eq hn (-q) ?_ (by omega)
  rw [Int.mul_neg]
  omega
def rotL (l : List Nat) (s : Nat) : List Nat := l.drop s ++ l.take s
theorem rotL_mvL {l : List Nat} {s : Nat} (hs : s < l.length) : rotL l s = mvL l (s : Int) := by
  unfold rotL
  have hn : 0 < l.length := by omega
  refine ext_getD (by rw [List.length_append, List.length_drop, List.length_take, mvL_len]; omega) fun i hi => ?_
  rw [List.length_append, List.length_drop, List.length_take] at hi
  rw [mvL_get (by omega), List.getD_eq_getElem?_getD, List.getD_eq_getElem?_getD]
  by_cases h : i < l.length - s
  · rw [List.getElem?_append_left (by rw [List.length_drop]; exact h), List.getElem?_drop, ix_eq (r := s + i) hn 0 (by omega) (by omega)]
  · rw [List.getElem?_append_right (by rw [List.length_drop]; omega), List.length_drop, List.getElem?_take_of_lt (by omega), ix_eq (r := i - (l.length - s)) hn 1 (by omega) (by omega)]
theorem mvL_mod {l : List Nat} (hn : 0 < l.length) (a : Int) : mvL l ((ix l.length a : Nat) : Int) = mvL l a := by
  refine ext_getD (by rw [mvL_len, mvL_len]) fun i hi => ?_
  rw [mvL_len] at hi
  rw [mvL_get hi, mvL_get hi]
  refine congrArg (fun k => l.getD k 0) ?_
  obtain ⟨q1, e1⟩ := ix_ex hn a
  obtain ⟨q2, e2⟩ := ix_ex hn ((i : Int) + a)
  refine ix_eq hn (q2 - q1) ?_ (ix_lt hn _)
  rw [Int.mul_sub]
  omega
/-! ### the least of them -/
def bstL (l : List Nat) : Nat → List Nat
  | 0 => l
  | k + 1 => if mvL l (k : Int) < bstL l k then mvL l (k : Int) else bstL l k
theorem bstL_in (l : List Nat) : ∀ k, ∃ a : Int, bstL l k = mvL l a
  | 0 => ⟨0, (mvL_zero l).symm⟩
  | k + 1 => by
    unfold bstL
    split
    · exact ⟨_, rfl⟩
    · exact bstL_in l k
theorem lt_irr (a : List Nat) : ¬ a < a := List.lt_irrefl a
theorem bstL_le (l : List Nat) : ∀ k i : Nat, i < k → ¬ mvL l (i : Int) < bstL l k
  | 0, i, h => by omega
  | k + 1, i, h => by
    unfold bstL
    split
    · rename_i hlt
      by_cases e : i = k
      · rw [e]
        exact lt_irr _
      · intro h2
        exact bstL_le l k i (by omega) (List.lt_trans h2 hlt)
    · rename_i hn
      by_cases e : i = k
      · rw [e]
        exact hn
      · exact bstL_le l k i (by omega)
theorem eq_of_nlt {a b : List Nat} (h1 : ¬ a < b) (h2 : ¬ b < a) : a = b := List.le_antisymm (List.not_lt.mp h2) (List.not_lt.mp h1)
end Lc
namespace K01
open PySem PySem.Spec PyProof.Rows L2 Lc
abbrev R : PySem.W.OpenRow := PySem.W.OpenLaw.row PySem.Challenge.rw_leapcard_k01_turns_and_mirrors
def topS (i : Nat) : Stmt := PySem.Challenge.pw_leapcard_k01_turns_and_mirrors.main.body.getD i (.Pass ⟨0, 0, 0, 0⟩)
abbrev st_InvalidRow_init : Stmt := inClass (topS 2) 0
abbrev ps_InvalidRow_init : List Str := ["self", "row"]
abbrev ns_InvalidRow_init : List Str := ["self", "row"]
theorem sc_InvalidRow_init : FnScope ns_InvalidRow_init ps_InvalidRow_init (defScope st_InvalidRow_init) := ⟨rfl, rfl, rfl, by decide +kernel, rfl, by decide +kernel, by decide +kernel⟩
abbrev st_check_row : Stmt := topS 5
abbrev ps_check_row : List Str := ["row", "signs"]
abbrev ns_check_row : List Str := ["row", "signs", "sign"]
theorem sc_check_row : FnScope ns_check_row ps_check_row (defScope st_check_row) := ⟨rfl, rfl, rfl, by decide +kernel, rfl, by decide +kernel, by decide +kernel⟩
abbrev st_mirror : Stmt := topS 6
abbrev ps_mirror : List Str := ["row"]
abbrev ns_mirror : List Str := ["row"]
theorem sc_mirror : FnScope ns_mirror ps_mirror (defScope st_mirror) := ⟨rfl, rfl, rfl, by decide +kernel, rfl, by decide +kernel, by decide +kernel⟩
abbrev st_turned : Stmt := topS 7
abbrev ps_turned : List Str := ["row", "by"]
abbrev ns_turned : List Str := ["row", "by", "start"]
theorem sc_turned : FnScope ns_turned ps_turned (defScope st_turned) := ⟨rfl, rfl, rfl, by decide +kernel, rfl, by decide +kernel, by decide +kernel⟩
abbrev st_least_turn : Stmt := topS 8
abbrev ps_least_turn : List Str := ["row"]
abbrev ns_least_turn : List Str := ["row", "start"]
theorem sc_least_turn : FnScope ns_least_turn ps_least_turn (defScope st_least_turn) := ⟨rfl, rfl, rfl, by decide +kernel, rfl, by decide +kernel, by decide +kernel⟩
abbrev st_law_cell : Stmt := topS 10
abbrev ps_law_cell : List Str := ["script", "at"]
abbrev ns_law_cell : List Str := ["script", "at"]
theorem sc_law_cell : FnScope ns_law_cell ps_law_cell (defScope st_law_cell) := ⟨rfl, rfl, rfl, by decide +kernel, rfl, by decide +kernel, by decide +kernel⟩
abbrev st_law_box : Stmt := topS 11
abbrev ps_law_box : List Str := ["script", "at"]
abbrev ns_law_box : List Str := ["script", "at", "cell", "seed"]
theorem sc_law_box : FnScope ns_law_box ps_law_box (defScope st_law_box) := ⟨rfl, rfl, rfl, by decide +kernel, rfl, by decide +kernel, by decide +kernel⟩
abbrev st_law_take : Stmt := topS 12
abbrev ps_law_take : List Str := ["box", "many"]
abbrev ns_law_take : List Str := ["box", "many", "mixed", "drawn"]
theorem sc_law_take : FnScope ns_law_take ps_law_take (defScope st_law_take) := ⟨rfl, rfl, rfl, by decide +kernel, rfl, by decide +kernel, by decide +kernel⟩
abbrev st_law_text : Stmt := topS 13
abbrev ps_law_text : List Str := ["told", "due"]
abbrev ns_law_text : List Str := ["told", "due"]
theorem sc_law_text : FnScope ns_law_text ps_law_text (defScope st_law_text) := ⟨rfl, rfl, rfl, by decide +kernel, rfl, by decide +kernel, by decide +kernel⟩
abbrev st_law_belongs : Stmt := topS 14
abbrev ps_law_belongs : List Str := ["sign", "kinds", "walled", "dotted"]
abbrev ns_law_belongs : List Str := ["sign", "kinds", "walled", "dotted"]
theorem sc_law_belongs : FnScope ns_law_belongs ps_law_belongs (defScope st_law_belongs) := ⟨rfl, rfl, rfl, by decide +kernel, rfl, by decide +kernel, by decide +kernel⟩
abbrev st_law_string : Stmt := topS 15
abbrev ps_law_string : List Str := ["kinds", "walled", "dotted"]
abbrev ns_law_string : List Str := ["kinds", "walled", "dotted", "sign"]
theorem sc_law_string : FnScope ns_law_string ps_law_string (defScope st_law_string) := ⟨rfl, rfl, rfl, by decide +kernel, rfl, by decide +kernel, by decide +kernel⟩
abbrev st_law_alphabet : Stmt := topS 16
abbrev ps_law_alphabet : List Str := ["box"]
abbrev ns_law_alphabet : List Str := ["box", "mode"]
theorem sc_law_alphabet : FnScope ns_law_alphabet ps_law_alphabet (defScope st_law_alphabet) := ⟨rfl, rfl, rfl, by decide +kernel, rfl, by decide +kernel, by decide +kernel⟩
abbrev st_law_size : Stmt := topS 17
abbrev ps_law_size : List Str := ["box"]
abbrev ns_law_size : List Str := ["box", "mode"]
theorem sc_law_size : FnScope ns_law_size ps_law_size (defScope st_law_size) := ⟨rfl, rfl, rfl, by decide +kernel, rfl, by decide +kernel, by decide +kernel⟩
abbrev st_law_bent : Stmt := topS 18
abbrev ps_law_bent : List Str := ["box", "row"]
abbrev ns_law_bent : List Str := ["box", "row", "strange", "sign", "short", "at"]
theorem sc_law_bent : FnScope ns_law_bent ps_law_bent (defScope st_law_bent) := ⟨rfl, rfl, rfl, by decide +kernel, rfl, by decide +kernel, by decide +kernel⟩
abbrev st_law_row : Stmt := topS 19
abbrev ps_law_row : List Str := ["script", "box"]
abbrev ns_law_row : List Str := ["script", "box", "alphabet", "size", "unit", "letters", "part", "row", "at"]
theorem sc_law_row : FnScope ns_law_row ps_law_row (defScope st_law_row) := ⟨rfl, rfl, rfl, by decide +kernel, rfl, by decide +kernel, by decide +kernel⟩
abbrev st_law_shift : Stmt := topS 20
abbrev ps_law_shift : List Str := ["box", "size"]
abbrev ns_law_shift : List Str := ["box", "size", "mode", "far"]
theorem sc_law_shift : FnScope ns_law_shift ps_law_shift (defScope st_law_shift) := ⟨rfl, rfl, rfl, by decide +kernel, rfl, by decide +kernel, by decide +kernel⟩
abbrev st_law_moved : Stmt := topS 21
abbrev ps_law_moved : List Str := ["row", "by"]
abbrev ns_law_moved : List Str := ["row", "by", "size", "at"]
theorem sc_law_moved : FnScope ns_law_moved ps_law_moved (defScope st_law_moved) := ⟨rfl, rfl, rfl, by decide +kernel, rfl, by decide +kernel, by decide +kernel⟩
abbrev st_law_image : Stmt := topS 22
abbrev ps_law_image : List Str := ["row"]
abbrev ns_law_image : List Str := ["row", "at"]
theorem sc_law_image : FnScope ns_law_image ps_law_image (defScope st_law_image) := ⟨rfl, rfl, rfl, by decide +kernel, rfl, by decide +kernel, by decide +kernel⟩
abbrev st_law_turns : Stmt := topS 23
abbrev ps_law_turns : List Str := ["row", "first", "second"]
abbrev ns_law_turns : List Str := ["row", "first", "second", "told", "rounds"]
theorem sc_law_turns : FnScope ns_law_turns ps_law_turns (defScope st_law_turns) := ⟨rfl, rfl, rfl, by decide +kernel, rfl, by decide +kernel, by decide +kernel⟩
abbrev st_law_mirrors : Stmt := topS 24
abbrev ps_law_mirrors : List Str := ["row", "first"]
abbrev ns_law_mirrors : List Str := ["row", "first", "told"]
theorem sc_law_mirrors : FnScope ns_law_mirrors ps_law_mirrors (defScope st_law_mirrors) := ⟨rfl, rfl, rfl, by decide +kernel, rfl, by decide +kernel, by decide +kernel⟩
abbrev st_law_least : Stmt := topS 25
abbrev ps_law_least : List Str := ["row", "first", "second"]
abbrev ns_law_least : List Str := ["row", "first", "second", "best", "by", "one"]
theorem sc_law_least : FnScope ns_law_least ps_law_least (defScope st_law_least) := ⟨rfl, rfl, rfl, by decide +kernel, rfl, by decide +kernel, by decide +kernel⟩
abbrev st_law_call : Stmt := topS 26
abbrev ps_law_call : List Str := ["which", "row", "by"]
abbrev ns_law_call : List Str := ["which", "row", "by"]
theorem sc_law_call : FnScope ns_law_call ps_law_call (defScope st_law_call) := ⟨rfl, rfl, rfl, by decide +kernel, rfl, by decide +kernel, by decide +kernel⟩
abbrev st_law_refuses : Stmt := topS 27
abbrev ps_law_refuses : List Str := ["which", "row", "by"]
abbrev ns_law_refuses : List Str := ["which", "row", "by", "raised"]
theorem sc_law_refuses : FnScope ns_law_refuses ps_law_refuses (defScope st_law_refuses) := ⟨rfl, rfl, rfl, by decide +kernel, rfl, by decide +kernel, by decide +kernel⟩
abbrev st_law : Stmt := topS 28
abbrev ps_law : List Str := ["script"]
abbrev ns_law : List Str := ["script", "sizes", "row", "first", "second", "bad", "by"]
theorem sc_law : FnScope ns_law ps_law (defScope st_law) := ⟨rfl, rfl, rfl, by decide +kernel, rfl, by decide +kernel, by decide +kernel⟩
/-! ### the head -/
def d_InvalidRow_init : He.DefD := ⟨("InvalidRow", some "__init__"), "__init__", "InvalidRow.__init__", defArgs st_InvalidRow_init, defBody st_InvalidRow_init, defScope st_InvalidRow_init, [], []⟩
def d_check_row : He.DefD := ⟨("check_row", none), "check_row", "check_row", defArgs st_check_row, defBody st_check_row, defScope st_check_row, [.str "#.:ABCDabcd"], []⟩
def d_mirror : He.DefD := ⟨("mirror", none), "mirror", "mirror", defArgs st_mirror, defBody st_mirror, defScope st_mirror, [], []⟩
def d_turned : He.DefD := ⟨("turned", none), "turned", "turned", defArgs st_turned, defBody st_turned, defScope st_turned, [], []⟩
def d_least_turn : He.DefD := ⟨("least_turn", none), "least_turn", "least_turn", defArgs st_least_turn, defBody st_least_turn, defScope st_least_turn, [], []⟩
def d_law_cell : He.DefD := ⟨("_law_cell", none), "_law_cell", "_law_cell", defArgs st_law_cell, defBody st_law_cell, defScope st_law_cell, [], []⟩
def d_law_box : He.DefD := ⟨("_law_box", none), "_law_box", "_law_box", defArgs st_law_box, defBody st_law_box, defScope st_law_box, [], []⟩
def d_law_take : He.DefD := ⟨("_law_take", none), "_law_take", "_law_take", defArgs st_law_take, defBody st_law_take, defScope st_law_take, [], []⟩
def d_law_text : He.DefD := ⟨("_law_text", none), "_law_text", "_law_text", defArgs st_law_text, defBody st_law_text, defScope st_law_text, [], []⟩
def d_law_belongs : He.DefD := ⟨("_law_belongs", none), "_law_belongs", "_law_belongs", defArgs st_law_belongs, defBody st_law_belongs, defScope st_law_belongs, [], []⟩
def d_law_string : He.DefD := ⟨("_law_string", none), "_law_string", "_law_string", defArgs st_law_string, defBody st_law_string, defScope st_law_string, [], []⟩
def d_law_alphabet : He.DefD := ⟨("_law_alphabet", none), "_law_alphabet", "_law_alphabet", defArgs st_law_alphabet, defBody st_law_alphabet, defScope st_law_alphabet, [], []⟩
def d_law_size : He.DefD := ⟨("_law_size", none), "_law_size", "_law_size", defArgs st_law_size, defBody st_law_size, defScope st_law_size, [], []⟩
def d_law_bent : He.DefD := ⟨("_law_bent", none), "_law_bent", "_law_bent", defArgs st_law_bent, defBody st_law_bent, defScope st_law_bent, [], []⟩
def d_law_row : He.DefD := ⟨("_law_row", none), "_law_row", "_law_row", defArgs st_law_row, defBody st_law_row, defScope st_law_row, [], []⟩
def d_law_shift : He.DefD := ⟨("_law_shift", none), "_law_shift", "_law_shift", defArgs st_law_shift, defBody st_law_shift, defScope st_law_shift, [], []⟩
def d_law_moved : He.DefD := ⟨("_law_moved", none), "_law_moved", "_law_moved", defArgs st_law_moved, defBody st_law_moved, defScope st_law_moved, [], []⟩
def d_law_image : He.DefD := ⟨("_law_image", none), "_law_image", "_law_image", defArgs st_law_image, defBody st_law_image, defScope st_law_image, [], []⟩
def d_law_turns : He.DefD := ⟨("_law_turns", none), "_law_turns", "_law_turns", defArgs st_law_turns, defBody st_law_turns, defScope st_law_turns, [], []⟩
def d_law_mirrors : He.DefD := ⟨("_law_mirrors", none), "_law_mirrors", "_law_mirrors", defArgs st_law_mirrors, defBody st_law_mirrors, defScope st_law_mirrors, [], []⟩
def d_law_least : He.DefD := ⟨("_law_least", none), "_law_least", "_law_least", defArgs st_law_least, defBody st_law_least, defScope st_law_least, [], []⟩
def d_law_call : He.DefD := ⟨("_law_call", none), "_law_call", "_law_call", defArgs st_law_call, defBody st_law_call, defScope st_law_call, [], []⟩
def d_law_refuses : He.DefD := ⟨("_law_refuses", none), "_law_refuses", "_law_refuses", defArgs st_law_refuses, defBody st_law_refuses, defScope st_law_refuses, [], []⟩
def d_law : He.DefD := ⟨("law", none), "law", "law", defArgs st_law, defBody st_law, defScope st_law, [], []⟩
def fn : List He.DefD := [d_InvalidRow_init, d_check_row, d_mirror, d_turned, d_least_turn, d_law_cell, d_law_box, d_law_take, d_law_text, d_law_belongs, d_law_string, d_law_alphabet, d_law_size, d_law_bent, d_law_row, d_law_shift, d_law_moved, d_law_image, d_law_turns, d_law_mirrors, d_law_least, d_law_call, d_law_refuses, d_law]
def fa : List He.Fa := [.glo "LeapError", .glo "InvalidRow", .str "SIGNS" "#.:ABCDabcd", .glo "check_row", .glo "mirror", .glo "turned", .glo "least_turn", .glo "_law_cell", .glo "_law_box", .glo "_law_take", .glo "_law_text", .glo "_law_belongs", .glo "_law_string", .glo "_law_alphabet", .glo "_law_size", .glo "_law_bent", .glo "_law_row", .glo "_law_shift", .glo "_law_moved", .glo "_law_image", .glo "_law_turns", .glo "_law_mirrors", .glo "_law_least", .glo "_law_call", .glo "_law_refuses", .glo "law", .free "len", .free "range", .free "min", .free "sum", .free "int", .free "str", .free "isinstance", .free "ValueError"]

def clsInitB (K : PySem.W.Frag) (C : Addr) : Bool := decide (PySem.W.specialIn K (.ref C) "__getattribute__" = some (some (.builtin "type.__getattribute__"))) && (PySem.W.readsIn K C (.type "type") && (match PySem.W.findCls K (.ref C) (.type "type") "__init__" with
  | some (.val (.builtin b)) => b == "ValueError.__init__"
  | _ => false))
def initB (K : PySem.W.Frag) (C : Addr) : Bool := decide (PySem.W.findIn K (.ref C) "__init__" = some (some (.ref (He.ma K C "__init__")))) && decide (PySem.W.typeIn K (.ref (He.ma K C "__init__")) = some (.type "function"))
def ex (K : PySem.W.Frag) : Bool := oexB K (He.ga K "InvalidRow") && (xfB K (He.ga K "InvalidRow") && (initB K (He.ga K "InvalidRow") && (clsInitB K (He.ga K "LeapError") &&
  (decide (PySem.W.findIn K (.ref (He.ga K "InvalidRow")) "row" = some none) && (decide (PySem.W.exmOne K (.ref (He.ga K "InvalidRow")) (.ref (He.ga K "LeapError")) = some true) && (decide (PySem.W.kitOne K (.ref (He.ga K "InvalidRow")) (.ref (He.ga K "InvalidRow")) = some true) && PySem.W.keepIn K (.ref (He.ga K "LeapError"))))))))

def names0 : List PySem.Str := ["LeapError", "InvalidRow", "SIGNS", "check_row", "mirror", "turned", "least_turn", "_law_cell", "_law_box", "_law_take", "_law_text", "_law_belongs", "_law_string", "_law_alphabet", "_law_size", "_law_bent", "_law_row", "_law_shift", "_law_moved", "_law_image", "_law_turns", "_law_mirrors", "_law_least", "_law_call", "_law_refuses"]
def names : List PySem.Str := names0
abbrev hk : PySem.W.Hook := hookM 4 fa fn ex
def ob (s : PySem.W.SharedT) : AlE := obsEG 4 fa fn ex (HandSHeadRun.getT s)
theorem ob_eq (s : PySem.W.SharedT) : ob s = hk.obs s.abs := obsEG_eq (HandSHeadRun.getT_eq s)
theorem run (w : World) : HandSHeadRun.RunEq R (PySem.W.view R.prog [28]) hk ob 6000 names w := by
  intro os
  kernel_rfl
end K01
namespace K01
open PySem PySem.Spec PyProof.Rows L2 Lc
structure Tx (K : PySem.W.Frag) (mg : Str → Option Value) : Prop where
  mk ::
  h : ∃ hp : Heap, K.In hp ∧ hp.Ns mainGlobals mg
  c : SaysM fa fn ex K
section
variable {K : PySem.W.Frag} {mg : Str → Option Value}
theorem m_LeapError (T : Tx K mg) : mg "LeapError" = some (.ref (He.ga K "LeapError")) := by obtain ⟨⟨hp, X, G⟩, c⟩ := T; exact He.glo_ok X G (c.1.fact 0 (f := .glo "LeapError") rfl)
theorem m_InvalidRow (T : Tx K mg) : mg "InvalidRow" = some (.ref (He.ga K "InvalidRow")) := by obtain ⟨⟨hp, X, G⟩, c⟩ := T; exact He.glo_ok X G (c.1.fact 1 (f := .glo "InvalidRow") rfl)
theorem m_SIGNS (T : Tx K mg) : ∃ t, mg "SIGNS" = some (.str "#.:ABCDabcd" t) := by obtain ⟨⟨hp, X, G⟩, c⟩ := T; exact He.str_ok X G (c.1.fact 2 (f := .str "SIGNS" "#.:ABCDabcd") rfl)
theorem m_check_row (T : Tx K mg) : mg "check_row" = some (.ref (He.ga K "check_row")) := by obtain ⟨⟨hp, X, G⟩, c⟩ := T; exact He.glo_ok X G (c.1.fact 3 (f := .glo "check_row") rfl)
theorem m_mirror (T : Tx K mg) : mg "mirror" = some (.ref (He.ga K "mirror")) := by obtain ⟨⟨hp, X, G⟩, c⟩ := T; exact He.glo_ok X G (c.1.fact 4 (f := .glo "mirror") rfl)
theorem m_turned (T : Tx K mg) : mg "turned" = some (.ref (He.ga K "turned")) := by obtain ⟨⟨hp, X, G⟩, c⟩ := T; exact He.glo_ok X G (c.1.fact 5 (f := .glo "turned") rfl)
theorem m_least_turn (T : Tx K mg) : mg "least_turn" = some (.ref (He.ga K "least_turn")) := by obtain ⟨⟨hp, X, G⟩, c⟩ := T; exact He.glo_ok X G (c.1.fact 6 (f := .glo "least_turn") rfl)
theorem m_law_cell (T : Tx K mg) : mg "_law_cell" = some (.ref (He.ga K "_law_cell")) := by obtain ⟨⟨hp, X, G⟩, c⟩ := T; exact He.glo_ok X G (c.1.fact 7 (f := .glo "_law_cell") rfl)
theorem m_law_box (T : Tx K mg) : mg "_law_box" = some (.ref (He.ga K "_law_box")) := by obtain ⟨⟨hp, X, G⟩, c⟩ := T; exact He.glo_ok X G (c.1.fact 8 (f := .glo "_law_box") rfl)
theorem m_law_take (T : Tx K mg) : mg "_law_take" = some (.ref (He.ga K "_law_take")) := by obtain ⟨⟨hp, X, G⟩, c⟩ := T; exact He.glo_ok X G (c.1.fact 9 (f := .glo "_law_take") rfl)
theorem m_law_text (T : Tx K mg) : mg "_law_text" = some (.ref (He.ga K "_law_text")) := by obtain ⟨⟨hp, X, G⟩, c⟩ := T; exact He.glo_ok X G (c.1.fact 10 (f := .glo "_law_text") rfl)
theorem m_law_belongs (T : Tx K mg) : mg "_law_belongs" = some (.ref (He.ga K "_law_belongs")) := by obtain ⟨⟨hp, X, G⟩, c⟩ := T; exact He.glo_ok X G (c.1.fact 11 (f := .glo "_law_belongs") rfl)
theorem m_law_string (T : Tx K mg) : mg "_law_string" = some (.ref (He.ga K "_law_string")) := by obtain ⟨⟨hp, X, G⟩, c⟩ := T; exact He.glo_ok X G (c.1.fact 12 (f := .glo "_law_string") rfl)
theorem m_law_alphabet (T : Tx K mg) : mg "_law_alphabet" = some (.ref (He.ga K "_law_alphabet")) := by obtain ⟨⟨hp, X, G⟩, c⟩ := T; exact He.glo_ok X G (c.1.fact 13 (f := .glo "_law_alphabet") rfl)
theorem m_law_size (T : Tx K mg) : mg "_law_size" = some (.ref (He.ga K "_law_size")) := by obtain ⟨⟨hp, X, G⟩, c⟩ := T; exact He.glo_ok X G (c.1.fact 14 (f := .glo "_law_size") rfl)
theorem m_law_bent (T : Tx K mg) : mg "_law_bent" = some (.ref (He.ga K "_law_bent")) := by obtain ⟨⟨hp, X, G⟩, c⟩ := T; exact He.glo_ok X G (c.1.fact 15 (f := .glo "_law_bent") rfl)
theorem m_law_row (T : Tx K mg) : mg "_law_row" = some (.ref (He.ga K "_law_row")) := by obtain ⟨⟨hp, X, G⟩, c⟩ := T; exact He.glo_ok X G (c.1.fact 16 (f := .glo "_law_row") rfl)
theorem m_law_shift (T : Tx K mg) : mg "_law_shift" = some (.ref (He.ga K "_law_shift")) := by obtain ⟨⟨hp, X, G⟩, c⟩ := T; exact He.glo_ok X G (c.1.fact 17 (f := .glo "_law_shift") rfl)
theorem m_law_moved (T : Tx K mg) : mg "_law_moved" = some (.ref (He.ga K "_law_moved")) := by obtain ⟨⟨hp, X, G⟩, c⟩ := T; exact He.glo_ok X G (c.1.fact 18 (f := .glo "_law_moved") rfl)
theorem m_law_image (T : Tx K mg) : mg "_law_image" = some (.ref (He.ga K "_law_image")) := by obtain ⟨⟨hp, X, G⟩, c⟩ := T; exact He.glo_ok X G (c.1.fact 19 (f := .glo "_law_image") rfl)
theorem m_law_turns (T : Tx K mg) : mg "_law_turns" = some (.ref (He.ga K "_law_turns")) := by obtain ⟨⟨hp, X, G⟩, c⟩ := T; exact He.glo_ok X G (c.1.fact 20 (f := .glo "_law_turns") rfl)
theorem m_law_mirrors (T : Tx K mg) : mg "_law_mirrors" = some (.ref (He.ga K "_law_mirrors")) := by obtain ⟨⟨hp, X, G⟩, c⟩ := T; exact He.glo_ok X G (c.1.fact 21 (f := .glo "_law_mirrors") rfl)
theorem m_law_least (T : Tx K mg) : mg "_law_least" = some (.ref (He.ga K "_law_least")) := by obtain ⟨⟨hp, X, G⟩, c⟩ := T; exact He.glo_ok X G (c.1.fact 22 (f := .glo "_law_least") rfl)
theorem m_law_call (T : Tx K mg) : mg "_law_call" = some (.ref (He.ga K "_law_call")) := by obtain ⟨⟨hp, X, G⟩, c⟩ := T; exact He.glo_ok X G (c.1.fact 23 (f := .glo "_law_call") rfl)
theorem m_law_refuses (T : Tx K mg) : mg "_law_refuses" = some (.ref (He.ga K "_law_refuses")) := by obtain ⟨⟨hp, X, G⟩, c⟩ := T; exact He.glo_ok X G (c.1.fact 24 (f := .glo "_law_refuses") rfl)
theorem m_law (T : Tx K mg) : mg "law" = some (.ref (He.ga K "law")) := by obtain ⟨⟨hp, X, G⟩, c⟩ := T; exact He.glo_ok X G (c.1.fact 25 (f := .glo "law") rfl)
theorem m_len (T : Tx K mg) : mg "len" = none := by obtain ⟨⟨hp, X, G⟩, c⟩ := T; exact He.free_ok X G (c.1.fact 26 (f := .free "len") rfl)
theorem m_range (T : Tx K mg) : mg "range" = none := by obtain ⟨⟨hp, X, G⟩, c⟩ := T; exact He.free_ok X G (c.1.fact 27 (f := .free "range") rfl)
theorem m_min (T : Tx K mg) : mg "min" = none := by obtain ⟨⟨hp, X, G⟩, c⟩ := T; exact He.free_ok X G (c.1.fact 28 (f := .free "min") rfl)
theorem m_sum (T : Tx K mg) : mg "sum" = none := by obtain ⟨⟨hp, X, G⟩, c⟩ := T; exact He.free_ok X G (c.1.fact 29 (f := .free "sum") rfl)
theorem m_int (T : Tx K mg) : mg "int" = none := by obtain ⟨⟨hp, X, G⟩, c⟩ := T; exact He.free_ok X G (c.1.fact 30 (f := .free "int") rfl)
theorem m_str (T : Tx K mg) : mg "str" = none := by obtain ⟨⟨hp, X, G⟩, c⟩ := T; exact He.free_ok X G (c.1.fact 31 (f := .free "str") rfl)
theorem m_isinstance (T : Tx K mg) : mg "isinstance" = none := by obtain ⟨⟨hp, X, G⟩, c⟩ := T; exact He.free_ok X G (c.1.fact 32 (f := .free "isinstance") rfl)
theorem m_ValueError (T : Tx K mg) : mg "ValueError" = none := by obtain ⟨⟨hp, X, G⟩, c⟩ := T; exact He.free_ok X G (c.1.fact 33 (f := .free "ValueError") rfl)
theorem h_InvalidRow_init (T : Tx K mg) : HasD K d_InvalidRow_init := has_of T.c.1 0 rfl
theorem k_InvalidRow_init (T : Tx K mg) : PySem.W.keepIn K (.ref (He.fAd K d_InvalidRow_init.at_)) = true := (h_InvalidRow_init T).kp
theorem b_InvalidRow_init (T : Tx K mg) : Binds K (fdOf K (He.fAd K d_InvalidRow_init.at_)) ps_InvalidRow_init [] := FunD.bindsN (ps := ps_InvalidRow_init) (h_InvalidRow_init T) fun _ _ _ _ _ _ us hl => match us, hl with | [_, _], _ => rfl
theorem h_check_row (T : Tx K mg) : HasD K d_check_row := has_of T.c.1 1 rfl
theorem k_check_row (T : Tx K mg) : PySem.W.keepIn K (.ref (He.fAd K d_check_row.at_)) = true := (h_check_row T).kp
-- b_check_row: by hand
theorem h_mirror (T : Tx K mg) : HasD K d_mirror := has_of T.c.1 2 rfl
theorem k_mirror (T : Tx K mg) : PySem.W.keepIn K (.ref (He.fAd K d_mirror.at_)) = true := (h_mirror T).kp
theorem b_mirror (T : Tx K mg) : Binds K (fdOf K (He.fAd K d_mirror.at_)) ps_mirror [] := FunD.bindsN (ps := ps_mirror) (h_mirror T) fun _ _ _ _ _ _ us hl => match us, hl with | [_], _ => rfl
theorem h_turned (T : Tx K mg) : HasD K d_turned := has_of T.c.1 3 rfl
theorem k_turned (T : Tx K mg) : PySem.W.keepIn K (.ref (He.fAd K d_turned.at_)) = true := (h_turned T).kp
theorem b_turned (T : Tx K mg) : Binds K (fdOf K (He.fAd K d_turned.at_)) ps_turned [] := FunD.bindsN (ps := ps_turned) (h_turned T) fun _ _ _ _ _ _ us hl => match us, hl with | [_, _], _ => rfl
theorem h_least_turn (T : Tx K mg) : HasD K d_least_turn := has_of T.c.1 4 rfl
theorem k_least_turn (T : Tx K mg) : PySem.W.keepIn K (.ref (He.fAd K d_least_turn.at_)) = true := (h_least_turn T).kp
theorem b_least_turn (T : Tx K mg) : Binds K (fdOf K (He.fAd K d_least_turn.at_)) ps_least_turn [] := FunD.bindsN (ps := ps_least_turn) (h_least_turn T) fun _ _ _ _ _ _ us hl => match us, hl with | [_], _ => rfl
theorem h_law_cell (T : Tx K mg) : HasD K d_law_cell := has_of T.c.1 5 rfl
theorem k_law_cell (T : Tx K mg) : PySem.W.keepIn K (.ref (He.fAd K d_law_cell.at_)) = true := (h_law_cell T).kp
theorem b_law_cell (T : Tx K mg) : Binds K (fdOf K (He.fAd K d_law_cell.at_)) ps_law_cell [] := FunD.bindsN (ps := ps_law_cell) (h_law_cell T) fun _ _ _ _ _ _ us hl => match us, hl with | [_, _], _ => rfl
theorem h_law_box (T : Tx K mg) : HasD K d_law_box := has_of T.c.1 6 rfl
theorem k_law_box (T : Tx K mg) : PySem.W.keepIn K (.ref (He.fAd K d_law_box.at_)) = true := (h_law_box T).kp
theorem b_law_box (T : Tx K mg) : Binds K (fdOf K (He.fAd K d_law_box.at_)) ps_law_box [] := FunD.bindsN (ps := ps_law_box) (h_law_box T) fun _ _ _ _ _ _ us hl => match us, hl with | [_, _], _ => rfl
theorem h_law_take (T : Tx K mg) : HasD K d_law_take := has_of T.c.1 7 rfl
theorem k_law_take (T : Tx K mg) : PySem.W.keepIn K (.ref (He.fAd K d_law_take.at_)) = true := (h_law_take T).kp
theorem b_law_take (T : Tx K mg) : Binds K (fdOf K (He.fAd K d_law_take.at_)) ps_law_take [] := FunD.bindsN (ps := ps_law_take) (h_law_take T) fun _ _ _ _ _ _ us hl => match us, hl with | [_, _], _ => rfl
theorem h_law_text (T : Tx K mg) : HasD K d_law_text := has_of T.c.1 8 rfl
theorem k_law_text (T : Tx K mg) : PySem.W.keepIn K (.ref (He.fAd K d_law_text.at_)) = true := (h_law_text T).kp
theorem b_law_text (T : Tx K mg) : Binds K (fdOf K (He.fAd K d_law_text.at_)) ps_law_text [] := FunD.bindsN (ps := ps_law_text) (h_law_text T) fun _ _ _ _ _ _ us hl => match us, hl with | [_, _], _ => rfl
theorem h_law_belongs (T : Tx K mg) : HasD K d_law_belongs := has_of T.c.1 9 rfl
theorem k_law_belongs (T : Tx K mg) : PySem.W.keepIn K (.ref (He.fAd K d_law_belongs.at_)) = true := (h_law_belongs T).kp
theorem b_law_belongs (T : Tx K mg) : Binds K (fdOf K (He.fAd K d_law_belongs.at_)) ps_law_belongs [] := FunD.bindsN (ps := ps_law_belongs) (h_law_belongs T) fun _ _ _ _ _ _ us hl => match us, hl with | [_, _, _, _], _ => rfl
theorem h_law_string (T : Tx K mg) : HasD K d_law_string := has_of T.c.1 10 rfl
theorem k_law_string (T : Tx K mg) : PySem.W.keepIn K (.ref (He.fAd K d_law_string.at_)) = true := (h_law_string T).kp
theorem b_law_string (T : Tx K mg) : Binds K (fdOf K (He.fAd K d_law_string.at_)) ps_law_string [] := FunD.bindsN (ps := ps_law_string) (h_law_string T) fun _ _ _ _ _ _ us hl => match us, hl with | [_, _, _], _ => rfl
theorem h_law_alphabet (T : Tx K mg) : HasD K d_law_alphabet := has_of T.c.1 11 rfl
theorem k_law_alphabet (T : Tx K mg) : PySem.W.keepIn K (.ref (He.fAd K d_law_alphabet.at_)) = true := (h_law_alphabet T).kp
theorem b_law_alphabet (T : Tx K mg) : Binds K (fdOf K (He.fAd K d_law_alphabet.at_)) ps_law_alphabet [] := FunD.bindsN (ps := ps_law_alphabet) (h_law_alphabet T) fun _ _ _ _ _ _ us hl => match us, hl with | [_], _ => rfl
theorem h_law_size (T : Tx K mg) : HasD K d_law_size := has_of T.c.1 12 rfl
theorem k_law_size (T : Tx K mg) : PySem.W.keepIn K (.ref (He.fAd K d_law_size.at_)) = true := (h_law_size T).kp
theorem b_law_size (T : Tx K mg) : Binds K (fdOf K (He.fAd K d_law_size.at_)) ps_law_size [] := FunD.bindsN (ps := ps_law_size) (h_law_size T) fun _ _ _ _ _ _ us hl => match us, hl with | [_], _ => rfl
theorem h_law_bent (T : Tx K mg) : HasD K d_law_bent := has_of T.c.1 13 rfl
theorem k_law_bent (T : Tx K mg) : PySem.W.keepIn K (.ref (He.fAd K d_law_bent.at_)) = true := (h_law_bent T).kp
theorem b_law_bent (T : Tx K mg) : Binds K (fdOf K (He.fAd K d_law_bent.at_)) ps_law_bent [] := FunD.bindsN (ps := ps_law_bent) (h_law_bent T) fun _ _ _ _ _ _ us hl => match us, hl with | [_, _], _ => rfl
theorem h_law_row (T : Tx K mg) : HasD K d_law_row := has_of T.c.1 14 rfl
theorem k_law_row (T : Tx K mg) : PySem.W.keepIn K (.ref (He.fAd K d_law_row.at_)) = true := (h_law_row T).kp
theorem b_law_row (T : Tx K mg) : Binds K (fdOf K (He.fAd K d_law_row.at_)) ps_law_row [] := FunD.bindsN (ps := ps_law_row) (h_law_row T) fun _ _ _ _ _ _ us hl => match us, hl with | [_, _], _ => rfl
theorem h_law_shift (T : Tx K mg) : HasD K d_law_shift := has_of T.c.1 15 rfl
theorem k_law_shift (T : Tx K mg) : PySem.W.keepIn K (.ref (He.fAd K d_law_shift.at_)) = true := (h_law_shift T).kp
theorem b_law_shift (T : Tx K mg) : Binds K (fdOf K (He.fAd K d_law_shift.at_)) ps_law_shift [] := FunD.bindsN (ps := ps_law_shift) (h_law_shift T) fun _ _ _ _ _ _ us hl => match us, hl with | [_, _], _ => rfl
theorem h_law_moved (T : Tx K mg) : HasD K d_law_moved := has_of T.c.1 16 rfl
theorem k_law_moved (T : Tx K mg) : PySem.W.keepIn K (.ref (He.fAd K d_law_moved.at_)) = true := (h_law_moved T).kp
theorem b_law_moved (T : Tx K mg) : Binds K (fdOf K (He.fAd K d_law_moved.at_)) ps_law_moved [] := FunD.bindsN (ps := ps_law_moved) (h_law_moved T) fun _ _ _ _ _ _ us hl => match us, hl with | [_, _], _ => rfl
theorem h_law_image (T : Tx K mg) : HasD K d_law_image := has_of T.c.1 17 rfl
theorem k_law_image (T : Tx K mg) : PySem.W.keepIn K (.ref (He.fAd K d_law_image.at_)) = true := (h_law_image T).kp
theorem b_law_image (T : Tx K mg) : Binds K (fdOf K (He.fAd K d_law_image.at_)) ps_law_image [] := FunD.bindsN (ps := ps_law_image) (h_law_image T) fun _ _ _ _ _ _ us hl => match us, hl with | [_], _ => rfl
theorem h_law_turns (T : Tx K mg) : HasD K d_law_turns := has_of T.c.1 18 rfl
theorem k_law_turns (T : Tx K mg) : PySem.W.keepIn K (.ref (He.fAd K d_law_turns.at_)) = true := (h_law_turns T).kp
theorem b_law_turns (T : Tx K mg) : Binds K (fdOf K (He.fAd K d_law_turns.at_)) ps_law_turns [] := FunD.bindsN (ps := ps_law_turns) (h_law_turns T) fun _ _ _ _ _ _ us hl => match us, hl with | [_, _, _], _ => rfl
theorem h_law_mirrors (T : Tx K mg) : HasD K d_law_mirrors := has_of T.c.1 19 rfl
theorem k_law_mirrors (T : Tx K mg) : PySem.W.keepIn K (.ref (He.fAd K d_law_mirrors.at_)) = true := (h_law_mirrors T).kp
theorem b_law_mirrors (T : Tx K mg) : Binds K (fdOf K (He.fAd K d_law_mirrors.at_)) ps_law_mirrors [] := FunD.bindsN (ps := ps_law_mirrors) (h_law_mirrors T) fun _ _ _ _ _ _ us hl => match us, hl with | [_, _], _ => rfl
theorem h_law_least (T : Tx K mg) : HasD K d_law_least := has_of T.c.1 20 rfl
theorem k_law_least (T : Tx K mg) : PySem.W.keepIn K (.ref (He.fAd K d_law_least.at_)) = true := (h_law_least T).kp
theorem b_law_least (T : Tx K mg) : Binds K (fdOf K (He.fAd K d_law_least.at_)) ps_law_least [] := FunD.bindsN (ps := ps_law_least) (h_law_least T) fun _ _ _ _ _ _ us hl => match us, hl with | [_, _, _], _ => rfl
theorem h_law_call (T : Tx K mg) : HasD K d_law_call := has_of T.c.1 21 rfl
theorem k_law_call (T : Tx K mg) : PySem.W.keepIn K (.ref (He.fAd K d_law_call.at_)) = true := (h_law_call T).kp
theorem b_law_call (T : Tx K mg) : Binds K (fdOf K (He.fAd K d_law_call.at_)) ps_law_call [] := FunD.bindsN (ps := ps_law_call) (h_law_call T) fun _ _ _ _ _ _ us hl => match us, hl with | [_, _, _], _ => rfl
theorem h_law_refuses (T : Tx K mg) : HasD K d_law_refuses := has_of T.c.1 22 rfl
theorem k_law_refuses (T : Tx K mg) : PySem.W.keepIn K (.ref (He.fAd K d_law_refuses.at_)) = true := (h_law_refuses T).kp
theorem b_law_refuses (T : Tx K mg) : Binds K (fdOf K (He.fAd K d_law_refuses.at_)) ps_law_refuses [] := FunD.bindsN (ps := ps_law_refuses) (h_law_refuses T) fun _ _ _ _ _ _ us hl => match us, hl with | [_, _, _], _ => rfl
theorem h_law (T : Tx K mg) : HasD K d_law := has_of T.c.1 23 rfl
theorem k_law (T : Tx K mg) : PySem.W.keepIn K (.ref (He.fAd K d_law.at_)) = true := (h_law T).kp
theorem b_law (T : Tx K mg) : Binds K (fdOf K (He.fAd K d_law.at_)) ps_law [] := FunD.bindsN (ps := ps_law) (h_law T) fun _ _ _ _ _ _ us hl => match us, hl with | [_], _ => rfl
end
theorem kc_2 : Str.ofString "#.:ABCDabcd" = S [35, 46, 58, 65, 66, 67, 68, 97, 98, 99, 100] := by decide +kernel
theorem kc_4 : Str.ofString " !\"$&'()*+,-/0123456789;<=>?@EFGHIJKLMNOPQRSTUVWXYZ[\\]^_`" = S [32, 33, 34, 36, 38, 39, 40, 41, 42, 43, 44, 45, 47, 48, 49, 50, 51, 52, 53, 54, 55, 56, 57, 59, 60, 61, 62, 63, 64, 69, 70, 71, 72, 73, 74, 75, 76, 77, 78, 79, 80, 81, 82, 83, 84, 85, 86, 87, 88, 89, 90, 91, 92, 93, 94, 95, 96] := by decide +kernel
theorem kc_5 : Str.ofString "" = S [] := by decide +kernel
theorem kc_6 : Str.ofString "#" = S [35] := by decide +kernel
theorem kc_7 : Str.ofString "." = S [46] := by decide +kernel
theorem kc_8 : Str.ofString ":" = S [58] := by decide +kernel
theorem kc_9 : Str.ofString "ABCD" = S [65, 66, 67, 68] := by decide +kernel
theorem kc_10 : Str.ofString "efghijklmnopqrstuvwxyz{|}~\n\t" = S [101, 102, 103, 104, 105, 106, 107, 108, 109, 110, 111, 112, 113, 114, 115, 116, 117, 118, 119, 120, 121, 122, 123, 124, 125, 126, 10, 9] := by decide +kernel
theorem kc_11 : Str.ofString "a sign is not allowed in this row: " = S [97, 32, 115, 105, 103, 110, 32, 105, 115, 32, 110, 111, 116, 32, 97, 108, 108, 111, 119, 101, 100, 32, 105, 110, 32, 116, 104, 105, 115, 32, 114, 111, 119, 58, 32] := by decide +kernel
theorem kc_12 : Str.ofString "abcd" = S [97, 98, 99, 100] := by decide +kernel
end K01
namespace K01
open PySem PySem.Spec PyProof.Rows L2 Lc Evl
section
variable {P : Program} {w : World} {K : PySem.W.Frag} {mg : Str → Option Value} {base : Heap}
/-! ### the draws -/
def sp_law_take : Sp := fun vs H Q _ => ∃ (b : Addr) (many : Int), vs = [.ref b, .int many] ∧ Bx H b ∧ 0 < many ∧ many.natAbs < 2 ^ 128 ∧ ∀ d H', 0 ≤ d → d < many → ExB b H H' → Bx H' b → Q (.int d) H'
theorem ok_law_take (T : Tx K mg) : OkD P w K mg base 1 d_law_take ps_law_take sp_law_take := by
  refine (h_law_take T).ok sc_law_take (fun vs H Q E h => ?_) (fun cdv A outer s H vs Q E hr h => ⟨_,
      (pss_cons (ps_if (pt_cmpR op_gt (pe_ix ix_list (pv 0) pe_int (fun _ _ => rfl)) pe_int (nomark _)) (pss_cons (ps_set (i := 3) sc_law_take.nd rfl (Or.inl rfl) (pe_op op_mod (pe_callTy call_int1 (by rfl) (m_int T) (by decide +kernel) (pa_cons (pe_ix ix_list (pv 0) pe_int (fun _ _ => rfl)) pa_nil)) (pv 1)))
      (pss_cons (ps_asg (pe_op op_fdivW (pe_ix ix_list (pv 0) pe_int (fun _ _ => rfl)) (pv 1)) (pg_sub (pv 0) pe_int set_list))
      (pss_one (ps_ret (pv 3))))) pss_nil)
      (pss_cons (ps_asg (pe_op op_add (pe_ix ix_list (pv 0) pe_int (fun _ _ => rfl)) pe_int) (pg_sub (pv 0) pe_int set_list))
      (pss_cons (ps_set (i := 2) sc_law_take.nd rfl (Or.inl rfl) (pe_op op_mod (pe_callTy call_int1 (by rfl) (m_int T) (by decide +kernel) (pa_cons (pe_op op_add (pe_op op_add (pe_op op_mul (pe_ix ix_list (pv 0) pe_int (fun _ _ => rfl)) pe_int) (pe_op op_mul (pe_ix ix_list (pv 0) pe_int (fun _ _ => rfl)) pe_int)) pe_int) pa_nil)) pe_int))
      (pss_cons (ps_set (i := 2) sc_law_take.nd rfl (Or.inl rfl) (pe_op op_mod (pe_callTy call_int1 (by rfl) (m_int T) (by decide +kernel) (pa_cons (pe_op op_add (pe_op op_mul (pv 2) (pv 2)) (pe_op op_mul (pe_ix ix_list (pv 0) pe_int (fun _ _ => rfl)) pe_int)) pa_nil)) pe_int))
      (pss_cons (ps_set (i := 2) sc_law_take.nd rfl (Or.inl rfl) (pe_op op_mod (pe_callTy call_int1 (by rfl) (m_int T) (by decide +kernel) (pa_cons (pe_op op_add (pe_op op_add (pe_op op_mul (pv 2) (pv 2)) (pe_op op_mul (pe_ix ix_list (pv 0) pe_int (fun _ _ => rfl)) pe_int)) pe_int) pa_nil)) pe_int))
      (pss_one (ps_ret (pe_op op_mod (pe_callTy call_int1 (by rfl) (m_int T) (by decide +kernel) (pa_cons (pe_op op_fdivW (pv 2) pe_int) pa_nil)) (pv 1))))))))), ?_⟩)
  · obtain ⟨b, many, rfl, _⟩ := h
    rfl
  · obtain ⟨b, many, rfl, ⟨i, j, k, hb⟩, hm, hm2, q⟩ := h
    have hs := SqL.of (K := K) hb
    refine q_when (by first | ((with_reducible apply et_test); (repeat' (first | ((with_reducible refine ev_pow10 ?_ ?_ ?_) <;> first | rfl | decide) | (with_reducible refine fun (_ : _ = true) => ?_) | (with_reducible refine fun (_ : _ = false) => ?_) | (with_reducible exact ev_c) | ((with_reducible apply ev_var); rfl) | (with_reducible apply ev_op) | (with_reducible apply ev_un) | (with_reducible apply ev_cb) | (with_reducible apply ea_cons) | (with_reducible apply ev_andV) | (with_reducible apply ev_orV) | (with_reducible apply ev_notV) | (with_reducible apply ev_if) | (with_reducible apply eo_some) | (with_reducible apply el_lst) | (with_reducible exact ea_nil) | (with_reducible exact rv_I0) | (with_reducible exact ru_neg) | (with_reducible exact rv_ltS) | (with_reducible exact rv_inC) | (with_reducible exact rv_notInC) | (with_reducible exact rc_intI) | (with_reducible exact rc_intB) | (with_reducible exact rc_min2) | (with_reducible exact rc_isStr) | (with_reducible exact eo_none) | (with_reducible exact rv_inSS) | (with_reducible exact rv_notInSS) | (with_reducible exact rv_ltSS) | (with_reducible exact rv_eqSS) | (with_reducible exact rv_eqII) | (with_reducible exact rv_neII) | (with_reducible exact rv_neSS) | ((with_reducible refine rc_lenSS ?_); (first | assumption | omega | decide | (simp only [S_len] at *; omega))) | ((with_reducible refine rc_lenStr ?_); (first | assumption | omega | decide | (simp only [S_len] at *; omega))) | ((with_reducible refine rv_catSS ?_); (first | assumption | omega | decide | (simp only [S_len] at *; omega))) | (with_reducible exact rv_eq rfl) | (with_reducible exact rv_ne rfl) | ((with_reducible refine rc_lenS ?_); (first | assumption | omega | decide | (simp only [S_len] at *; omega))) | ((with_reducible refine rc_lenL ?_); assumption) | ((with_reducible apply rv_ixL); assumption; rfl) | ((with_reducible refine rv_catS ?_); (first | assumption | omega | decide | (simp only [S_len] at *; omega))) | ((with_reducible refine rv_I ?_); (first | (show (0 : Int) < _; (first | assumption | omega | decide | (simp only [S_len] at *; omega))) | exact .inr ⟨by decide, by decide⟩ | exact .inl ⟨by (first | assumption | omega | decide | (simp only [S_len] at *; omega)), by (first | assumption | omega | decide | (simp only [S_len] at *; omega))⟩ | exact .inr ⟨by (first | assumption | omega | decide | (simp only [S_len] at *; omega)), by (first | assumption | omega | decide | (simp only [S_len] at *; omega))⟩ | exact ⟨by decide, by decide, by decide⟩ | exact wide_div (b := 128) (by (first | assumption | omega | decide | (simp only [S_len] at *; omega))) (by (first | assumption | omega | decide | (simp only [S_len] at *; omega))) (by decide) (by decide)))))) | ((with_reducible apply et_B); (repeat' (first | ((with_reducible refine ev_pow10 ?_ ?_ ?_) <;> first | rfl | decide) | (with_reducible refine fun (_ : _ = true) => ?_) | (with_reducible refine fun (_ : _ = false) => ?_) | (with_reducible exact ev_c) | ((with_reducible apply ev_var); rfl) | (with_reducible apply ev_op) | (with_reducible apply ev_un) | (with_reducible apply ev_cb) | (with_reducible apply ea_cons) | (with_reducible apply ev_andV) | (with_reducible apply ev_orV) | (with_reducible apply ev_notV) | (with_reducible apply ev_if) | (with_reducible apply eo_some) | (with_reducible apply el_lst) | (with_reducible exact ea_nil) | (with_reducible exact rv_I0) | (with_reducible exact ru_neg) | (with_reducible exact rv_ltS) | (with_reducible exact rv_inC) | (with_reducible exact rv_notInC) | (with_reducible exact rc_intI) | (with_reducible exact rc_intB) | (with_reducible exact rc_min2) | (with_reducible exact rc_isStr) | (with_reducible exact eo_none) | (with_reducible exact rv_inSS) | (with_reducible exact rv_notInSS) | (with_reducible exact rv_ltSS) | (with_reducible exact rv_eqSS) | (with_reducible exact rv_eqII) | (with_reducible exact rv_neII) | (with_reducible exact rv_neSS) | ((with_reducible refine rc_lenSS ?_); (first | assumption | omega | decide | (simp only [S_len] at *; omega))) | ((with_reducible refine rc_lenStr ?_); (first | assumption | omega | decide | (simp only [S_len] at *; omega))) | ((with_reducible refine rv_catSS ?_); (first | assumption | omega | decide | (simp only [S_len] at *; omega))) | (with_reducible exact rv_eq rfl) | (with_reducible exact rv_ne rfl) | ((with_reducible refine rc_lenS ?_); (first | assumption | omega | decide | (simp only [S_len] at *; omega))) | ((with_reducible refine rc_lenL ?_); assumption) | ((with_reducible apply rv_ixL); assumption; rfl) | ((with_reducible refine rv_catS ?_); (first | assumption | omega | decide | (simp only [S_len] at *; omega))) | ((with_reducible refine rv_I ?_); (first | (show (0 : Int) < _; (first | assumption | omega | decide | (simp only [S_len] at *; omega))) | exact .inr ⟨by decide, by decide⟩ | exact .inl ⟨by (first | assumption | omega | decide | (simp only [S_len] at *; omega)), by (first | assumption | omega | decide | (simp only [S_len] at *; omega))⟩ | exact .inr ⟨by (first | assumption | omega | decide | (simp only [S_len] at *; omega)), by (first | assumption | omega | decide | (simp only [S_len] at *; omega))⟩ | exact ⟨by decide, by decide, by decide⟩ | exact wide_div (b := 128) (by (first | assumption | omega | decide | (simp only [S_len] at *; omega))) (by (first | assumption | omega | decide | (simp only [S_len] at *; omega))) (by decide) (by decide))))))) (fun hc H1 e1 => ?_) (fun hc H1 e1 => ?_)
    · have hs1 := SqL.of (K := K) (e1 _ _ hb)
      refine q_asg (by repeat' (first | ((with_reducible refine ev_pow10 ?_ ?_ ?_) <;> first | rfl | decide) | (with_reducible refine fun (_ : _ = true) => ?_) | (with_reducible refine fun (_ : _ = false) => ?_) | (with_reducible exact ev_c) | ((with_reducible apply ev_var); rfl) | (with_reducible apply ev_op) | (with_reducible apply ev_un) | (with_reducible apply ev_cb) | (with_reducible apply ea_cons) | (with_reducible apply ev_andV) | (with_reducible apply ev_orV) | (with_reducible apply ev_notV) | (with_reducible apply ev_if) | (with_reducible apply eo_some) | (with_reducible apply el_lst) | (with_reducible exact ea_nil) | (with_reducible exact rv_I0) | (with_reducible exact ru_neg) | (with_reducible exact rv_ltS) | (with_reducible exact rv_inC) | (with_reducible exact rv_notInC) | (with_reducible exact rc_intI) | (with_reducible exact rc_intB) | (with_reducible exact rc_min2) | (with_reducible exact rc_isStr) | (with_reducible exact eo_none) | (with_reducible exact rv_inSS) | (with_reducible exact rv_notInSS) | (with_reducible exact rv_ltSS) | (with_reducible exact rv_eqSS) | (with_reducible exact rv_eqII) | (with_reducible exact rv_neII) | (with_reducible exact rv_neSS) | ((with_reducible refine rc_lenSS ?_); (first | assumption | omega | decide | (simp only [S_len] at *; omega))) | ((with_reducible refine rc_lenStr ?_); (first | assumption | omega | decide | (simp only [S_len] at *; omega))) | ((with_reducible refine rv_catSS ?_); (first | assumption | omega | decide | (simp only [S_len] at *; omega))) | (with_reducible exact rv_eq rfl) | (with_reducible exact rv_ne rfl) | ((with_reducible refine rc_lenS ?_); (first | assumption | omega | decide | (simp only [S_len] at *; omega))) | ((with_reducible refine rc_lenL ?_); assumption) | ((with_reducible apply rv_ixL); assumption; rfl) | ((with_reducible refine rv_catS ?_); (first | assumption | omega | decide | (simp only [S_len] at *; omega))) | ((with_reducible refine rv_I ?_); (first | (show (0 : Int) < _; (first | assumption | omega | decide | (simp only [S_len] at *; omega))) | exact .inr ⟨by decide, by decide⟩ | exact .inl ⟨by (first | assumption | omega | decide | (simp only [S_len] at *; omega)), by (first | assumption | omega | decide | (simp only [S_len] at *; omega))⟩ | exact .inr ⟨by (first | assumption | omega | decide | (simp only [S_len] at *; omega)), by (first | assumption | omega | decide | (simp only [S_len] at *; omega))⟩ | exact ⟨by decide, by decide, by decide⟩ | exact wide_div (b := 128) (by (first | assumption | omega | decide | (simp only [S_len] at *; omega))) (by (first | assumption | omega | decide | (simp only [S_len] at *; omega))) (by decide) (by decide))))) fun H2 e2 => ?_
      have hs2 := SqL.of (K := K) (e2 _ _ (e1 _ _ hb))
      refine q_setL (j := 0) (e2 _ _ (e1 _ _ hb)) (by repeat' (first | ((with_reducible refine ev_pow10 ?_ ?_ ?_) <;> first | rfl | decide) | (with_reducible refine fun (_ : _ = true) => ?_) | (with_reducible refine fun (_ : _ = false) => ?_) | (with_reducible exact ev_c) | ((with_reducible apply ev_var); rfl) | (with_reducible apply ev_op) | (with_reducible apply ev_un) | (with_reducible apply ev_cb) | (with_reducible apply ea_cons) | (with_reducible apply ev_andV) | (with_reducible apply ev_orV) | (with_reducible apply ev_notV) | (with_reducible apply ev_if) | (with_reducible apply eo_some) | (with_reducible apply el_lst) | (with_reducible exact ea_nil) | (with_reducible exact rv_I0) | (with_reducible exact ru_neg) | (with_reducible exact rv_ltS) | (with_reducible exact rv_inC) | (with_reducible exact rv_notInC) | (with_reducible exact rc_intI) | (with_reducible exact rc_intB) | (with_reducible exact rc_min2) | (with_reducible exact rc_isStr) | (with_reducible exact eo_none) | (with_reducible exact rv_inSS) | (with_reducible exact rv_notInSS) | (with_reducible exact rv_ltSS) | (with_reducible exact rv_eqSS) | (with_reducible exact rv_eqII) | (with_reducible exact rv_neII) | (with_reducible exact rv_neSS) | ((with_reducible refine rc_lenSS ?_); (first | assumption | omega | decide | (simp only [S_len] at *; omega))) | ((with_reducible refine rc_lenStr ?_); (first | assumption | omega | decide | (simp only [S_len] at *; omega))) | ((with_reducible refine rv_catSS ?_); (first | assumption | omega | decide | (simp only [S_len] at *; omega))) | (with_reducible exact rv_eq rfl) | (with_reducible exact rv_ne rfl) | ((with_reducible refine rc_lenS ?_); (first | assumption | omega | decide | (simp only [S_len] at *; omega))) | ((with_reducible refine rc_lenL ?_); assumption) | ((with_reducible apply rv_ixL); assumption; rfl) | ((with_reducible refine rv_catS ?_); (first | assumption | omega | decide | (simp only [S_len] at *; omega))) | ((with_reducible refine rv_I ?_); (first | (show (0 : Int) < _; (first | assumption | omega | decide | (simp only [S_len] at *; omega))) | exact .inr ⟨by decide, by decide⟩ | exact .inl ⟨by (first | assumption | omega | decide | (simp only [S_len] at *; omega)), by (first | assumption | omega | decide | (simp only [S_len] at *; omega))⟩ | exact .inr ⟨by (first | assumption | omega | decide | (simp only [S_len] at *; omega)), by (first | assumption | omega | decide | (simp only [S_len] at *; omega))⟩ | exact ⟨by decide, by decide, by decide⟩ | exact wide_div (b := 128) (by (first | assumption | omega | decide | (simp only [S_len] at *; omega))) (by (first | assumption | omega | decide | (simp only [S_len] at *; omega))) (by decide) (by decide))))) (by repeat' (first | ((with_reducible refine ev_pow10 ?_ ?_ ?_) <;> first | rfl | decide) | (with_reducible refine fun (_ : _ = true) => ?_) | (with_reducible refine fun (_ : _ = false) => ?_) | (with_reducible exact ev_c) | ((with_reducible apply ev_var); rfl) | (with_reducible apply ev_op) | (with_reducible apply ev_un) | (with_reducible apply ev_cb) | (with_reducible apply ea_cons) | (with_reducible apply ev_andV) | (with_reducible apply ev_orV) | (with_reducible apply ev_notV) | (with_reducible apply ev_if) | (with_reducible apply eo_some) | (with_reducible apply el_lst) | (with_reducible exact ea_nil) | (with_reducible exact rv_I0) | (with_reducible exact ru_neg) | (with_reducible exact rv_ltS) | (with_reducible exact rv_inC) | (with_reducible exact rv_notInC) | (with_reducible exact rc_intI) | (with_reducible exact rc_intB) | (with_reducible exact rc_min2) | (with_reducible exact rc_isStr) | (with_reducible exact eo_none) | (with_reducible exact rv_inSS) | (with_reducible exact rv_notInSS) | (with_reducible exact rv_ltSS) | (with_reducible exact rv_eqSS) | (with_reducible exact rv_eqII) | (with_reducible exact rv_neII) | (with_reducible exact rv_neSS) | ((with_reducible refine rc_lenSS ?_); (first | assumption | omega | decide | (simp only [S_len] at *; omega))) | ((with_reducible refine rc_lenStr ?_); (first | assumption | omega | decide | (simp only [S_len] at *; omega))) | ((with_reducible refine rv_catSS ?_); (first | assumption | omega | decide | (simp only [S_len] at *; omega))) | (with_reducible exact rv_eq rfl) | (with_reducible exact rv_ne rfl) | ((with_reducible refine rc_lenS ?_); (first | assumption | omega | decide | (simp only [S_len] at *; omega))) | ((with_reducible refine rc_lenL ?_); assumption) | ((with_reducible apply rv_ixL); assumption; rfl) | ((with_reducible refine rv_catS ?_); (first | assumption | omega | decide | (simp only [S_len] at *; omega))) | ((with_reducible refine rv_I ?_); (first | (show (0 : Int) < _; (first | assumption | omega | decide | (simp only [S_len] at *; omega))) | exact .inr ⟨by decide, by decide⟩ | exact .inl ⟨by (first | assumption | omega | decide | (simp only [S_len] at *; omega)), by (first | assumption | omega | decide | (simp only [S_len] at *; omega))⟩ | exact .inr ⟨by (first | assumption | omega | decide | (simp only [S_len] at *; omega)), by (first | assumption | omega | decide | (simp only [S_len] at *; omega))⟩ | exact ⟨by decide, by decide, by decide⟩ | exact wide_div (b := 128) (by (first | assumption | omega | decide | (simp only [S_len] at *; omega))) (by (first | assumption | omega | decide | (simp only [S_len] at *; omega))) (by decide) (by decide))))) ev_c (by simp) fun H3 e3 => ?_
      refine s_ret (by repeat' (first | ((with_reducible refine ev_pow10 ?_ ?_ ?_) <;> first | rfl | decide) | (with_reducible refine fun (_ : _ = true) => ?_) | (with_reducible refine fun (_ : _ = false) => ?_) | (with_reducible exact ev_c) | ((with_reducible apply ev_var); rfl) | (with_reducible apply ev_op) | (with_reducible apply ev_un) | (with_reducible apply ev_cb) | (with_reducible apply ea_cons) | (with_reducible apply ev_andV) | (with_reducible apply ev_orV) | (with_reducible apply ev_notV) | (with_reducible apply ev_if) | (with_reducible apply eo_some) | (with_reducible apply el_lst) | (with_reducible exact ea_nil) | (with_reducible exact rv_I0) | (with_reducible exact ru_neg) | (with_reducible exact rv_ltS) | (with_reducible exact rv_inC) | (with_reducible exact rv_notInC) | (with_reducible exact rc_intI) | (with_reducible exact rc_intB) | (with_reducible exact rc_min2) | (with_reducible exact rc_isStr) | (with_reducible exact eo_none) | (with_reducible exact rv_inSS) | (with_reducible exact rv_notInSS) | (with_reducible exact rv_ltSS) | (with_reducible exact rv_eqSS) | (with_reducible exact rv_eqII) | (with_reducible exact rv_neII) | (with_reducible exact rv_neSS) | ((with_reducible refine rc_lenSS ?_); (first | assumption | omega | decide | (simp only [S_len] at *; omega))) | ((with_reducible refine rc_lenStr ?_); (first | assumption | omega | decide | (simp only [S_len] at *; omega))) | ((with_reducible refine rv_catSS ?_); (first | assumption | omega | decide | (simp only [S_len] at *; omega))) | (with_reducible exact rv_eq rfl) | (with_reducible exact rv_ne rfl) | ((with_reducible refine rc_lenS ?_); (first | assumption | omega | decide | (simp only [S_len] at *; omega))) | ((with_reducible refine rc_lenL ?_); assumption) | ((with_reducible apply rv_ixL); assumption; rfl) | ((with_reducible refine rv_catS ?_); (first | assumption | omega | decide | (simp only [S_len] at *; omega))) | ((with_reducible refine rv_I ?_); (first | (show (0 : Int) < _; (first | assumption | omega | decide | (simp only [S_len] at *; omega))) | exact .inr ⟨by decide, by decide⟩ | exact .inl ⟨by (first | assumption | omega | decide | (simp only [S_len] at *; omega)), by (first | assumption | omega | decide | (simp only [S_len] at *; omega))⟩ | exact .inr ⟨by (first | assumption | omega | decide | (simp only [S_len] at *; omega)), by (first | assumption | omega | decide | (simp only [S_len] at *; omega))⟩ | exact ⟨by decide, by decide, by decide⟩ | exact wide_div (b := 128) (by (first | assumption | omega | decide | (simp only [S_len] at *; omega))) (by (first | assumption | omega | decide | (simp only [S_len] at *; omega))) (by decide) (by decide))))) fun H4 e4 => ?_
      refine q _ _ (Int.emod_nonneg _ (by omega)) (Int.emod_lt_of_pos _ hm) ?_ ?_
      · exact ((ExB.of ((e1.trans e2).trans e3)).trans ExB.upd).trans (ExB.of e4)
      · exact Bx.ex Bx.put e4
    · have hs1 := SqL.of (K := K) (e1 _ _ hb)
      refine q_setL (j := 1) (e1 _ _ hb) (by repeat' (first | ((with_reducible refine ev_pow10 ?_ ?_ ?_) <;> first | rfl | decide) | (with_reducible refine fun (_ : _ = true) => ?_) | (with_reducible refine fun (_ : _ = false) => ?_) | (with_reducible exact ev_c) | ((with_reducible apply ev_var); rfl) | (with_reducible apply ev_op) | (with_reducible apply ev_un) | (with_reducible apply ev_cb) | (with_reducible apply ea_cons) | (with_reducible apply ev_andV) | (with_reducible apply ev_orV) | (with_reducible apply ev_notV) | (with_reducible apply ev_if) | (with_reducible apply eo_some) | (with_reducible apply el_lst) | (with_reducible exact ea_nil) | (with_reducible exact rv_I0) | (with_reducible exact ru_neg) | (with_reducible exact rv_ltS) | (with_reducible exact rv_inC) | (with_reducible exact rv_notInC) | (with_reducible exact rc_intI) | (with_reducible exact rc_intB) | (with_reducible exact rc_min2) | (with_reducible exact rc_isStr) | (with_reducible exact eo_none) | (with_reducible exact rv_inSS) | (with_reducible exact rv_notInSS) | (with_reducible exact rv_ltSS) | (with_reducible exact rv_eqSS) | (with_reducible exact rv_eqII) | (with_reducible exact rv_neII) | (with_reducible exact rv_neSS) | ((with_reducible refine rc_lenSS ?_); (first | assumption | omega | decide | (simp only [S_len] at *; omega))) | ((with_reducible refine rc_lenStr ?_); (first | assumption | omega | decide | (simp only [S_len] at *; omega))) | ((with_reducible refine rv_catSS ?_); (first | assumption | omega | decide | (simp only [S_len] at *; omega))) | (with_reducible exact rv_eq rfl) | (with_reducible exact rv_ne rfl) | ((with_reducible refine rc_lenS ?_); (first | assumption | omega | decide | (simp only [S_len] at *; omega))) | ((with_reducible refine rc_lenL ?_); assumption) | ((with_reducible apply rv_ixL); assumption; rfl) | ((with_reducible refine rv_catS ?_); (first | assumption | omega | decide | (simp only [S_len] at *; omega))) | ((with_reducible refine rv_I ?_); (first | (show (0 : Int) < _; (first | assumption | omega | decide | (simp only [S_len] at *; omega))) | exact .inr ⟨by decide, by decide⟩ | exact .inl ⟨by (first | assumption | omega | decide | (simp only [S_len] at *; omega)), by (first | assumption | omega | decide | (simp only [S_len] at *; omega))⟩ | exact .inr ⟨by (first | assumption | omega | decide | (simp only [S_len] at *; omega)), by (first | assumption | omega | decide | (simp only [S_len] at *; omega))⟩ | exact ⟨by decide, by decide, by decide⟩ | exact wide_div (b := 128) (by (first | assumption | omega | decide | (simp only [S_len] at *; omega))) (by (first | assumption | omega | decide | (simp only [S_len] at *; omega))) (by decide) (by decide))))) (by repeat' (first | ((with_reducible refine ev_pow10 ?_ ?_ ?_) <;> first | rfl | decide) | (with_reducible refine fun (_ : _ = true) => ?_) | (with_reducible refine fun (_ : _ = false) => ?_) | (with_reducible exact ev_c) | ((with_reducible apply ev_var); rfl) | (with_reducible apply ev_op) | (with_reducible apply ev_un) | (with_reducible apply ev_cb) | (with_reducible apply ea_cons) | (with_reducible apply ev_andV) | (with_reducible apply ev_orV) | (with_reducible apply ev_notV) | (with_reducible apply ev_if) | (with_reducible apply eo_some) | (with_reducible apply el_lst) | (with_reducible exact ea_nil) | (with_reducible exact rv_I0) | (with_reducible exact ru_neg) | (with_reducible exact rv_ltS) | (with_reducible exact rv_inC) | (with_reducible exact rv_notInC) | (with_reducible exact rc_intI) | (with_reducible exact rc_intB) | (with_reducible exact rc_min2) | (with_reducible exact rc_isStr) | (with_reducible exact eo_none) | (with_reducible exact rv_inSS) | (with_reducible exact rv_notInSS) | (with_reducible exact rv_ltSS) | (with_reducible exact rv_eqSS) | (with_reducible exact rv_eqII) | (with_reducible exact rv_neII) | (with_reducible exact rv_neSS) | ((with_reducible refine rc_lenSS ?_); (first | assumption | omega | decide | (simp only [S_len] at *; omega))) | ((with_reducible refine rc_lenStr ?_); (first | assumption | omega | decide | (simp only [S_len] at *; omega))) | ((with_reducible refine rv_catSS ?_); (first | assumption | omega | decide | (simp only [S_len] at *; omega))) | (with_reducible exact rv_eq rfl) | (with_reducible exact rv_ne rfl) | ((with_reducible refine rc_lenS ?_); (first | assumption | omega | decide | (simp only [S_len] at *; omega))) | ((with_reducible refine rc_lenL ?_); assumption) | ((with_reducible apply rv_ixL); assumption; rfl) | ((with_reducible refine rv_catS ?_); (first | assumption | omega | decide | (simp only [S_len] at *; omega))) | ((with_reducible refine rv_I ?_); (first | (show (0 : Int) < _; (first | assumption | omega | decide | (simp only [S_len] at *; omega))) | exact .inr ⟨by decide, by decide⟩ | exact .inl ⟨by (first | assumption | omega | decide | (simp only [S_len] at *; omega)), by (first | assumption | omega | decide | (simp only [S_len] at *; omega))⟩ | exact .inr ⟨by (first | assumption | omega | decide | (simp only [S_len] at *; omega)), by (first | assumption | omega | decide | (simp only [S_len] at *; omega))⟩ | exact ⟨by decide, by decide, by decide⟩ | exact wide_div (b := 128) (by (first | assumption | omega | decide | (simp only [S_len] at *; omega))) (by (first | assumption | omega | decide | (simp only [S_len] at *; omega))) (by decide) (by decide))))) ev_c (by simp) fun H2 e2 => ?_
      have h2 : upd H2 b (.lst (List.set [V.int i, V.int j, V.int k] 1 (V.int (j + 1)))) b = some (.lst [V.int i, V.int (j + 1), V.int k]) := upd_same
      have hs2 := SqL.of (K := K) h2
      refine q_asg (by repeat' (first | ((with_reducible refine ev_pow10 ?_ ?_ ?_) <;> first | rfl | decide) | (with_reducible refine fun (_ : _ = true) => ?_) | (with_reducible refine fun (_ : _ = false) => ?_) | (with_reducible exact ev_c) | ((with_reducible apply ev_var); rfl) | (with_reducible apply ev_op) | (with_reducible apply ev_un) | (with_reducible apply ev_cb) | (with_reducible apply ea_cons) | (with_reducible apply ev_andV) | (with_reducible apply ev_orV) | (with_reducible apply ev_notV) | (with_reducible apply ev_if) | (with_reducible apply eo_some) | (with_reducible apply el_lst) | (with_reducible exact ea_nil) | (with_reducible exact rv_I0) | (with_reducible exact ru_neg) | (with_reducible exact rv_ltS) | (with_reducible exact rv_inC) | (with_reducible exact rv_notInC) | (with_reducible exact rc_intI) | (with_reducible exact rc_intB) | (with_reducible exact rc_min2) | (with_reducible exact rc_isStr) | (with_reducible exact eo_none) | (with_reducible exact rv_inSS) | (with_reducible exact rv_notInSS) | (with_reducible exact rv_ltSS) | (with_reducible exact rv_eqSS) | (with_reducible exact rv_eqII) | (with_reducible exact rv_neII) | (with_reducible exact rv_neSS) | ((with_reducible refine rc_lenSS ?_); (first | assumption | omega | decide | (simp only [S_len] at *; omega))) | ((with_reducible refine rc_lenStr ?_); (first | assumption | omega | decide | (simp only [S_len] at *; omega))) | ((with_reducible refine rv_catSS ?_); (first | assumption | omega | decide | (simp only [S_len] at *; omega))) | (with_reducible exact rv_eq rfl) | (with_reducible exact rv_ne rfl) | ((with_reducible refine rc_lenS ?_); (first | assumption | omega | decide | (simp only [S_len] at *; omega))) | ((with_reducible refine rc_lenL ?_); assumption) | ((with_reducible apply rv_ixL); assumption; rfl) | ((with_reducible refine rv_catS ?_); (first | assumption | omega | decide | (simp only [S_len] at *; omega))) | ((with_reducible refine rv_I ?_); (first | (show (0 : Int) < _; (first | assumption | omega | decide | (simp only [S_len] at *; omega))) | exact .inr ⟨by decide, by decide⟩ | exact .inl ⟨by (first | assumption | omega | decide | (simp only [S_len] at *; omega)), by (first | assumption | omega | decide | (simp only [S_len] at *; omega))⟩ | exact .inr ⟨by (first | assumption | omega | decide | (simp only [S_len] at *; omega)), by (first | assumption | omega | decide | (simp only [S_len] at *; omega))⟩ | exact ⟨by decide, by decide, by decide⟩ | exact wide_div (b := 128) (by (first | assumption | omega | decide | (simp only [S_len] at *; omega))) (by (first | assumption | omega | decide | (simp only [S_len] at *; omega))) (by decide) (by decide))))) fun H3 e3 => ?_
      have hs3 := SqL.of (K := K) (e3 _ _ h2)
      have b1 := Int.emod_nonneg (k * 48271 + (j + 1) * 69623 + 12347) (show (2147483647 : Int) ≠ 0 by decide)
      have b2 := Int.emod_lt_of_pos (k * 48271 + (j + 1) * 69623 + 12347) (show (0 : Int) < 2147483647 by decide)
      generalize (k * 48271 + (j + 1) * 69623 + 12347) % 2147483647 = m1 at b1 b2 ⊢
      refine q_asg (by repeat' (first | ((with_reducible refine ev_pow10 ?_ ?_ ?_) <;> first | rfl | decide) | (with_reducible refine fun (_ : _ = true) => ?_) | (with_reducible refine fun (_ : _ = false) => ?_) | (with_reducible exact ev_c) | ((with_reducible apply ev_var); rfl) | (with_reducible apply ev_op) | (with_reducible apply ev_un) | (with_reducible apply ev_cb) | (with_reducible apply ea_cons) | (with_reducible apply ev_andV) | (with_reducible apply ev_orV) | (with_reducible apply ev_notV) | (with_reducible apply ev_if) | (with_reducible apply eo_some) | (with_reducible apply el_lst) | (with_reducible exact ea_nil) | (with_reducible exact rv_I0) | (with_reducible exact ru_neg) | (with_reducible exact rv_ltS) | (with_reducible exact rv_inC) | (with_reducible exact rv_notInC) | (with_reducible exact rc_intI) | (with_reducible exact rc_intB) | (with_reducible exact rc_min2) | (with_reducible exact rc_isStr) | (with_reducible exact eo_none) | (with_reducible exact rv_inSS) | (with_reducible exact rv_notInSS) | (with_reducible exact rv_ltSS) | (with_reducible exact rv_eqSS) | (with_reducible exact rv_eqII) | (with_reducible exact rv_neII) | (with_reducible exact rv_neSS) | ((with_reducible refine rc_lenSS ?_); (first | assumption | omega | decide | (simp only [S_len] at *; omega))) | ((with_reducible refine rc_lenStr ?_); (first | assumption | omega | decide | (simp only [S_len] at *; omega))) | ((with_reducible refine rv_catSS ?_); (first | assumption | omega | decide | (simp only [S_len] at *; omega))) | (with_reducible exact rv_eq rfl) | (with_reducible exact rv_ne rfl) | ((with_reducible refine rc_lenS ?_); (first | assumption | omega | decide | (simp only [S_len] at *; omega))) | ((with_reducible refine rc_lenL ?_); assumption) | ((with_reducible apply rv_ixL); assumption; rfl) | ((with_reducible refine rv_catS ?_); (first | assumption | omega | decide | (simp only [S_len] at *; omega))) | ((with_reducible refine rv_I ?_); (first | (show (0 : Int) < _; (first | assumption | omega | decide | (simp only [S_len] at *; omega))) | exact .inr ⟨by decide, by decide⟩ | exact .inl ⟨by (first | assumption | omega | decide | (simp only [S_len] at *; omega)), by (first | assumption | omega | decide | (simp only [S_len] at *; omega))⟩ | exact .inr ⟨by (first | assumption | omega | decide | (simp only [S_len] at *; omega)), by (first | assumption | omega | decide | (simp only [S_len] at *; omega))⟩ | exact ⟨by decide, by decide, by decide⟩ | exact wide_div (b := 128) (by (first | assumption | omega | decide | (simp only [S_len] at *; omega))) (by (first | assumption | omega | decide | (simp only [S_len] at *; omega))) (by decide) (by decide))))) fun H4 e4 => ?_
      have hs4 := SqL.of (K := K) (e4 _ _ (e3 _ _ h2))
      have c1 := Int.emod_nonneg (m1 * m1 + (j + 1) * 40709) (show (2147483629 : Int) ≠ 0 by decide)
      have c2 := Int.emod_lt_of_pos (m1 * m1 + (j + 1) * 40709) (show (0 : Int) < 2147483629 by decide)
      generalize (m1 * m1 + (j + 1) * 40709) % 2147483629 = m2 at c1 c2 ⊢
      refine q_asg (by repeat' (first | ((with_reducible refine ev_pow10 ?_ ?_ ?_) <;> first | rfl | decide) | (with_reducible refine fun (_ : _ = true) => ?_) | (with_reducible refine fun (_ : _ = false) => ?_) | (with_reducible exact ev_c) | ((with_reducible apply ev_var); rfl) | (with_reducible apply ev_op) | (with_reducible apply ev_un) | (with_reducible apply ev_cb) | (with_reducible apply ea_cons) | (with_reducible apply ev_andV) | (with_reducible apply ev_orV) | (with_reducible apply ev_notV) | (with_reducible apply ev_if) | (with_reducible apply eo_some) | (with_reducible apply el_lst) | (with_reducible exact ea_nil) | (with_reducible exact rv_I0) | (with_reducible exact ru_neg) | (with_reducible exact rv_ltS) | (with_reducible exact rv_inC) | (with_reducible exact rv_notInC) | (with_reducible exact rc_intI) | (with_reducible exact rc_intB) | (with_reducible exact rc_min2) | (with_reducible exact rc_isStr) | (with_reducible exact eo_none) | (with_reducible exact rv_inSS) | (with_reducible exact rv_notInSS) | (with_reducible exact rv_ltSS) | (with_reducible exact rv_eqSS) | (with_reducible exact rv_eqII) | (with_reducible exact rv_neII) | (with_reducible exact rv_neSS) | ((with_reducible refine rc_lenSS ?_); (first | assumption | omega | decide | (simp only [S_len] at *; omega))) | ((with_reducible refine rc_lenStr ?_); (first | assumption | omega | decide | (simp only [S_len] at *; omega))) | ((with_reducible refine rv_catSS ?_); (first | assumption | omega | decide | (simp only [S_len] at *; omega))) | (with_reducible exact rv_eq rfl) | (with_reducible exact rv_ne rfl) | ((with_reducible refine rc_lenS ?_); (first | assumption | omega | decide | (simp only [S_len] at *; omega))) | ((with_reducible refine rc_lenL ?_); assumption) | ((with_reducible apply rv_ixL); assumption; rfl) | ((with_reducible refine rv_catS ?_); (first | assumption | omega | decide | (simp only [S_len] at *; omega))) | ((with_reducible refine rv_I ?_); (first | (show (0 : Int) < _; (first | assumption | omega | decide | (simp only [S_len] at *; omega))) | exact .inr ⟨by decide, by decide⟩ | exact .inl ⟨by (first | assumption | omega | decide | (simp only [S_len] at *; omega)), by (first | assumption | omega | decide | (simp only [S_len] at *; omega))⟩ | exact .inr ⟨by (first | assumption | omega | decide | (simp only [S_len] at *; omega)), by (first | assumption | omega | decide | (simp only [S_len] at *; omega))⟩ | exact ⟨by decide, by decide, by decide⟩ | exact wide_div (b := 128) (by (first | assumption | omega | decide | (simp only [S_len] at *; omega))) (by (first | assumption | omega | decide | (simp only [S_len] at *; omega))) (by decide) (by decide))))) fun H5 e5 => ?_
      refine s_ret (by repeat' (first | ((with_reducible refine ev_pow10 ?_ ?_ ?_) <;> first | rfl | decide) | (with_reducible refine fun (_ : _ = true) => ?_) | (with_reducible refine fun (_ : _ = false) => ?_) | (with_reducible exact ev_c) | ((with_reducible apply ev_var); rfl) | (with_reducible apply ev_op) | (with_reducible apply ev_un) | (with_reducible apply ev_cb) | (with_reducible apply ea_cons) | (with_reducible apply ev_andV) | (with_reducible apply ev_orV) | (with_reducible apply ev_notV) | (with_reducible apply ev_if) | (with_reducible apply eo_some) | (with_reducible apply el_lst) | (with_reducible exact ea_nil) | (with_reducible exact rv_I0) | (with_reducible exact ru_neg) | (with_reducible exact rv_ltS) | (with_reducible exact rv_inC) | (with_reducible exact rv_notInC) | (with_reducible exact rc_intI) | (with_reducible exact rc_intB) | (with_reducible exact rc_min2) | (with_reducible exact rc_isStr) | (with_reducible exact eo_none) | (with_reducible exact rv_inSS) | (with_reducible exact rv_notInSS) | (with_reducible exact rv_ltSS) | (with_reducible exact rv_eqSS) | (with_reducible exact rv_eqII) | (with_reducible exact rv_neII) | (with_reducible exact rv_neSS) | ((with_reducible refine rc_lenSS ?_); (first | assumption | omega | decide | (simp only [S_len] at *; omega))) | ((with_reducible refine rc_lenStr ?_); (first | assumption | omega | decide | (simp only [S_len] at *; omega))) | ((with_reducible refine rv_catSS ?_); (first | assumption | omega | decide | (simp only [S_len] at *; omega))) | (with_reducible exact rv_eq rfl) | (with_reducible exact rv_ne rfl) | ((with_reducible refine rc_lenS ?_); (first | assumption | omega | decide | (simp only [S_len] at *; omega))) | ((with_reducible refine rc_lenL ?_); assumption) | ((with_reducible apply rv_ixL); assumption; rfl) | ((with_reducible refine rv_catS ?_); (first | assumption | omega | decide | (simp only [S_len] at *; omega))) | ((with_reducible refine rv_I ?_); (first | (show (0 : Int) < _; (first | assumption | omega | decide | (simp only [S_len] at *; omega))) | exact .inr ⟨by decide, by decide⟩ | exact .inl ⟨by (first | assumption | omega | decide | (simp only [S_len] at *; omega)), by (first | assumption | omega | decide | (simp only [S_len] at *; omega))⟩ | exact .inr ⟨by (first | assumption | omega | decide | (simp only [S_len] at *; omega)), by (first | assumption | omega | decide | (simp only [S_len] at *; omega))⟩ | exact ⟨by decide, by decide, by decide⟩ | exact wide_div (b := 128) (by (first | assumption | omega | decide | (simp only [S_len] at *; omega))) (by (first | assumption | omega | decide | (simp only [S_len] at *; omega))) (by decide) (by decide))))) fun H6 e6 => ?_
      refine q _ _ (Int.emod_nonneg _ (by omega)) (Int.emod_lt_of_pos _ hm) ?_ ?_
      · exact ((ExB.of (e1.trans e2)).trans ExB.upd).trans (ExB.of (((e3.trans e4).trans e5).trans e6))
      · exact Bx.ex (Bx.ex Bx.put e3) ((e4.trans e5).trans e6)
end
end K01
namespace K01
open PySem PySem.Spec PyProof.Rows L2 Lc Evl
section
variable {P : Program} {w : World} {K : PySem.W.Frag} {mg : Str → Option Value} {base : Heap}
/-! ### the error class -/
abbrev cI (K : PySem.W.Frag) : Addr := He.ga K "InvalidRow"
abbrev cL (K : PySem.W.Frag) : Addr := He.ga K "LeapError"
abbrev fI (K : PySem.W.Frag) : Addr := He.ma K (He.ga K "InvalidRow") "__init__"
structure XF (K : PySem.W.Frag) : Prop where
  oex : OexC K (cI K)
  xf : XfC K (cI K)
  iC : PySem.W.findIn K (.ref (cI K)) "__init__" = some (some (.ref (fI K)))
  tI : PySem.W.typeIn K (.ref (fI K)) = some (.type "function")
  sp : PySem.W.specialIn K (.ref (cL K)) "__getattribute__" = some (some (.builtin "type.__getattribute__"))
  rd : PySem.W.readsIn K (cL K) (.type "type") = true
  vV : PySem.W.findCls K (.ref (cL K)) (.type "type") "__init__" = some (.val (.builtin "ValueError.__init__"))
  no : PySem.W.findIn K (.ref (cI K)) "row" = some none
  exm : PySem.W.exmOne K (.ref (cI K)) (.ref (cL K)) = some true
  kit : PySem.W.kitOne K (.ref (cI K)) (.ref (cI K)) = some true
  kL : PySem.W.keepIn K (.ref (cL K)) = true
theorem xfs (T : Tx K mg) : XF K := by
  have h := T.c.2
  unfold ex at h
  simp only [Bool.and_eq_true] at h
  obtain ⟨h1, h2, h3, h4, h5, h6, h7, h8⟩ := h
  unfold initB at h3
  unfold clsInitB at h4
  simp only [Bool.and_eq_true, decide_eq_true_eq] at h3 h4
  obtain ⟨h31, h32⟩ := h3
  obtain ⟨h41, h42, h43⟩ := h4
  refine ⟨oexB_ok h1, xfB_ok h2, h31, h32, h41, h42, ?_, of_decide_eq_true h5, of_decide_eq_true h6, of_decide_eq_true h7, h8⟩
  split at h43
  · rename_i b hb
    rw [hb, beq_iff_eq.mp h43]
  · cases h43
/-- what is raised: the class, the error's dict -/
def Bad (K : PySem.W.Frag) (H : Hp) (E : XK) (z : Str) : Prop := ∀ d H', H d = none → Ex H H' → H' d = some (.xd [(("row" : Str), .str z)]) → E (.ref (cI K)) (some d) H'
def sp_InvalidRow_init (K : PySem.W.Frag) : Sp := fun vs H Q _ => ∃ (a : Addr) (l : List Nat), vs = [.ref a, .str (S l)] ∧ l.length ≤ 1000 ∧ (∀ c ∈ l, c < 128) ∧ H a = some (exo a (cI K) none) ∧
  ∀ dx, H dx = none → dx ≠ a → Q .non (upd (upd H dx (exd dx [(("row" : Str), .str (S l))])) a (exo a (cI K) (some dx)))
theorem reprS_len {l : List Nat} (h : l.length ≤ 1000) (hc : ∀ c ∈ l, c < 128) : (reprText (S l)).length ≤ 20000 := by
  have h1 := PySem.StrLaws.reprText_len (S l) fun c hm => Nat.lt_trans (hc c hm) (by decide)
  rw [S_len] at h1
  omega
theorem len_app (a b : Str) : (a ++ b).length = a.length + b.length := by
  rw [TL.len_tl, TL.len_tl, TL.len_tl, TL.tl_append, List.length_append]
theorem ok_InvalidRow_init (T : Tx K mg) : OkD P w K mg base 1 d_InvalidRow_init ps_InvalidRow_init (sp_InvalidRow_init K) := by
  refine (h_InvalidRow_init T).ok sc_InvalidRow_init (fun vs H Q E h => ?_) (fun cdv A outer s H vs Q E hr h => ⟨_,
      (pss_cons (ps_expr (pe_ownInit (CL := cL K) (by rfl) (m_LeapError T) (by decide) (xfs T).sp (xfs T).rd (xfs T).vV (pa_cons (pv 0) (pa_cons (pe_joined (.cons pe_str (.cons (pe_fmtR (pv 1)) .nil))) pa_nil))))
      (pss_one (ps_ost (pv 0) (pv 1)))), ?_⟩)
  · obtain ⟨a, l, rfl, _⟩ := h
    rfl
  · obtain ⟨a, l, rfl, hl, hc, ha, q⟩ := h
    have hrp := reprS_len hl hc
    refine ⟨_, rfl, ?_⟩
    refine ⟨_, rfl, by decide +kernel, ?_⟩
    refine ⟨_, rfl, .inl ⟨_, rfl, sz_of (by omega), ?_⟩⟩
    refine ⟨_, rfl, ?_, ?_⟩
    · rw [len_app, len_app]
      have h1 : (Str.empty).length = 0 := by decide +kernel
      have h2 : (Str.ofString "a sign is not allowed in this row: ").length ≤ 100 := by decide +kernel
      exact sz_of (by omega)
    refine ⟨a, cI K, _, rfl, by simp, (xfs T).oex, ha, ?_⟩
    exact ⟨_, rfl, _, rfl, a, cI K, rfl, (xfs T).oex, (xfs T).no, .inl ⟨ha, fun dx hd hda => q dx hd hda⟩⟩
def sp_check_row (K : PySem.W.Frag) : Sp := fun vs H Q E => ∃ (l g : List Nat), vs = [.str (S l), .str (S g)] ∧ l.length ≤ 1000 ∧ g.length ≤ 1000 ∧ (∀ c ∈ l, c < 128) ∧ ((∀ c ∈ l, c ∈ g) → RetV .non H Q) ∧ ((¬ ∀ c ∈ l, c ∈ g) → Bad K H E (S l))
theorem b_check_row (T : Tx K mg) : ∃ ds, Vals [V.str "#.:ABCDabcd"] ds ∧ Binds K (fdOf K (He.fAd K d_check_row.at_)) ps_check_row ds :=
  FunD.binds1 (ps := ps_check_row) (h_check_row T) 1 0 (by simp [He.DefD.dvs, d_check_row]) rfl fun T kV doc pm an cdv ct us its hu hi => match us, its, hu, hi with
    | [_], [_], _, _ => ⟨_, rfl, rfl⟩
theorem bI (T : Tx K mg) : Binds K (fdOf K (fI K)) ps_InvalidRow_init [] := b_InvalidRow_init T
theorem ok_check_row (T : Tx K mg) : OkD P w K mg base 3 d_check_row ps_check_row (sp_check_row K) := by
  refine (h_check_row T).ok sc_check_row (fun vs H Q E h => ?_) (fun cdv A outer s H vs Q E hr h => ⟨_,
      (pss_one (ps_for (passes_of rfl) rfl (pi_str (pv 0)) (pg_name (i := 2) sc_check_row.nd rfl (Or.inl rfl))
        (pss_one (ps_if (pt_cmpR op_notIn_sign (pv 2) (pv 1) (by rfl))
          (pss_one (L2N.ps_raise rfl (L2N.takes_of rfl rfl rfl rfl) (pmkN_oex (xfs T).oex (xfs T).iC (xfs T).tI (ok_InvalidRow_init (P := P) (w := w) (base := base) T) (hr.mono (by decide)) (bI T) .nil passN (by rfl) (m_InvalidRow T) (pa_cons (pv 0) pa_nil)))) pss_nil)))), ?_⟩)
  · obtain ⟨l, g, rfl, _⟩ := h
    rfl
  · obtain ⟨l, g, rfl, hl, hg, hc, q1, q2⟩ := h
    refine s_forS (l := l) (by repeat' (first | ((with_reducible refine ev_pow10 ?_ ?_ ?_) <;> first | rfl | decide) | (with_reducible refine fun (_ : _ = true) => ?_) | (with_reducible refine fun (_ : _ = false) => ?_) | (with_reducible exact ev_c) | ((with_reducible apply ev_var); rfl) | (with_reducible apply ev_op) | (with_reducible apply ev_un) | (with_reducible apply ev_cb) | (with_reducible apply ea_cons) | (with_reducible apply ev_andV) | (with_reducible apply ev_orV) | (with_reducible apply ev_notV) | (with_reducible apply ev_if) | (with_reducible apply eo_some) | (with_reducible apply el_lst) | (with_reducible exact ea_nil) | (with_reducible exact rv_I0) | (with_reducible exact ru_neg) | (with_reducible exact rv_ltS) | (with_reducible exact rv_inC) | (with_reducible exact rv_notInC) | (with_reducible exact rc_intI) | (with_reducible exact rc_intB) | (with_reducible exact rc_min2) | (with_reducible exact rc_isStr) | (with_reducible exact eo_none) | (with_reducible exact rv_inSS) | (with_reducible exact rv_notInSS) | (with_reducible exact rv_ltSS) | (with_reducible exact rv_eqSS) | (with_reducible exact rv_eqII) | (with_reducible exact rv_neII) | (with_reducible exact rv_neSS) | ((with_reducible refine rc_lenSS ?_); (first | assumption | omega | decide | (simp only [S_len] at *; omega))) | ((with_reducible refine rc_lenStr ?_); (first | assumption | omega | decide | (simp only [S_len] at *; omega))) | ((with_reducible refine rv_catSS ?_); (first | assumption | omega | decide | (simp only [S_len] at *; omega))) | (with_reducible exact rv_eq rfl) | (with_reducible exact rv_ne rfl) | ((with_reducible refine rc_lenS ?_); (first | assumption | omega | decide | (simp only [S_len] at *; omega))) | ((with_reducible refine rc_lenL ?_); assumption) | ((with_reducible apply rv_ixL); assumption; rfl) | ((with_reducible refine rv_catS ?_); (first | assumption | omega | decide | (simp only [S_len] at *; omega))) | ((with_reducible refine rv_I ?_); (first | (show (0 : Int) < _; (first | assumption | omega | decide | (simp only [S_len] at *; omega))) | exact .inr ⟨by decide, by decide⟩ | exact .inl ⟨by (first | assumption | omega | decide | (simp only [S_len] at *; omega)), by (first | assumption | omega | decide | (simp only [S_len] at *; omega))⟩ | exact .inr ⟨by (first | assumption | omega | decide | (simp only [S_len] at *; omega)), by (first | assumption | omega | decide | (simp only [S_len] at *; omega))⟩ | exact ⟨by decide, by decide, by decide⟩ | exact wide_div (b := 128) (by (first | assumption | omega | decide | (simp only [S_len] at *; omega))) (by (first | assumption | omega | decide | (simp only [S_len] at *; omega))) (by decide) (by decide))))) (fun i σ' H' => Ex H H' ∧ (∀ c ∈ l.take i, c ∈ g) ∧ ∃ kv, σ' = [some (.str (S l)), some (.str (S g)), kv]) (fun H1 e1 => ⟨e1, by simp, none, rfl⟩) ?_ ?_
    · rintro i c σ' H' hi ⟨e, hp, kv, rfl⟩
      refine s_if (b := !decide (c ∈ g)) (by first | ((with_reducible apply et_test); (repeat' (first | ((with_reducible refine ev_pow10 ?_ ?_ ?_) <;> first | rfl | decide) | (with_reducible refine fun (_ : _ = true) => ?_) | (with_reducible refine fun (_ : _ = false) => ?_) | (with_reducible exact ev_c) | ((with_reducible apply ev_var); rfl) | (with_reducible apply ev_op) | (with_reducible apply ev_un) | (with_reducible apply ev_cb) | (with_reducible apply ea_cons) | (with_reducible apply ev_andV) | (with_reducible apply ev_orV) | (with_reducible apply ev_notV) | (with_reducible apply ev_if) | (with_reducible apply eo_some) | (with_reducible apply el_lst) | (with_reducible exact ea_nil) | (with_reducible exact rv_I0) | (with_reducible exact ru_neg) | (with_reducible exact rv_ltS) | (with_reducible exact rv_inC) | (with_reducible exact rv_notInC) | (with_reducible exact rc_intI) | (with_reducible exact rc_intB) | (with_reducible exact rc_min2) | (with_reducible exact rc_isStr) | (with_reducible exact eo_none) | (with_reducible exact rv_inSS) | (with_reducible exact rv_notInSS) | (with_reducible exact rv_ltSS) | (with_reducible exact rv_eqSS) | (with_reducible exact rv_eqII) | (with_reducible exact rv_neII) | (with_reducible exact rv_neSS) | ((with_reducible refine rc_lenSS ?_); (first | assumption | omega | decide | (simp only [S_len] at *; omega))) | ((with_reducible refine rc_lenStr ?_); (first | assumption | omega | decide | (simp only [S_len] at *; omega))) | ((with_reducible refine rv_catSS ?_); (first | assumption | omega | decide | (simp only [S_len] at *; omega))) | (with_reducible exact rv_eq rfl) | (with_reducible exact rv_ne rfl) | ((with_reducible refine rc_lenS ?_); (first | assumption | omega | decide | (simp only [S_len] at *; omega))) | ((with_reducible refine rc_lenL ?_); assumption) | ((with_reducible apply rv_ixL); assumption; rfl) | ((with_reducible refine rv_catS ?_); (first | assumption | omega | decide | (simp only [S_len] at *; omega))) | ((with_reducible refine rv_I ?_); (first | (show (0 : Int) < _; (first | assumption | omega | decide | (simp only [S_len] at *; omega))) | exact .inr ⟨by decide, by decide⟩ | exact .inl ⟨by (first | assumption | omega | decide | (simp only [S_len] at *; omega)), by (first | assumption | omega | decide | (simp only [S_len] at *; omega))⟩ | exact .inr ⟨by (first | assumption | omega | decide | (simp only [S_len] at *; omega)), by (first | assumption | omega | decide | (simp only [S_len] at *; omega))⟩ | exact ⟨by decide, by decide, by decide⟩ | exact wide_div (b := 128) (by (first | assumption | omega | decide | (simp only [S_len] at *; omega))) (by (first | assumption | omega | decide | (simp only [S_len] at *; omega))) (by decide) (by decide)))))) | ((with_reducible apply et_B); (repeat' (first | ((with_reducible refine ev_pow10 ?_ ?_ ?_) <;> first | rfl | decide) | (with_reducible refine fun (_ : _ = true) => ?_) | (with_reducible refine fun (_ : _ = false) => ?_) | (with_reducible exact ev_c) | ((with_reducible apply ev_var); rfl) | (with_reducible apply ev_op) | (with_reducible apply ev_un) | (with_reducible apply ev_cb) | (with_reducible apply ea_cons) | (with_reducible apply ev_andV) | (with_reducible apply ev_orV) | (with_reducible apply ev_notV) | (with_reducible apply ev_if) | (with_reducible apply eo_some) | (with_reducible apply el_lst) | (with_reducible exact ea_nil) | (with_reducible exact rv_I0) | (with_reducible exact ru_neg) | (with_reducible exact rv_ltS) | (with_reducible exact rv_inC) | (with_reducible exact rv_notInC) | (with_reducible exact rc_intI) | (with_reducible exact rc_intB) | (with_reducible exact rc_min2) | (with_reducible exact rc_isStr) | (with_reducible exact eo_none) | (with_reducible exact rv_inSS) | (with_reducible exact rv_notInSS) | (with_reducible exact rv_ltSS) | (with_reducible exact rv_eqSS) | (with_reducible exact rv_eqII) | (with_reducible exact rv_neII) | (with_reducible exact rv_neSS) | ((with_reducible refine rc_lenSS ?_); (first | assumption | omega | decide | (simp only [S_len] at *; omega))) | ((with_reducible refine rc_lenStr ?_); (first | assumption | omega | decide | (simp only [S_len] at *; omega))) | ((with_reducible refine rv_catSS ?_); (first | assumption | omega | decide | (simp only [S_len] at *; omega))) | (with_reducible exact rv_eq rfl) | (with_reducible exact rv_ne rfl) | ((with_reducible refine rc_lenS ?_); (first | assumption | omega | decide | (simp only [S_len] at *; omega))) | ((with_reducible refine rc_lenL ?_); assumption) | ((with_reducible apply rv_ixL); assumption; rfl) | ((with_reducible refine rv_catS ?_); (first | assumption | omega | decide | (simp only [S_len] at *; omega))) | ((with_reducible refine rv_I ?_); (first | (show (0 : Int) < _; (first | assumption | omega | decide | (simp only [S_len] at *; omega))) | exact .inr ⟨by decide, by decide⟩ | exact .inl ⟨by (first | assumption | omega | decide | (simp only [S_len] at *; omega)), by (first | assumption | omega | decide | (simp only [S_len] at *; omega))⟩ | exact .inr ⟨by (first | assumption | omega | decide | (simp only [S_len] at *; omega)), by (first | assumption | omega | decide | (simp only [S_len] at *; omega))⟩ | exact ⟨by decide, by decide, by decide⟩ | exact wide_div (b := 128) (by (first | assumption | omega | decide | (simp only [S_len] at *; omega))) (by (first | assumption | omega | decide | (simp only [S_len] at *; omega))) (by decide) (by decide))))))) (fun hb H1 e1 => ?_) (fun hb H1 e1 => ?_)
      · have hcg : c ∉ g := by simpa using hb
        have hex := e.trans e1
        refine ⟨_, rfl, by simp, fun a ha => ⟨a, l, rfl, hl, hc, upd_same, fun dx hd hda => ?_⟩⟩
        rw [upd_ne hda] at hd
        refine ⟨rfl, dx, [(("row" : Str), .str (S l))], upd_same, by rw [upd_ne hda, upd_same], hd, ?_⟩
        refine q2 (fun hall => hcg (hall c (List.mem_of_getElem? hi))) dx _ (fresh_back hex hd) ?_ upd_same
        intro b o hb
        have hb1 := hex b o hb
        have n1 : b ≠ dx := fun z => by rw [z, hd] at hb1; cases hb1
        have n2 : b ≠ a := fun z => by rw [z, ha] at hb1; cases hb1
        rw [upd_ne n1, del_ne n2, upd_ne n2, upd_ne n1, upd_ne n2]
        exact hb1
      · have hcg : c ∈ g := by simpa using hb
        refine ⟨e.trans e1, ?_, _, rfl⟩
        intro x hx
        rw [List.take_add_one, List.mem_append] at hx
        rcases hx with hx | hx
        · exact hp x hx
        · rw [hi] at hx
          have : x = c := by simpa using hx
          rw [this]
          exact hcg
    · rintro σ' H' ⟨e, hp, kv, rfl⟩
      rw [List.take_length] at hp
      exact q1 hp H' e
end
end K01
namespace K01
open PySem PySem.Spec PyProof.Rows L2 Lc Evl
section
variable {P : Program} {w : World} {K : PySem.W.Frag} {mg : Str → Option Value} {base : Heap}
/-! ### rows turned and mirrored -/
def SG : List Nat := [35, 46, 58, 65, 66, 67, 68, 97, 98, 99, 100]
theorem sg_eq : (V.str "#.:ABCDabcd" : V) = V.str (S SG) := congrArg V.str (by decide +kernel)
def Good (l : List Nat) : Prop := ∀ c ∈ l, c ∈ SG
def rot (l : List Nat) (s : Nat) : List Nat := l.drop s ++ l.take s
def tn (l : List Nat) (by_ : Int) : List Nat := if l = [] then l else rot l (by_ % (l.length : Int)).toNat
def Row (l : List Nat) : Prop := l.length ≤ 1000 ∧ ∀ c ∈ l, c < 128
def sp_mirror (K : PySem.W.Frag) : Sp := fun vs H Q E => ∃ l, vs = [.str (S l)] ∧ Row l ∧ (Good l → RetV (.str (S l.reverse)) H Q) ∧ (¬ Good l → Bad K H E (S l))
theorem ok_mirror (T : Tx K mg) : OkD P w K mg base 4 d_mirror ps_mirror (sp_mirror K) := by
  obtain ⟨ds, vd, bd⟩ := b_check_row T
  refine (h_mirror T).ok sc_mirror (fun vs H Q E h => ?_) (fun cdv A outer s H vs Q E hr h => ⟨_,
      (pss_cons (ps_expr (pe_callSD (ok_check_row (P := P) (w := w) (base := base) T) (hr.mono (by decide)) (by rfl) (m_check_row T) (k_check_row T) bd vd (fun σ => L2N.passAt (L2N.takes_of rfl rfl rfl rfl) σ) (pa_cons (pv 0) pa_nil)))
      (pss_one (ps_ret (pe_revS (pv 0))))), ?_⟩)
  · obtain ⟨l, rfl, _⟩ := h
    rfl
  · obtain ⟨l, rfl, ⟨hl, hc⟩, q1, q2⟩ := h
    refine ⟨_, rfl, l, SG, by rw [sg_eq]; rfl, hl, by decide, hc, fun hg H1 e1 => ?_, fun hb => q2 hb⟩
    exact s_ret (ev_revS (w := S l) (ev_var rfl) (by rw [S_len]; omega)) fun H2 e2 => q1 hg H2 (e1.trans e2)
def sp_turned (K : PySem.W.Frag) : Sp := fun vs H Q E => ∃ l by_, vs = [.str (S l), .int by_] ∧ Row l ∧ (Good l → RetV (.str (S (tn l by_))) H Q) ∧ (¬ Good l → Bad K H E (S l))
theorem ev_rot {σ : L2.St} {H : Hp} {ta ti : TE} {l : List Nat} {i : Nat} (hl : l.length ≤ 1000) (h : Ev ta σ H (.str (S l))) (hi : Ev ti σ H (.int (i : Int))) :
    Ev (tOp (fun x y H Q => ∃ i j, x = .str i ∧ y = .str j ∧ i.length + j.length ≤ sizeLine ∧ Q (.str (i ++ j)) H) (tSl rSlS ta (tPart ti) tNoPart) (tSl rSlS ta tNoPart (tPart ti))) σ H (.str (S (rot l i))) := by
  have h1 := ev_slS h (eo_some hi) eo_none (by rw [S_len]; omega)
  have h2 := ev_slS h eo_none (eo_some hi) (by rw [S_len]; omega)
  rw [cut_from] at h1
  rw [cut_to] at h2
  refine ev_op h1 h2 (rv_catSS ?_)
  rw [List.length_drop, List.length_take]
  omega
theorem ok_turned (T : Tx K mg) : OkD P w K mg base 4 d_turned ps_turned (sp_turned K) := by
  obtain ⟨ds, vd, bd⟩ := b_check_row T
  refine (h_turned T).ok sc_turned (fun vs H Q E h => ?_) (fun cdv A outer s H vs Q E hr h => ⟨_,
      (pss_cons (ps_expr (pe_callSD (ok_check_row (P := P) (w := w) (base := base) T) (hr.mono (by decide)) (by rfl) (m_check_row T) (k_check_row T) bd vd (fun σ => L2N.passAt (L2N.takes_of rfl rfl rfl rfl) σ) (pa_cons (pv 0) pa_nil)))
      (pss_cons (ps_if (pt_cmpR op_eq (pv 0) pe_str (nomark _)) (pss_one (ps_ret (pv 0))) pss_nil)
      (pss_cons (ps_set (i := 2) sc_turned.nd rfl (Or.inl rfl) (pe_op op_mod (pv 1) (pe_callB call_len (by rfl) (m_len T) (by decide +kernel) (pa_cons (pv 0) pa_nil))))
      (pss_one (ps_ret (pe_op op_add_str (pe_slice sl_str (pv 0) (po_some (pv 2)) po_none) (pe_slice sl_str (pv 0) po_none (po_some (pv 2))))))))), ?_⟩)
  · obtain ⟨l, by_, rfl, _⟩ := h
    rfl
  · obtain ⟨l, by_, rfl, ⟨hl, hc⟩, q1, q2⟩ := h
    refine ⟨_, rfl, l, SG, by rw [sg_eq]; rfl, hl, by decide, hc, fun hg H1 e1 => ?_, fun hb => q2 hb⟩
    have e0 : (V.str "" : V) = V.str (S []) := congrArg V.str (by decide +kernel)
    dsimp only
    refine q_when (b := decide (l = [])) ?_ (fun hb H2 e2 => ?_) (fun hb H2 e2 => ?_)
    · refine et_test (ev_op (ev_var rfl) (y := .str (S [])) ?_ rv_eqSS)
      rw [← e0]
      exact ev_c
    · have hn : l = [] := by simpa using hb
      refine s_ret (ev_var rfl) fun H3 e3 => ?_
      have q := q1 hg H3 ((e1.trans e2).trans e3)
      unfold tn at q
      rw [if_pos hn] at q
      exact q
    · have hn : l ≠ [] := by simpa using hb
      have hp : 0 < l.length := List.length_pos_iff.mpr hn
      refine q_asg (by repeat' (first | ((with_reducible refine ev_pow10 ?_ ?_ ?_) <;> first | rfl | decide) | (with_reducible refine fun (_ : _ = true) => ?_) | (with_reducible refine fun (_ : _ = false) => ?_) | (with_reducible exact ev_c) | ((with_reducible apply ev_var); rfl) | (with_reducible apply ev_op) | (with_reducible apply ev_un) | (with_reducible apply ev_cb) | (with_reducible apply ea_cons) | (with_reducible apply ev_andV) | (with_reducible apply ev_orV) | (with_reducible apply ev_notV) | (with_reducible apply ev_if) | (with_reducible apply eo_some) | (with_reducible apply el_lst) | (with_reducible exact ea_nil) | (with_reducible exact rv_I0) | (with_reducible exact ru_neg) | (with_reducible exact rv_ltS) | (with_reducible exact rv_inC) | (with_reducible exact rv_notInC) | (with_reducible exact rc_intI) | (with_reducible exact rc_intB) | (with_reducible exact rc_min2) | (with_reducible exact rc_isStr) | (with_reducible exact eo_none) | (with_reducible exact rv_inSS) | (with_reducible exact rv_notInSS) | (with_reducible exact rv_ltSS) | (with_reducible exact rv_eqSS) | (with_reducible exact rv_eqII) | (with_reducible exact rv_neII) | (with_reducible exact rv_neSS) | ((with_reducible refine rc_lenSS ?_); (first | assumption | omega | decide | (simp only [S_len] at *; omega))) | ((with_reducible refine rc_lenStr ?_); (first | assumption | omega | decide | (simp only [S_len] at *; omega))) | ((with_reducible refine rv_catSS ?_); (first | assumption | omega | decide | (simp only [S_len] at *; omega))) | (with_reducible exact rv_eq rfl) | (with_reducible exact rv_ne rfl) | ((with_reducible refine rc_lenS ?_); (first | assumption | omega | decide | (simp only [S_len] at *; omega))) | ((with_reducible refine rc_lenL ?_); assumption) | ((with_reducible apply rv_ixL); assumption; rfl) | ((with_reducible refine rv_catS ?_); (first | assumption | omega | decide | (simp only [S_len] at *; omega))) | ((with_reducible refine rv_I ?_); (first | (show (0 : Int) < _; (first | assumption | omega | decide | (simp only [S_len] at *; omega))) | exact .inr ⟨by decide, by decide⟩ | exact .inl ⟨by (first | assumption | omega | decide | (simp only [S_len] at *; omega)), by (first | assumption | omega | decide | (simp only [S_len] at *; omega))⟩ | exact .inr ⟨by (first | assumption | omega | decide | (simp only [S_len] at *; omega)), by (first | assumption | omega | decide | (simp only [S_len] at *; omega))⟩ | exact ⟨by decide, by decide, by decide⟩ | exact wide_div (b := 128) (by (first | assumption | omega | decide | (simp only [S_len] at *; omega))) (by (first | assumption | omega | decide | (simp only [S_len] at *; omega))) (by decide) (by decide))))) fun H3 e3 => ?_
      have h0 := Int.emod_nonneg by_ (show (l.length : Int) ≠ 0 by omega)
      have h1 := Int.toNat_of_nonneg h0
      refine s_ret (ev_rot (i := (by_ % (l.length : Int)).toNat) hl (ev_var rfl) ?_) fun H4 e4 => ?_
      · rw [h1]
        exact ev_var rfl
      · have q := q1 hg H4 (((e1.trans e2).trans e3).trans e4)
        unfold tn at q
        rw [if_neg hn] at q
        exact q
def rots (l : List Nat) : List Str := (List.range l.length).map fun i => S (rot l i)
def ltv (l : List Nat) : Str := minD (S l) (rots l)
def sp_least_turn (K : PySem.W.Frag) : Sp := fun vs H Q E => ∃ l, vs = [.str (S l)] ∧ Row l ∧ (Good l → RetV (.str (ltv l)) H Q) ∧ (¬ Good l → Bad K H E (S l))
theorem ok_least_turn (T : Tx K mg) : OkD P w K mg base 4 d_least_turn ps_least_turn (sp_least_turn K) := by
  obtain ⟨ds, vd, bd⟩ := b_check_row T
  refine (h_least_turn T).ok sc_least_turn (fun vs H Q E h => ?_) (fun cdv A outer s H vs Q E hr h => ⟨_,
      (pss_cons (ps_expr (pe_callSD (ok_check_row (P := P) (w := w) (base := base) T) (hr.mono (by decide)) (by rfl) (m_check_row T) (k_check_row T) bd vd (fun σ => L2N.passAt (L2N.takes_of rfl rfl rfl rfl) σ) (pa_cons (pv 0) pa_nil)))
      (pss_one (ps_ret (pe_minSD rfl (hu_of hr) (by rfl) (m_min T) (pa_cons (pe_lc (own := [("start", 1)]) (g := gName 1) rfl sc_least_turn.nd (pi_range1 rfl (m_range T) (pa_cons (pe_callB call_len (by rfl) (m_len T) (by decide +kernel) (pa_cons (pv 0) pa_nil)) pa_nil)) (blkOk_by (own := [("start", 1)]) (N := ns_least_turn) (sc := defScope st_least_turn) (by decide +kernel)) (fun _ _ _ _ _ => pg_name (i := 1) sc_least_turn.nd rfl (Or.inl rfl)) (fun _ _ _ _ _ => pts_nil) (fun _ _ _ _ _ => (pe_op op_add_str (pe_slice sl_str (pv 0) (po_some (pv 1)) po_none) (pe_slice sl_str (pv 0) po_none (po_some (pv 1)))))) pa_nil) (pk_cons (pv 0) pk_nil))))), ?_⟩)
  · obtain ⟨l, rfl, _⟩ := h
    rfl
  · obtain ⟨l, rfl, ⟨hl, hc⟩, q1, q2⟩ := h
    refine ⟨_, rfl, l, SG, by rw [sg_eq]; rfl, hl, by decide, hc, fun hg H1 e1 => ?_, fun hb => q2 hb⟩
    dsimp only
    refine s_ret (ev_minSD (xs := rots l) (d := S l) ?_ (by exact ev_var rfl)) fun H2 e2 => ?_
    · have h := el_lcR1 (σ := L2.start ns_least_turn [V.str (S l)]) (H := H1) (j := 1) (vs := [1]) (fun _ => true) (fun i => V.str (S (rot l i))) (n := (l.length : Int)) (ta := tCons (tCB (fun xs H Q => ∃ x n, xs = [x] ∧ LenV K x H n ∧ Q (.int n) H) (tCons (tVar 0) tNil)) tNil) (by repeat' (first | ((with_reducible refine ev_pow10 ?_ ?_ ?_) <;> first | rfl | decide) | (with_reducible refine fun (_ : _ = true) => ?_) | (with_reducible refine fun (_ : _ = false) => ?_) | (with_reducible exact ev_c) | ((with_reducible apply ev_var); rfl) | (with_reducible apply ev_op) | (with_reducible apply ev_un) | (with_reducible apply ev_cb) | (with_reducible apply ea_cons) | (with_reducible apply ev_andV) | (with_reducible apply ev_orV) | (with_reducible apply ev_notV) | (with_reducible apply ev_if) | (with_reducible apply eo_some) | (with_reducible apply el_lst) | (with_reducible exact ea_nil) | (with_reducible exact rv_I0) | (with_reducible exact ru_neg) | (with_reducible exact rv_ltS) | (with_reducible exact rv_inC) | (with_reducible exact rv_notInC) | (with_reducible exact rc_intI) | (with_reducible exact rc_intB) | (with_reducible exact rc_min2) | (with_reducible exact rc_isStr) | (with_reducible exact eo_none) | (with_reducible exact rv_inSS) | (with_reducible exact rv_notInSS) | (with_reducible exact rv_ltSS) | (with_reducible exact rv_eqSS) | (with_reducible exact rv_eqII) | (with_reducible exact rv_neII) | (with_reducible exact rv_neSS) | ((with_reducible refine rc_lenSS ?_); (first | assumption | omega | decide | (simp only [S_len] at *; omega))) | ((with_reducible refine rc_lenStr ?_); (first | assumption | omega | decide | (simp only [S_len] at *; omega))) | ((with_reducible refine rv_catSS ?_); (first | assumption | omega | decide | (simp only [S_len] at *; omega))) | (with_reducible exact rv_eq rfl) | (with_reducible exact rv_ne rfl) | ((with_reducible refine rc_lenS ?_); (first | assumption | omega | decide | (simp only [S_len] at *; omega))) | ((with_reducible refine rc_lenL ?_); assumption) | ((with_reducible apply rv_ixL); assumption; rfl) | ((with_reducible refine rv_catS ?_); (first | assumption | omega | decide | (simp only [S_len] at *; omega))) | ((with_reducible refine rv_I ?_); (first | (show (0 : Int) < _; (first | assumption | omega | decide | (simp only [S_len] at *; omega))) | exact .inr ⟨by decide, by decide⟩ | exact .inl ⟨by (first | assumption | omega | decide | (simp only [S_len] at *; omega)), by (first | assumption | omega | decide | (simp only [S_len] at *; omega))⟩ | exact .inr ⟨by (first | assumption | omega | decide | (simp only [S_len] at *; omega)), by (first | assumption | omega | decide | (simp only [S_len] at *; omega))⟩ | exact ⟨by decide, by decide, by decide⟩ | exact wide_div (b := 128) (by (first | assumption | omega | decide | (simp only [S_len] at *; omega))) (by (first | assumption | omega | decide | (simp only [S_len] at *; omega))) (by decide) (by decide))))) (by omega) (fun x => rfl) (fun i H2 _ _ => et_yes) (fun i H2 _ hi _ => ev_rot (i := i) (ta := tVar 0) (ti := tVar 1) hl (ev_var rfl) (ev_var rfl))
      rw [given_all, Int.toNat_natCast] at h
      unfold rots
      rw [List.map_map]
      exact h
    · have q := q1 hg H2 (e1.trans e2)
      exact q
end
end K01
namespace K01
open PySem PySem.Spec PyProof.Rows L2 Lc Evl
section
variable {P : Program} {w : World} {K : PySem.W.Frag} {mg : Str → Option Value} {base : Heap}
/-! ### the law's own small defs -/
def sp_law_text : Sp := fun vs H Q _ => ∃ a b : List Nat, vs = [.str (S a), .str (S b)] ∧ RetV (.bl (decide (a = b))) H Q
theorem ok_law_text (T : Tx K mg) : OkD P w K mg base 1 d_law_text ps_law_text sp_law_text := by
  refine (h_law_text T).ok sc_law_text (fun vs H Q E h => ?_) (fun cdv A outer s H vs Q E hr h => ⟨_,
      (pss_one (ps_ret (pe_and (pe_callB call_isi (by rfl) (m_isinstance T) (by decide +kernel) (pa_cons (pv 0) (pa_cons (pe_bltn (v := .ty "str") (u := .type "str") (by rfl) (m_str T) (by decide +kernel) rfl) pa_nil))) (pe_one (pe_cmpR op_eq (pv 0) (pv 1) (nomark _)))))), ?_⟩)
  · obtain ⟨a, b, rfl, _⟩ := h
    rfl
  · obtain ⟨a, b, rfl, q⟩ := h
    exact s_ret (v := .bl (true && decide (a = b))) (by repeat' (first | ((with_reducible refine ev_pow10 ?_ ?_ ?_) <;> first | rfl | decide) | (with_reducible refine fun (_ : _ = true) => ?_) | (with_reducible refine fun (_ : _ = false) => ?_) | (with_reducible exact ev_c) | ((with_reducible apply ev_var); rfl) | (with_reducible apply ev_op) | (with_reducible apply ev_un) | (with_reducible apply ev_cb) | (with_reducible apply ea_cons) | (with_reducible apply ev_andV) | (with_reducible apply ev_orV) | (with_reducible apply ev_notV) | (with_reducible apply ev_if) | (with_reducible apply eo_some) | (with_reducible apply el_lst) | (with_reducible exact ea_nil) | (with_reducible exact rv_I0) | (with_reducible exact ru_neg) | (with_reducible exact rv_ltS) | (with_reducible exact rv_inC) | (with_reducible exact rv_notInC) | (with_reducible exact rc_intI) | (with_reducible exact rc_intB) | (with_reducible exact rc_min2) | (with_reducible exact rc_isStr) | (with_reducible exact eo_none) | (with_reducible exact rv_inSS) | (with_reducible exact rv_notInSS) | (with_reducible exact rv_ltSS) | (with_reducible exact rv_eqSS) | (with_reducible exact rv_eqII) | (with_reducible exact rv_neII) | (with_reducible exact rv_neSS) | ((with_reducible refine rc_lenSS ?_); (first | assumption | omega | decide | (simp only [S_len] at *; omega))) | ((with_reducible refine rc_lenStr ?_); (first | assumption | omega | decide | (simp only [S_len] at *; omega))) | ((with_reducible refine rv_catSS ?_); (first | assumption | omega | decide | (simp only [S_len] at *; omega))) | (with_reducible exact rv_eq rfl) | (with_reducible exact rv_ne rfl) | ((with_reducible refine rc_lenS ?_); (first | assumption | omega | decide | (simp only [S_len] at *; omega))) | ((with_reducible refine rc_lenL ?_); assumption) | ((with_reducible apply rv_ixL); assumption; rfl) | ((with_reducible refine rv_catS ?_); (first | assumption | omega | decide | (simp only [S_len] at *; omega))) | ((with_reducible refine rv_I ?_); (first | (show (0 : Int) < _; (first | assumption | omega | decide | (simp only [S_len] at *; omega))) | exact .inr ⟨by decide, by decide⟩ | exact .inl ⟨by (first | assumption | omega | decide | (simp only [S_len] at *; omega)), by (first | assumption | omega | decide | (simp only [S_len] at *; omega))⟩ | exact .inr ⟨by (first | assumption | omega | decide | (simp only [S_len] at *; omega)), by (first | assumption | omega | decide | (simp only [S_len] at *; omega))⟩ | exact ⟨by decide, by decide, by decide⟩ | exact wide_div (b := 128) (by (first | assumption | omega | decide | (simp only [S_len] at *; omega))) (by (first | assumption | omega | decide | (simp only [S_len] at *; omega))) (by decide) (by decide))))) fun H1 e1 => q H1 e1
def bel (c : Nat) (k : Int) (w d : Bool) : Bool := if c = 35 then w else if c = 46 then true else if c = 58 then d else if c ∈ [65, 66, 67, 68] then (d && decide (((c - 65 : Nat) : Int) < k)) else decide (((c - 97 : Nat) : Int) < k)
def sp_law_belongs : Sp := fun vs H Q _ => ∃ (c : Nat) (k : Int) (w d : Bool), vs = [.str (S [c]), .int k, .bl w, .bl d] ∧ c ∈ SG ∧ RetV (.bl (bel c k w d)) H Q
theorem idx_up : ∀ c ∈ [65, 66, 67, 68], Txt.index0 (S [65, 66, 67, 68]) (S [c]) = some (c - 65) := by decide +kernel
theorem idx_low : ∀ c ∈ [97, 98, 99, 100], Txt.index0 (S [97, 98, 99, 100]) (S [c]) = some (c - 97) := by decide +kernel
theorem sg_rest : ∀ c ∈ SG, c ≠ 35 → c ≠ 46 → c ≠ 58 → c ∉ [65, 66, 67, 68] → c ∈ [97, 98, 99, 100] := by decide +kernel
theorem sg1 {c a : Nat} : decide ([c] = [a]) = decide (c = a) := by simp
theorem ok_law_belongs (T : Tx K mg) : OkD P w K mg base 1 d_law_belongs ps_law_belongs sp_law_belongs := by
  refine (h_law_belongs T).ok sc_law_belongs (fun vs H Q E h => ?_) (fun cdv A outer s H vs Q E hr h => ⟨_,
      (pss_cons (ps_if (pt_cmpR op_eq (pv 0) pe_str (nomark _)) (pss_one (ps_ret (pv 2))) pss_nil)
      (pss_cons (ps_if (pt_cmpR op_eq (pv 0) pe_str (nomark _)) (pss_one (ps_ret pe_bl)) pss_nil)
      (pss_cons (ps_if (pt_cmpR op_eq (pv 0) pe_str (nomark _)) (pss_one (ps_ret (pv 3))) pss_nil)
      (pss_cons (ps_if (pt_cmpR op_in_sign (pv 0) pe_str (by rfl)) (pss_one (ps_ret (pe_and (pv 3) (pe_one (pe_cmpR op_lt (pe_bmS PySem.F.plainAttrs_str PySem.F.slot_str_index PySem.F.type_str_index (mt_indexX rfl takes0) pe_str (pa_cons (pv 0) pa_nil)) (pv 1) (nomark _)))))) pss_nil)
      (pss_one (ps_ret (pe_cmpR op_lt (pe_bmS PySem.F.plainAttrs_str PySem.F.slot_str_index PySem.F.type_str_index (mt_indexX rfl takes0) pe_str (pa_cons (pv 0) pa_nil)) (pv 1) (nomark _)))))))), ?_⟩)
  · obtain ⟨c, k, w, d, rfl, _⟩ := h
    rfl
  · obtain ⟨c, k, w, d, rfl, hc, q⟩ := h
    simp only [kc_2, kc_4, kc_5, kc_6, kc_7, kc_8, kc_9, kc_10, kc_11, kc_12]
    refine q_when (b := decide ([c] = [35])) (by first | ((with_reducible apply et_test); (repeat' (first | ((with_reducible refine ev_pow10 ?_ ?_ ?_) <;> first | rfl | decide) | (with_reducible refine fun (_ : _ = true) => ?_) | (with_reducible refine fun (_ : _ = false) => ?_) | (with_reducible exact ev_c) | ((with_reducible apply ev_var); rfl) | (with_reducible apply ev_op) | (with_reducible apply ev_un) | (with_reducible apply ev_cb) | (with_reducible apply ea_cons) | (with_reducible apply ev_andV) | (with_reducible apply ev_orV) | (with_reducible apply ev_notV) | (with_reducible apply ev_if) | (with_reducible apply eo_some) | (with_reducible apply el_lst) | (with_reducible exact ea_nil) | (with_reducible exact rv_I0) | (with_reducible exact ru_neg) | (with_reducible exact rv_ltS) | (with_reducible exact rv_inC) | (with_reducible exact rv_notInC) | (with_reducible exact rc_intI) | (with_reducible exact rc_intB) | (with_reducible exact rc_min2) | (with_reducible exact rc_isStr) | (with_reducible exact eo_none) | (with_reducible exact rv_inSS) | (with_reducible exact rv_notInSS) | (with_reducible exact rv_ltSS) | (with_reducible exact rv_eqSS) | (with_reducible exact rv_eqII) | (with_reducible exact rv_neII) | (with_reducible exact rv_neSS) | ((with_reducible refine rc_lenSS ?_); (first | assumption | omega | decide | (simp only [S_len] at *; omega))) | ((with_reducible refine rc_lenStr ?_); (first | assumption | omega | decide | (simp only [S_len] at *; omega))) | ((with_reducible refine rv_catSS ?_); (first | assumption | omega | decide | (simp only [S_len] at *; omega))) | (with_reducible exact rv_eq rfl) | (with_reducible exact rv_ne rfl) | ((with_reducible refine rc_lenS ?_); (first | assumption | omega | decide | (simp only [S_len] at *; omega))) | ((with_reducible refine rc_lenL ?_); assumption) | ((with_reducible apply rv_ixL); assumption; rfl) | ((with_reducible refine rv_catS ?_); (first | assumption | omega | decide | (simp only [S_len] at *; omega))) | ((with_reducible refine rv_I ?_); (first | (show (0 : Int) < _; (first | assumption | omega | decide | (simp only [S_len] at *; omega))) | exact .inr ⟨by decide, by decide⟩ | exact .inl ⟨by (first | assumption | omega | decide | (simp only [S_len] at *; omega)), by (first | assumption | omega | decide | (simp only [S_len] at *; omega))⟩ | exact .inr ⟨by (first | assumption | omega | decide | (simp only [S_len] at *; omega)), by (first | assumption | omega | decide | (simp only [S_len] at *; omega))⟩ | exact ⟨by decide, by decide, by decide⟩ | exact wide_div (b := 128) (by (first | assumption | omega | decide | (simp only [S_len] at *; omega))) (by (first | assumption | omega | decide | (simp only [S_len] at *; omega))) (by decide) (by decide)))))) | ((with_reducible apply et_B); (repeat' (first | ((with_reducible refine ev_pow10 ?_ ?_ ?_) <;> first | rfl | decide) | (with_reducible refine fun (_ : _ = true) => ?_) | (with_reducible refine fun (_ : _ = false) => ?_) | (with_reducible exact ev_c) | ((with_reducible apply ev_var); rfl) | (with_reducible apply ev_op) | (with_reducible apply ev_un) | (with_reducible apply ev_cb) | (with_reducible apply ea_cons) | (with_reducible apply ev_andV) | (with_reducible apply ev_orV) | (with_reducible apply ev_notV) | (with_reducible apply ev_if) | (with_reducible apply eo_some) | (with_reducible apply el_lst) | (with_reducible exact ea_nil) | (with_reducible exact rv_I0) | (with_reducible exact ru_neg) | (with_reducible exact rv_ltS) | (with_reducible exact rv_inC) | (with_reducible exact rv_notInC) | (with_reducible exact rc_intI) | (with_reducible exact rc_intB) | (with_reducible exact rc_min2) | (with_reducible exact rc_isStr) | (with_reducible exact eo_none) | (with_reducible exact rv_inSS) | (with_reducible exact rv_notInSS) | (with_reducible exact rv_ltSS) | (with_reducible exact rv_eqSS) | (with_reducible exact rv_eqII) | (with_reducible exact rv_neII) | (with_reducible exact rv_neSS) | ((with_reducible refine rc_lenSS ?_); (first | assumption | omega | decide | (simp only [S_len] at *; omega))) | ((with_reducible refine rc_lenStr ?_); (first | assumption | omega | decide | (simp only [S_len] at *; omega))) | ((with_reducible refine rv_catSS ?_); (first | assumption | omega | decide | (simp only [S_len] at *; omega))) | (with_reducible exact rv_eq rfl) | (with_reducible exact rv_ne rfl) | ((with_reducible refine rc_lenS ?_); (first | assumption | omega | decide | (simp only [S_len] at *; omega))) | ((with_reducible refine rc_lenL ?_); assumption) | ((with_reducible apply rv_ixL); assumption; rfl) | ((with_reducible refine rv_catS ?_); (first | assumption | omega | decide | (simp only [S_len] at *; omega))) | ((with_reducible refine rv_I ?_); (first | (show (0 : Int) < _; (first | assumption | omega | decide | (simp only [S_len] at *; omega))) | exact .inr ⟨by decide, by decide⟩ | exact .inl ⟨by (first | assumption | omega | decide | (simp only [S_len] at *; omega)), by (first | assumption | omega | decide | (simp only [S_len] at *; omega))⟩ | exact .inr ⟨by (first | assumption | omega | decide | (simp only [S_len] at *; omega)), by (first | assumption | omega | decide | (simp only [S_len] at *; omega))⟩ | exact ⟨by decide, by decide, by decide⟩ | exact wide_div (b := 128) (by (first | assumption | omega | decide | (simp only [S_len] at *; omega))) (by (first | assumption | omega | decide | (simp only [S_len] at *; omega))) (by decide) (by decide))))))) (fun hb H1 e1 => ?_) (fun hb H1 e1 => ?_)
    · have h1 : c = 35 := by simpa using hb
      refine s_ret (by exact ev_var rfl) fun H2 e2 => ?_
      have q2 := q H2 (e1.trans e2)
      unfold bel at q2
      rw [if_pos h1] at q2
      exact q2
    have h1 : c ≠ 35 := by simpa using hb
    refine q_when (b := decide ([c] = [46])) (by first | ((with_reducible apply et_test); (repeat' (first | ((with_reducible refine ev_pow10 ?_ ?_ ?_) <;> first | rfl | decide) | (with_reducible refine fun (_ : _ = true) => ?_) | (with_reducible refine fun (_ : _ = false) => ?_) | (with_reducible exact ev_c) | ((with_reducible apply ev_var); rfl) | (with_reducible apply ev_op) | (with_reducible apply ev_un) | (with_reducible apply ev_cb) | (with_reducible apply ea_cons) | (with_reducible apply ev_andV) | (with_reducible apply ev_orV) | (with_reducible apply ev_notV) | (with_reducible apply ev_if) | (with_reducible apply eo_some) | (with_reducible apply el_lst) | (with_reducible exact ea_nil) | (with_reducible exact rv_I0) | (with_reducible exact ru_neg) | (with_reducible exact rv_ltS) | (with_reducible exact rv_inC) | (with_reducible exact rv_notInC) | (with_reducible exact rc_intI) | (with_reducible exact rc_intB) | (with_reducible exact rc_min2) | (with_reducible exact rc_isStr) | (with_reducible exact eo_none) | (with_reducible exact rv_inSS) | (with_reducible exact rv_notInSS) | (with_reducible exact rv_ltSS) | (with_reducible exact rv_eqSS) | (with_reducible exact rv_eqII) | (with_reducible exact rv_neII) | (with_reducible exact rv_neSS) | ((with_reducible refine rc_lenSS ?_); (first | assumption | omega | decide | (simp only [S_len] at *; omega))) | ((with_reducible refine rc_lenStr ?_); (first | assumption | omega | decide | (simp only [S_len] at *; omega))) | ((with_reducible refine rv_catSS ?_); (first | assumption | omega | decide | (simp only [S_len] at *; omega))) | (with_reducible exact rv_eq rfl) | (with_reducible exact rv_ne rfl) | ((with_reducible refine rc_lenS ?_); (first | assumption | omega | decide | (simp only [S_len] at *; omega))) | ((with_reducible refine rc_lenL ?_); assumption) | ((with_reducible apply rv_ixL); assumption; rfl) | ((with_reducible refine rv_catS ?_); (first | assumption | omega | decide | (simp only [S_len] at *; omega))) | ((with_reducible refine rv_I ?_); (first | (show (0 : Int) < _; (first | assumption | omega | decide | (simp only [S_len] at *; omega))) | exact .inr ⟨by decide, by decide⟩ | exact .inl ⟨by (first | assumption | omega | decide | (simp only [S_len] at *; omega)), by (first | assumption | omega | decide | (simp only [S_len] at *; omega))⟩ | exact .inr ⟨by (first | assumption | omega | decide | (simp only [S_len] at *; omega)), by (first | assumption | omega | decide | (simp only [S_len] at *; omega))⟩ | exact ⟨by decide, by decide, by decide⟩ | exact wide_div (b := 128) (by (first | assumption | omega | decide | (simp only [S_len] at *; omega))) (by (first | assumption | omega | decide | (simp only [S_len] at *; omega))) (by decide) (by decide)))))) | ((with_reducible apply et_B); (repeat' (first | ((with_reducible refine ev_pow10 ?_ ?_ ?_) <;> first | rfl | decide) | (with_reducible refine fun (_ : _ = true) => ?_) | (with_reducible refine fun (_ : _ = false) => ?_) | (with_reducible exact ev_c) | ((with_reducible apply ev_var); rfl) | (with_reducible apply ev_op) | (with_reducible apply ev_un) | (with_reducible apply ev_cb) | (with_reducible apply ea_cons) | (with_reducible apply ev_andV) | (with_reducible apply ev_orV) | (with_reducible apply ev_notV) | (with_reducible apply ev_if) | (with_reducible apply eo_some) | (with_reducible apply el_lst) | (with_reducible exact ea_nil) | (with_reducible exact rv_I0) | (with_reducible exact ru_neg) | (with_reducible exact rv_ltS) | (with_reducible exact rv_inC) | (with_reducible exact rv_notInC) | (with_reducible exact rc_intI) | (with_reducible exact rc_intB) | (with_reducible exact rc_min2) | (with_reducible exact rc_isStr) | (with_reducible exact eo_none) | (with_reducible exact rv_inSS) | (with_reducible exact rv_notInSS) | (with_reducible exact rv_ltSS) | (with_reducible exact rv_eqSS) | (with_reducible exact rv_eqII) | (with_reducible exact rv_neII) | (with_reducible exact rv_neSS) | ((with_reducible refine rc_lenSS ?_); (first | assumption | omega | decide | (simp only [S_len] at *; omega))) | ((with_reducible refine rc_lenStr ?_); (first | assumption | omega | decide | (simp only [S_len] at *; omega))) | ((with_reducible refine rv_catSS ?_); (first | assumption | omega | decide | (simp only [S_len] at *; omega))) | (with_reducible exact rv_eq rfl) | (with_reducible exact rv_ne rfl) | ((with_reducible refine rc_lenS ?_); (first | assumption | omega | decide | (simp only [S_len] at *; omega))) | ((with_reducible refine rc_lenL ?_); assumption) | ((with_reducible apply rv_ixL); assumption; rfl) | ((with_reducible refine rv_catS ?_); (first | assumption | omega | decide | (simp only [S_len] at *; omega))) | ((with_reducible refine rv_I ?_); (first | (show (0 : Int) < _; (first | assumption | omega | decide | (simp only [S_len] at *; omega))) | exact .inr ⟨by decide, by decide⟩ | exact .inl ⟨by (first | assumption | omega | decide | (simp only [S_len] at *; omega)), by (first | assumption | omega | decide | (simp only [S_len] at *; omega))⟩ | exact .inr ⟨by (first | assumption | omega | decide | (simp only [S_len] at *; omega)), by (first | assumption | omega | decide | (simp only [S_len] at *; omega))⟩ | exact ⟨by decide, by decide, by decide⟩ | exact wide_div (b := 128) (by (first | assumption | omega | decide | (simp only [S_len] at *; omega))) (by (first | assumption | omega | decide | (simp only [S_len] at *; omega))) (by decide) (by decide))))))) (fun hb H2 e2 => ?_) (fun hb H2 e2 => ?_)
    · have h2 : c = 46 := by simpa using hb
      refine s_ret (by exact ev_c) fun H3 e3 => ?_
      have q2 := q H3 ((e1.trans e2).trans e3)
      unfold bel at q2
      rw [if_neg h1, if_pos h2] at q2
      exact q2
    have h2 : c ≠ 46 := by simpa using hb
    refine q_when (b := decide ([c] = [58])) (by first | ((with_reducible apply et_test); (repeat' (first | ((with_reducible refine ev_pow10 ?_ ?_ ?_) <;> first | rfl | decide) | (with_reducible refine fun (_ : _ = true) => ?_) | (with_reducible refine fun (_ : _ = false) => ?_) | (with_reducible exact ev_c) | ((with_reducible apply ev_var); rfl) | (with_reducible apply ev_op) | (with_reducible apply ev_un) | (with_reducible apply ev_cb) | (with_reducible apply ea_cons) | (with_reducible apply ev_andV) | (with_reducible apply ev_orV) | (with_reducible apply ev_notV) | (with_reducible apply ev_if) | (with_reducible apply eo_some) | (with_reducible apply el_lst) | (with_reducible exact ea_nil) | (with_reducible exact rv_I0) | (with_reducible exact ru_neg) | (with_reducible exact rv_ltS) | (with_reducible exact rv_inC) | (with_reducible exact rv_notInC) | (with_reducible exact rc_intI) | (with_reducible exact rc_intB) | (with_reducible exact rc_min2) | (with_reducible exact rc_isStr) | (with_reducible exact eo_none) | (with_reducible exact rv_inSS) | (with_reducible exact rv_notInSS) | (with_reducible exact rv_ltSS) | (with_reducible exact rv_eqSS) | (with_reducible exact rv_eqII) | (with_reducible exact rv_neII) | (with_reducible exact rv_neSS) | ((with_reducible refine rc_lenSS ?_); (first | assumption | omega | decide | (simp only [S_len] at *; omega))) | ((with_reducible refine rc_lenStr ?_); (first | assumption | omega | decide | (simp only [S_len] at *; omega))) | ((with_reducible refine rv_catSS ?_); (first | assumption | omega | decide | (simp only [S_len] at *; omega))) | (with_reducible exact rv_eq rfl) | (with_reducible exact rv_ne rfl) | ((with_reducible refine rc_lenS ?_); (first | assumption | omega | decide | (simp only [S_len] at *; omega))) | ((with_reducible refine rc_lenL ?_); assumption) | ((with_reducible apply rv_ixL); assumption; rfl) | ((with_reducible refine rv_catS ?_); (first | assumption | omega | decide | (simp only [S_len] at *; omega))) | ((with_reducible refine rv_I ?_); (first | (show (0 : Int) < _; (first | assumption | omega | decide | (simp only [S_len] at *; omega))) | exact .inr ⟨by decide, by decide⟩ | exact .inl ⟨by (first | assumption | omega | decide | (simp only [S_len] at *; omega)), by (first | assumption | omega | decide | (simp only [S_len] at *; omega))⟩ | exact .inr ⟨by (first | assumption | omega | decide | (simp only [S_len] at *; omega)), by (first | assumption | omega | decide | (simp only [S_len] at *; omega))⟩ | exact ⟨by decide, by decide, by decide⟩ | exact wide_div (b := 128) (by (first | assumption | omega | decide | (simp only [S_len] at *; omega))) (by (first | assumption | omega | decide | (simp only [S_len] at *; omega))) (by decide) (by decide)))))) | ((with_reducible apply et_B); (repeat' (first | ((with_reducible refine ev_pow10 ?_ ?_ ?_) <;> first | rfl | decide) | (with_reducible refine fun (_ : _ = true) => ?_) | (with_reducible refine fun (_ : _ = false) => ?_) | (with_reducible exact ev_c) | ((with_reducible apply ev_var); rfl) | (with_reducible apply ev_op) | (with_reducible apply ev_un) | (with_reducible apply ev_cb) | (with_reducible apply ea_cons) | (with_reducible apply ev_andV) | (with_reducible apply ev_orV) | (with_reducible apply ev_notV) | (with_reducible apply ev_if) | (with_reducible apply eo_some) | (with_reducible apply el_lst) | (with_reducible exact ea_nil) | (with_reducible exact rv_I0) | (with_reducible exact ru_neg) | (with_reducible exact rv_ltS) | (with_reducible exact rv_inC) | (with_reducible exact rv_notInC) | (with_reducible exact rc_intI) | (with_reducible exact rc_intB) | (with_reducible exact rc_min2) | (with_reducible exact rc_isStr) | (with_reducible exact eo_none) | (with_reducible exact rv_inSS) | (with_reducible exact rv_notInSS) | (with_reducible exact rv_ltSS) | (with_reducible exact rv_eqSS) | (with_reducible exact rv_eqII) | (with_reducible exact rv_neII) | (with_reducible exact rv_neSS) | ((with_reducible refine rc_lenSS ?_); (first | assumption | omega | decide | (simp only [S_len] at *; omega))) | ((with_reducible refine rc_lenStr ?_); (first | assumption | omega | decide | (simp only [S_len] at *; omega))) | ((with_reducible refine rv_catSS ?_); (first | assumption | omega | decide | (simp only [S_len] at *; omega))) | (with_reducible exact rv_eq rfl) | (with_reducible exact rv_ne rfl) | ((with_reducible refine rc_lenS ?_); (first | assumption | omega | decide | (simp only [S_len] at *; omega))) | ((with_reducible refine rc_lenL ?_); assumption) | ((with_reducible apply rv_ixL); assumption; rfl) | ((with_reducible refine rv_catS ?_); (first | assumption | omega | decide | (simp only [S_len] at *; omega))) | ((with_reducible refine rv_I ?_); (first | (show (0 : Int) < _; (first | assumption | omega | decide | (simp only [S_len] at *; omega))) | exact .inr ⟨by decide, by decide⟩ | exact .inl ⟨by (first | assumption | omega | decide | (simp only [S_len] at *; omega)), by (first | assumption | omega | decide | (simp only [S_len] at *; omega))⟩ | exact .inr ⟨by (first | assumption | omega | decide | (simp only [S_len] at *; omega)), by (first | assumption | omega | decide | (simp only [S_len] at *; omega))⟩ | exact ⟨by decide, by decide, by decide⟩ | exact wide_div (b := 128) (by (first | assumption | omega | decide | (simp only [S_len] at *; omega))) (by (first | assumption | omega | decide | (simp only [S_len] at *; omega))) (by decide) (by decide))))))) (fun hb H3 e3 => ?_) (fun hb H3 e3 => ?_)
    · have h3 : c = 58 := by simpa using hb
      refine s_ret (by exact ev_var rfl) fun H4 e4 => ?_
      have q2 := q H4 (((e1.trans e2).trans e3).trans e4)
      unfold bel at q2
      rw [if_neg h1, if_neg h2, if_pos h3] at q2
      exact q2
    have h3 : c ≠ 58 := by simpa using hb
    have e03 := (e1.trans e2).trans e3
    refine q_when (b := decide (c ∈ [65, 66, 67, 68])) (by first | ((with_reducible apply et_test); (repeat' (first | ((with_reducible refine ev_pow10 ?_ ?_ ?_) <;> first | rfl | decide) | (with_reducible refine fun (_ : _ = true) => ?_) | (with_reducible refine fun (_ : _ = false) => ?_) | (with_reducible exact ev_c) | ((with_reducible apply ev_var); rfl) | (with_reducible apply ev_op) | (with_reducible apply ev_un) | (with_reducible apply ev_cb) | (with_reducible apply ea_cons) | (with_reducible apply ev_andV) | (with_reducible apply ev_orV) | (with_reducible apply ev_notV) | (with_reducible apply ev_if) | (with_reducible apply eo_some) | (with_reducible apply el_lst) | (with_reducible exact ea_nil) | (with_reducible exact rv_I0) | (with_reducible exact ru_neg) | (with_reducible exact rv_ltS) | (with_reducible exact rv_inC) | (with_reducible exact rv_notInC) | (with_reducible exact rc_intI) | (with_reducible exact rc_intB) | (with_reducible exact rc_min2) | (with_reducible exact rc_isStr) | (with_reducible exact eo_none) | (with_reducible exact rv_inSS) | (with_reducible exact rv_notInSS) | (with_reducible exact rv_ltSS) | (with_reducible exact rv_eqSS) | (with_reducible exact rv_eqII) | (with_reducible exact rv_neII) | (with_reducible exact rv_neSS) | ((with_reducible refine rc_lenSS ?_); (first | assumption | omega | decide | (simp only [S_len] at *; omega))) | ((with_reducible refine rc_lenStr ?_); (first | assumption | omega | decide | (simp only [S_len] at *; omega))) | ((with_reducible refine rv_catSS ?_); (first | assumption | omega | decide | (simp only [S_len] at *; omega))) | (with_reducible exact rv_eq rfl) | (with_reducible exact rv_ne rfl) | ((with_reducible refine rc_lenS ?_); (first | assumption | omega | decide | (simp only [S_len] at *; omega))) | ((with_reducible refine rc_lenL ?_); assumption) | ((with_reducible apply rv_ixL); assumption; rfl) | ((with_reducible refine rv_catS ?_); (first | assumption | omega | decide | (simp only [S_len] at *; omega))) | ((with_reducible refine rv_I ?_); (first | (show (0 : Int) < _; (first | assumption | omega | decide | (simp only [S_len] at *; omega))) | exact .inr ⟨by decide, by decide⟩ | exact .inl ⟨by (first | assumption | omega | decide | (simp only [S_len] at *; omega)), by (first | assumption | omega | decide | (simp only [S_len] at *; omega))⟩ | exact .inr ⟨by (first | assumption | omega | decide | (simp only [S_len] at *; omega)), by (first | assumption | omega | decide | (simp only [S_len] at *; omega))⟩ | exact ⟨by decide, by decide, by decide⟩ | exact wide_div (b := 128) (by (first | assumption | omega | decide | (simp only [S_len] at *; omega))) (by (first | assumption | omega | decide | (simp only [S_len] at *; omega))) (by decide) (by decide)))))) | ((with_reducible apply et_B); (repeat' (first | ((with_reducible refine ev_pow10 ?_ ?_ ?_) <;> first | rfl | decide) | (with_reducible refine fun (_ : _ = true) => ?_) | (with_reducible refine fun (_ : _ = false) => ?_) | (with_reducible exact ev_c) | ((with_reducible apply ev_var); rfl) | (with_reducible apply ev_op) | (with_reducible apply ev_un) | (with_reducible apply ev_cb) | (with_reducible apply ea_cons) | (with_reducible apply ev_andV) | (with_reducible apply ev_orV) | (with_reducible apply ev_notV) | (with_reducible apply ev_if) | (with_reducible apply eo_some) | (with_reducible apply el_lst) | (with_reducible exact ea_nil) | (with_reducible exact rv_I0) | (with_reducible exact ru_neg) | (with_reducible exact rv_ltS) | (with_reducible exact rv_inC) | (with_reducible exact rv_notInC) | (with_reducible exact rc_intI) | (with_reducible exact rc_intB) | (with_reducible exact rc_min2) | (with_reducible exact rc_isStr) | (with_reducible exact eo_none) | (with_reducible exact rv_inSS) | (with_reducible exact rv_notInSS) | (with_reducible exact rv_ltSS) | (with_reducible exact rv_eqSS) | (with_reducible exact rv_eqII) | (with_reducible exact rv_neII) | (with_reducible exact rv_neSS) | ((with_reducible refine rc_lenSS ?_); (first | assumption | omega | decide | (simp only [S_len] at *; omega))) | ((with_reducible refine rc_lenStr ?_); (first | assumption | omega | decide | (simp only [S_len] at *; omega))) | ((with_reducible refine rv_catSS ?_); (first | assumption | omega | decide | (simp only [S_len] at *; omega))) | (with_reducible exact rv_eq rfl) | (with_reducible exact rv_ne rfl) | ((with_reducible refine rc_lenS ?_); (first | assumption | omega | decide | (simp only [S_len] at *; omega))) | ((with_reducible refine rc_lenL ?_); assumption) | ((with_reducible apply rv_ixL); assumption; rfl) | ((with_reducible refine rv_catS ?_); (first | assumption | omega | decide | (simp only [S_len] at *; omega))) | ((with_reducible refine rv_I ?_); (first | (show (0 : Int) < _; (first | assumption | omega | decide | (simp only [S_len] at *; omega))) | exact .inr ⟨by decide, by decide⟩ | exact .inl ⟨by (first | assumption | omega | decide | (simp only [S_len] at *; omega)), by (first | assumption | omega | decide | (simp only [S_len] at *; omega))⟩ | exact .inr ⟨by (first | assumption | omega | decide | (simp only [S_len] at *; omega)), by (first | assumption | omega | decide | (simp only [S_len] at *; omega))⟩ | exact ⟨by decide, by decide, by decide⟩ | exact wide_div (b := 128) (by (first | assumption | omega | decide | (simp only [S_len] at *; omega))) (by (first | assumption | omega | decide | (simp only [S_len] at *; omega))) (by decide) (by decide))))))) (fun hb H4 e4 => ?_) (fun hb H4 e4 => ?_)
    · have h4 : c ∈ [65, 66, 67, 68] := by simpa using hb
      refine s_ret (v := .bl (d && decide (((c - 65 : Nat) : Int) < k))) (by exact ev_andV (ev_var rfl) fun _ => ev_op (ev_index ev_c (ea_cons (ev_var rfl) ea_nil) (idx_up c h4)) (ev_var rfl) rv_I0) fun H5 e5 => ?_
      have q2 := q H5 ((e03.trans e4).trans e5)
      unfold bel at q2
      rw [if_neg h1, if_neg h2, if_neg h3, if_pos h4] at q2
      exact q2
    · have h4 : c ∉ [65, 66, 67, 68] := by simpa using hb
      refine s_ret (v := .bl (decide (((c - 97 : Nat) : Int) < k))) (by exact ev_op (ev_index ev_c (ea_cons (ev_var rfl) ea_nil) (idx_low c (sg_rest c hc h1 h2 h3 h4))) (ev_var rfl) rv_I0) fun H5 e5 => ?_
      have q2 := q H5 ((e03.trans e4).trans e5)
      unfold bel at q2
      rw [if_neg h1, if_neg h2, if_neg h3, if_neg h4] at q2
      exact q2
end
end K01
namespace K01
open PySem PySem.Spec PyProof.Rows L2 Lc Evl
section
variable {P : Program} {w : World} {K : PySem.W.Frag} {mg : Str → Option Value} {base : Heap}
theorem sp_take_then {σ : L2.St} {H : Hp} {b : Addr} {i : Nat} {te : TE} {many : Int} {E : XK} {Q : VK} (hv : σ[i]? = some (some (.ref b))) (hb : Bx H b) (he : Ev te σ H (.int many)) (h0 : 0 < many) (h1 : many.natAbs < 2 ^ 128)
    (k : ∀ d H', 0 ≤ d → d < many → ExB b H H' → Bx H' b → Q (.int d) H') : tCall sp_law_take [] E (tCons (tVar i) (tCons te tNil)) σ H Q :=
  ⟨_, hv, he H (Ex.refl H) _ fun H1 e1 => ⟨b, many, rfl, hb.ex e1, h0, h1, fun d H' d0 d1 x y => k d H' d0 d1 ((ExB.of e1).trans x) y⟩⟩
def stv (k : Int) (w d : Bool) : List Nat := SG.filter fun c => bel c k w d
def sp_law_string : Sp := fun vs H Q _ => ∃ (k : Int) (w d : Bool), vs = [.int k, .bl w, .bl d] ∧ RetV (.str (S (stv k w d))) H Q
theorem sg_at {i c : Nat} (h : SG[i]? = some c) : SG.getD i 0 = c := by
  rw [List.getD_eq_getElem?_getD, h]
  rfl
theorem ok_law_string (T : Tx K mg) : OkD P w K mg base 2 d_law_string ps_law_string sp_law_string := by
  refine (h_law_string T).ok sc_law_string (fun vs H Q E h => ?_) (fun cdv A outer s H vs Q E hr h => ⟨_,
      (pss_one (ps_ret (pe_join pe_str (pe_lc (own := [("sign", 3)]) (g := gName 3) rfl sc_law_string.nd (pi_str pe_str) (blkOk_by (own := [("sign", 3)]) (N := ns_law_string) (sc := defScope st_law_string) (by decide +kernel)) (fun _ _ _ _ _ => pg_name (i := 3) sc_law_string.nd rfl (Or.inl rfl)) (fun _ _ _ _ _ => (pts_one (pt_val (pe_call (ok_law_belongs (P := P) (w := w) (base := base) T) (hr.mono (by decide)) (by rfl) (m_law_belongs T) (k_law_belongs T) (b_law_belongs T) .nil passN (pa_cons (pv 3) (pa_cons (pv 0) (pa_cons (pv 1) (pa_cons (pv 2) pa_nil)))))))) (fun _ _ _ _ _ => (pv 3)))))), ?_⟩)
  · obtain ⟨k, w, d, rfl, _⟩ := h
    rfl
  · obtain ⟨k, w, d, rfl, q⟩ := h
    simp only [kc_2, kc_4, kc_5, kc_6, kc_7, kc_8, kc_9, kc_10, kc_11, kc_12]
    refine s_ret (v := .str (Txt.join (S []) ((stv k w d).map fun c => S [c]))) (ev_join (by exact ev_c) ?_ (join_sz _ ?_)) fun H1 e1 => ?_
    · have h := el_lcS (σ := L2.start ns_law_string [V.int k, V.bl w, V.bl d]) (H := H) (l := SG) (tl := tC (.str (S SG))) (j := 3) (vs := [3]) (t := tTest (tCall sp_law_belongs [] E0 (tCons (tVar 3) (tCons (tVar 0) (tCons (tVar 1) (tCons (tVar 2) tNil)))))) (te := tVar 3)
        (fun i => bel (SG.getD i 0) k w d) (fun i => V.str (S [SG.getD i 0])) ev_c (by decide) (fun x => rfl)
        (fun i c H2 _ hi => et_test (ev_call (by repeat' (first | ((with_reducible refine ev_pow10 ?_ ?_ ?_) <;> first | rfl | decide) | (with_reducible refine fun (_ : _ = true) => ?_) | (with_reducible refine fun (_ : _ = false) => ?_) | (with_reducible exact ev_c) | ((with_reducible apply ev_var); rfl) | (with_reducible apply ev_op) | (with_reducible apply ev_un) | (with_reducible apply ev_cb) | (with_reducible apply ea_cons) | (with_reducible apply ev_andV) | (with_reducible apply ev_orV) | (with_reducible apply ev_notV) | (with_reducible apply ev_if) | (with_reducible apply eo_some) | (with_reducible apply el_lst) | (with_reducible exact ea_nil) | (with_reducible exact rv_I0) | (with_reducible exact ru_neg) | (with_reducible exact rv_ltS) | (with_reducible exact rv_inC) | (with_reducible exact rv_notInC) | (with_reducible exact rc_intI) | (with_reducible exact rc_intB) | (with_reducible exact rc_min2) | (with_reducible exact rc_isStr) | (with_reducible exact eo_none) | (with_reducible exact rv_inSS) | (with_reducible exact rv_notInSS) | (with_reducible exact rv_ltSS) | (with_reducible exact rv_eqSS) | (with_reducible exact rv_eqII) | (with_reducible exact rv_neII) | (with_reducible exact rv_neSS) | ((with_reducible refine rc_lenSS ?_); (first | assumption | omega | decide | (simp only [S_len] at *; omega))) | ((with_reducible refine rc_lenStr ?_); (first | assumption | omega | decide | (simp only [S_len] at *; omega))) | ((with_reducible refine rv_catSS ?_); (first | assumption | omega | decide | (simp only [S_len] at *; omega))) | (with_reducible exact rv_eq rfl) | (with_reducible exact rv_ne rfl) | ((with_reducible refine rc_lenS ?_); (first | assumption | omega | decide | (simp only [S_len] at *; omega))) | ((with_reducible refine rc_lenL ?_); assumption) | ((with_reducible apply rv_ixL); assumption; rfl) | ((with_reducible refine rv_catS ?_); (first | assumption | omega | decide | (simp only [S_len] at *; omega))) | ((with_reducible refine rv_I ?_); (first | (show (0 : Int) < _; (first | assumption | omega | decide | (simp only [S_len] at *; omega))) | exact .inr ⟨by decide, by decide⟩ | exact .inl ⟨by (first | assumption | omega | decide | (simp only [S_len] at *; omega)), by (first | assumption | omega | decide | (simp only [S_len] at *; omega))⟩ | exact .inr ⟨by (first | assumption | omega | decide | (simp only [S_len] at *; omega)), by (first | assumption | omega | decide | (simp only [S_len] at *; omega))⟩ | exact ⟨by decide, by decide, by decide⟩ | exact wide_div (b := 128) (by (first | assumption | omega | decide | (simp only [S_len] at *; omega))) (by (first | assumption | omega | decide | (simp only [S_len] at *; omega))) (by decide) (by decide))))) fun H3 e3 Q3 q3 E3 => ⟨c, k, w, d, rfl, List.mem_of_getElem? hi, by rw [sg_at hi] at q3; exact q3⟩))
        (fun i c H2 _ hi _ => by rw [sg_at hi]; exact ev_var rfl)
      rw [given_filter SG 0 (fun c => bel c k w d) (fun c => V.str (S [c]))] at h
      rw [List.map_map]
      exact h
    · exact Nat.le_trans (List.length_filter_le _ _) (by decide)
    · rw [join_S]
      exact q H1 e1
theorem stv_dot (k : Int) (w d : Bool) : 46 ∈ stv k w d := List.mem_filter.mpr ⟨by decide, rfl⟩
theorem stv_good (k : Int) (w d : Bool) : Good (stv k w d) := fun c h => (List.mem_filter.mp h).1
theorem stv_len (k : Int) (w d : Bool) : (stv k w d).length ≤ 11 := Nat.le_trans (List.length_filter_le _ _) (by decide)
def sp_law_alphabet : Sp := fun vs H Q _ => ∃ b, vs = [.ref b] ∧ Bx H b ∧ ∀ l H', Good l → 0 < l.length → l.length ≤ 11 → ExB b H H' → Bx H' b → Q (.str (S l)) H'
theorem ok_law_alphabet (T : Tx K mg) : OkD P w K mg base 3 d_law_alphabet ps_law_alphabet sp_law_alphabet := by
  refine (h_law_alphabet T).ok sc_law_alphabet (fun vs H Q E h => ?_) (fun cdv A outer s H vs Q E hr h => ⟨_,
      (pss_cons (ps_set (i := 1) sc_law_alphabet.nd rfl (Or.inl rfl) (pe_call (ok_law_take (P := P) (w := w) (base := base) T) (hr.mono (by decide)) (by rfl) (m_law_take T) (k_law_take T) (b_law_take T) .nil passN (pa_cons (pv 0) (pa_cons pe_int pa_nil))))
      (pss_cons (ps_if (pt_cmpR op_eq (pv 1) pe_int (nomark _)) (pss_one (ps_ret (pe_call (ok_law_string (P := P) (w := w) (base := base) T) (hr.mono (by decide)) (by rfl) (m_law_string T) (k_law_string T) (b_law_string T) .nil passN (pa_cons (pe_op op_add pe_int (pe_call (ok_law_take (P := P) (w := w) (base := base) T) (hr.mono (by decide)) (by rfl) (m_law_take T) (k_law_take T) (b_law_take T) .nil passN (pa_cons (pv 0) (pa_cons pe_int pa_nil)))) (pa_cons (pe_cmpR op_eq (pe_call (ok_law_take (P := P) (w := w) (base := base) T) (hr.mono (by decide)) (by rfl) (m_law_take T) (k_law_take T) (b_law_take T) .nil passN (pa_cons (pv 0) (pa_cons pe_int pa_nil))) pe_int (nomark _)) (pa_cons (pe_cmpR op_eq (pe_call (ok_law_take (P := P) (w := w) (base := base) T) (hr.mono (by decide)) (by rfl) (m_law_take T) (k_law_take T) (b_law_take T) .nil passN (pa_cons (pv 0) (pa_cons pe_int pa_nil))) pe_int (nomark _)) pa_nil)))))) pss_nil)
      (pss_cons (ps_if (pt_cmpR op_eq (pv 1) pe_int (nomark _)) (pss_one (ps_ret (pe_op op_add_str (pe_ix ix_str pe_str (pe_call (ok_law_take (P := P) (w := w) (base := base) T) (hr.mono (by decide)) (by rfl) (m_law_take T) (k_law_take T) (b_law_take T) .nil passN (pa_cons (pv 0) (pa_cons pe_int pa_nil))) (fun _ _ => rfl)) (pe_ix ix_str pe_str (pe_call (ok_law_take (P := P) (w := w) (base := base) T) (hr.mono (by decide)) (by rfl) (m_law_take T) (k_law_take T) (b_law_take T) .nil passN (pa_cons (pv 0) (pa_cons pe_int pa_nil))) (fun _ _ => rfl))))) pss_nil)
      (pss_one (ps_ret pe_str))))), ?_⟩)
  · obtain ⟨b, rfl, _⟩ := h
    rfl
  · obtain ⟨b, rfl, hb, q⟩ := h
    simp only [kc_2, kc_4, kc_5, kc_6, kc_7, kc_8, kc_9, kc_10, kc_11, kc_12]
    refine sp_take_then (b := b) (many := 4) rfl hb ev_c (by decide) (by decide) fun m H1 m0 m1 e1 b1 => ?_
    dsimp only
    refine q_when (b := decide (m = 0)) (by first | ((with_reducible apply et_test); (repeat' (first | ((with_reducible refine ev_pow10 ?_ ?_ ?_) <;> first | rfl | decide) | (with_reducible refine fun (_ : _ = true) => ?_) | (with_reducible refine fun (_ : _ = false) => ?_) | (with_reducible exact ev_c) | ((with_reducible apply ev_var); rfl) | (with_reducible apply ev_op) | (with_reducible apply ev_un) | (with_reducible apply ev_cb) | (with_reducible apply ea_cons) | (with_reducible apply ev_andV) | (with_reducible apply ev_orV) | (with_reducible apply ev_notV) | (with_reducible apply ev_if) | (with_reducible apply eo_some) | (with_reducible apply el_lst) | (with_reducible exact ea_nil) | (with_reducible exact rv_I0) | (with_reducible exact ru_neg) | (with_reducible exact rv_ltS) | (with_reducible exact rv_inC) | (with_reducible exact rv_notInC) | (with_reducible exact rc_intI) | (with_reducible exact rc_intB) | (with_reducible exact rc_min2) | (with_reducible exact rc_isStr) | (with_reducible exact eo_none) | (with_reducible exact rv_inSS) | (with_reducible exact rv_notInSS) | (with_reducible exact rv_ltSS) | (with_reducible exact rv_eqSS) | (with_reducible exact rv_eqII) | (with_reducible exact rv_neII) | (with_reducible exact rv_neSS) | ((with_reducible refine rc_lenSS ?_); (first | assumption | omega | decide | (simp only [S_len] at *; omega))) | ((with_reducible refine rc_lenStr ?_); (first | assumption | omega | decide | (simp only [S_len] at *; omega))) | ((with_reducible refine rv_catSS ?_); (first | assumption | omega | decide | (simp only [S_len] at *; omega))) | (with_reducible exact rv_eq rfl) | (with_reducible exact rv_ne rfl) | ((with_reducible refine rc_lenS ?_); (first | assumption | omega | decide | (simp only [S_len] at *; omega))) | ((with_reducible refine rc_lenL ?_); assumption) | ((with_reducible apply rv_ixL); assumption; rfl) | ((with_reducible refine rv_catS ?_); (first | assumption | omega | decide | (simp only [S_len] at *; omega))) | ((with_reducible refine rv_I ?_); (first | (show (0 : Int) < _; (first | assumption | omega | decide | (simp only [S_len] at *; omega))) | exact .inr ⟨by decide, by decide⟩ | exact .inl ⟨by (first | assumption | omega | decide | (simp only [S_len] at *; omega)), by (first | assumption | omega | decide | (simp only [S_len] at *; omega))⟩ | exact .inr ⟨by (first | assumption | omega | decide | (simp only [S_len] at *; omega)), by (first | assumption | omega | decide | (simp only [S_len] at *; omega))⟩ | exact ⟨by decide, by decide, by decide⟩ | exact wide_div (b := 128) (by (first | assumption | omega | decide | (simp only [S_len] at *; omega))) (by (first | assumption | omega | decide | (simp only [S_len] at *; omega))) (by decide) (by decide)))))) | ((with_reducible apply et_B); (repeat' (first | ((with_reducible refine ev_pow10 ?_ ?_ ?_) <;> first | rfl | decide) | (with_reducible refine fun (_ : _ = true) => ?_) | (with_reducible refine fun (_ : _ = false) => ?_) | (with_reducible exact ev_c) | ((with_reducible apply ev_var); rfl) | (with_reducible apply ev_op) | (with_reducible apply ev_un) | (with_reducible apply ev_cb) | (with_reducible apply ea_cons) | (with_reducible apply ev_andV) | (with_reducible apply ev_orV) | (with_reducible apply ev_notV) | (with_reducible apply ev_if) | (with_reducible apply eo_some) | (with_reducible apply el_lst) | (with_reducible exact ea_nil) | (with_reducible exact rv_I0) | (with_reducible exact ru_neg) | (with_reducible exact rv_ltS) | (with_reducible exact rv_inC) | (with_reducible exact rv_notInC) | (with_reducible exact rc_intI) | (with_reducible exact rc_intB) | (with_reducible exact rc_min2) | (with_reducible exact rc_isStr) | (with_reducible exact eo_none) | (with_reducible exact rv_inSS) | (with_reducible exact rv_notInSS) | (with_reducible exact rv_ltSS) | (with_reducible exact rv_eqSS) | (with_reducible exact rv_eqII) | (with_reducible exact rv_neII) | (with_reducible exact rv_neSS) | ((with_reducible refine rc_lenSS ?_); (first | assumption | omega | decide | (simp only [S_len] at *; omega))) | ((with_reducible refine rc_lenStr ?_); (first | assumption | omega | decide | (simp only [S_len] at *; omega))) | ((with_reducible refine rv_catSS ?_); (first | assumption | omega | decide | (simp only [S_len] at *; omega))) | (with_reducible exact rv_eq rfl) | (with_reducible exact rv_ne rfl) | ((with_reducible refine rc_lenS ?_); (first | assumption | omega | decide | (simp only [S_len] at *; omega))) | ((with_reducible refine rc_lenL ?_); assumption) | ((with_reducible apply rv_ixL); assumption; rfl) | ((with_reducible refine rv_catS ?_); (first | assumption | omega | decide | (simp only [S_len] at *; omega))) | ((with_reducible refine rv_I ?_); (first | (show (0 : Int) < _; (first | assumption | omega | decide | (simp only [S_len] at *; omega))) | exact .inr ⟨by decide, by decide⟩ | exact .inl ⟨by (first | assumption | omega | decide | (simp only [S_len] at *; omega)), by (first | assumption | omega | decide | (simp only [S_len] at *; omega))⟩ | exact .inr ⟨by (first | assumption | omega | decide | (simp only [S_len] at *; omega)), by (first | assumption | omega | decide | (simp only [S_len] at *; omega))⟩ | exact ⟨by decide, by decide, by decide⟩ | exact wide_div (b := 128) (by (first | assumption | omega | decide | (simp only [S_len] at *; omega))) (by (first | assumption | omega | decide | (simp only [S_len] at *; omega))) (by decide) (by decide))))))) (fun hc H2 e2 => ?_) (fun hc H2 e2 => ?_)
    · refine sp_take_then (b := b) (many := 4) rfl (b1.ex e2) (by exact ev_c) (by decide) (by decide) fun d1 H3 _ _ e3 b3 => ?_
      dsimp only
      refine ⟨_, _, rfl, rfl, ?_⟩
      refine sp_take_then (b := b) (many := 2) rfl b3 (by exact ev_c) (by decide) (by decide) fun d2 H4 _ _ e4 b4 => ?_
      refine ⟨rfl, ?_⟩
      refine sp_take_then (b := b) (many := 2) rfl b4 (by exact ev_c) (by decide) (by decide) fun d3 H5 _ _ e5 b5 => ?_
      refine ⟨rfl, ?_⟩
      refine ⟨1 + d1, _, _, rfl, fun H6 e6 => ?_⟩
      exact q _ H6 (stv_good _ _ _) (List.length_pos_iff.mpr (List.ne_nil_of_mem (stv_dot _ _ _))) (stv_len _ _ _) (((((e1.trans (ExB.of e2)).trans e3).trans e4).trans e5).trans (ExB.of e6)) (b5.ex e6)
    refine q_when (b := decide (m = 1)) (by first | ((with_reducible apply et_test); (repeat' (first | ((with_reducible refine ev_pow10 ?_ ?_ ?_) <;> first | rfl | decide) | (with_reducible refine fun (_ : _ = true) => ?_) | (with_reducible refine fun (_ : _ = false) => ?_) | (with_reducible exact ev_c) | ((with_reducible apply ev_var); rfl) | (with_reducible apply ev_op) | (with_reducible apply ev_un) | (with_reducible apply ev_cb) | (with_reducible apply ea_cons) | (with_reducible apply ev_andV) | (with_reducible apply ev_orV) | (with_reducible apply ev_notV) | (with_reducible apply ev_if) | (with_reducible apply eo_some) | (with_reducible apply el_lst) | (with_reducible exact ea_nil) | (with_reducible exact rv_I0) | (with_reducible exact ru_neg) | (with_reducible exact rv_ltS) | (with_reducible exact rv_inC) | (with_reducible exact rv_notInC) | (with_reducible exact rc_intI) | (with_reducible exact rc_intB) | (with_reducible exact rc_min2) | (with_reducible exact rc_isStr) | (with_reducible exact eo_none) | (with_reducible exact rv_inSS) | (with_reducible exact rv_notInSS) | (with_reducible exact rv_ltSS) | (with_reducible exact rv_eqSS) | (with_reducible exact rv_eqII) | (with_reducible exact rv_neII) | (with_reducible exact rv_neSS) | ((with_reducible refine rc_lenSS ?_); (first | assumption | omega | decide | (simp only [S_len] at *; omega))) | ((with_reducible refine rc_lenStr ?_); (first | assumption | omega | decide | (simp only [S_len] at *; omega))) | ((with_reducible refine rv_catSS ?_); (first | assumption | omega | decide | (simp only [S_len] at *; omega))) | (with_reducible exact rv_eq rfl) | (with_reducible exact rv_ne rfl) | ((with_reducible refine rc_lenS ?_); (first | assumption | omega | decide | (simp only [S_len] at *; omega))) | ((with_reducible refine rc_lenL ?_); assumption) | ((with_reducible apply rv_ixL); assumption; rfl) | ((with_reducible refine rv_catS ?_); (first | assumption | omega | decide | (simp only [S_len] at *; omega))) | ((with_reducible refine rv_I ?_); (first | (show (0 : Int) < _; (first | assumption | omega | decide | (simp only [S_len] at *; omega))) | exact .inr ⟨by decide, by decide⟩ | exact .inl ⟨by (first | assumption | omega | decide | (simp only [S_len] at *; omega)), by (first | assumption | omega | decide | (simp only [S_len] at *; omega))⟩ | exact .inr ⟨by (first | assumption | omega | decide | (simp only [S_len] at *; omega)), by (first | assumption | omega | decide | (simp only [S_len] at *; omega))⟩ | exact ⟨by decide, by decide, by decide⟩ | exact wide_div (b := 128) (by (first | assumption | omega | decide | (simp only [S_len] at *; omega))) (by (first | assumption | omega | decide | (simp only [S_len] at *; omega))) (by decide) (by decide)))))) | ((with_reducible apply et_B); (repeat' (first | ((with_reducible refine ev_pow10 ?_ ?_ ?_) <;> first | rfl | decide) | (with_reducible refine fun (_ : _ = true) => ?_) | (with_reducible refine fun (_ : _ = false) => ?_) | (with_reducible exact ev_c) | ((with_reducible apply ev_var); rfl) | (with_reducible apply ev_op) | (with_reducible apply ev_un) | (with_reducible apply ev_cb) | (with_reducible apply ea_cons) | (with_reducible apply ev_andV) | (with_reducible apply ev_orV) | (with_reducible apply ev_notV) | (with_reducible apply ev_if) | (with_reducible apply eo_some) | (with_reducible apply el_lst) | (with_reducible exact ea_nil) | (with_reducible exact rv_I0) | (with_reducible exact ru_neg) | (with_reducible exact rv_ltS) | (with_reducible exact rv_inC) | (with_reducible exact rv_notInC) | (with_reducible exact rc_intI) | (with_reducible exact rc_intB) | (with_reducible exact rc_min2) | (with_reducible exact rc_isStr) | (with_reducible exact eo_none) | (with_reducible exact rv_inSS) | (with_reducible exact rv_notInSS) | (with_reducible exact rv_ltSS) | (with_reducible exact rv_eqSS) | (with_reducible exact rv_eqII) | (with_reducible exact rv_neII) | (with_reducible exact rv_neSS) | ((with_reducible refine rc_lenSS ?_); (first | assumption | omega | decide | (simp only [S_len] at *; omega))) | ((with_reducible refine rc_lenStr ?_); (first | assumption | omega | decide | (simp only [S_len] at *; omega))) | ((with_reducible refine rv_catSS ?_); (first | assumption | omega | decide | (simp only [S_len] at *; omega))) | (with_reducible exact rv_eq rfl) | (with_reducible exact rv_ne rfl) | ((with_reducible refine rc_lenS ?_); (first | assumption | omega | decide | (simp only [S_len] at *; omega))) | ((with_reducible refine rc_lenL ?_); assumption) | ((with_reducible apply rv_ixL); assumption; rfl) | ((with_reducible refine rv_catS ?_); (first | assumption | omega | decide | (simp only [S_len] at *; omega))) | ((with_reducible refine rv_I ?_); (first | (show (0 : Int) < _; (first | assumption | omega | decide | (simp only [S_len] at *; omega))) | exact .inr ⟨by decide, by decide⟩ | exact .inl ⟨by (first | assumption | omega | decide | (simp only [S_len] at *; omega)), by (first | assumption | omega | decide | (simp only [S_len] at *; omega))⟩ | exact .inr ⟨by (first | assumption | omega | decide | (simp only [S_len] at *; omega)), by (first | assumption | omega | decide | (simp only [S_len] at *; omega))⟩ | exact ⟨by decide, by decide, by decide⟩ | exact wide_div (b := 128) (by (first | assumption | omega | decide | (simp only [S_len] at *; omega))) (by (first | assumption | omega | decide | (simp only [S_len] at *; omega))) (by decide) (by decide))))))) (fun hc H3 e3 => ?_) (fun hc H3 e3 => ?_)
    · refine sp_take_then (b := b) (many := 11) rfl (b1.ex (e2.trans e3)) (by exact ev_c) (by decide) (by decide) fun d1 H4 d10 d11 e4 b4 => ?_
      refine ⟨S SG, d1, SG.getD d1.toNat 0, rfl, rfl, sz_of (by decide), atI_i d10 (by show d1 < 11; omega) 0, ?_⟩
      refine sp_take_then (b := b) (many := 11) rfl b4 (by exact ev_c) (by decide) (by decide) fun d2 H5 d20 d21 e5 b5 => ?_
      refine ⟨S SG, d2, SG.getD d2.toNat 0, rfl, rfl, sz_of (by decide), atI_i d20 (by show d2 < 11; omega) 0, ?_⟩
      refine ⟨S [SG.getD d1.toNat 0], S [SG.getD d2.toNat 0], rfl, rfl, sz_of (by rw [S_len, S_len]; simp), ?_⟩
      rw [S_app]
      refine q _ H5 ?_ (by simp) (by simp) ((e1.trans (ExB.of (e2.trans e3))).trans (e4.trans e5)) b5
      intro c hc
      have hm : ∀ d : Int, 0 ≤ d → d < 11 → SG.getD d.toNat 0 ∈ SG := fun d h0 h1 => by
        have hlt : d.toNat < SG.length := by show d.toNat < 11; omega
        rw [List.getD_eq_getElem?_getD, List.getElem?_eq_getElem hlt]
        exact List.getElem_mem hlt
      have hc2 : c = SG.getD d1.toNat 0 ∨ c = SG.getD d2.toNat 0 := by simpa using hc
      rcases hc2 with rfl | rfl
      · exact hm d1 d10 d11
      · exact hm d2 d20 d21
    · exact s_ret (by exact ev_c) fun H4 e4 => q SG H4 (fun c h => h) (by decide) (by decide) (e1.trans (ExB.of ((e2.trans e3).trans e4))) (b1.ex ((e2.trans e3).trans e4))
def sp_law_size : Sp := fun vs H Q _ => ∃ b, vs = [.ref b] ∧ Bx H b ∧ ∀ n H', 0 ≤ n → n ≤ 60 → ExB b H H' → Bx H' b → Q (.int n) H'
theorem ok_law_size (T : Tx K mg) : OkD P w K mg base 2 d_law_size ps_law_size sp_law_size := by
  refine (h_law_size T).ok sc_law_size (fun vs H Q E h => ?_) (fun cdv A outer s H vs Q E hr h => ⟨_,
      (pss_cons (ps_set (i := 1) sc_law_size.nd rfl (Or.inl rfl) (pe_call (ok_law_take (P := P) (w := w) (base := base) T) (hr.mono (by decide)) (by rfl) (m_law_take T) (k_law_take T) (b_law_take T) .nil passN (pa_cons (pv 0) (pa_cons pe_int pa_nil))))
      (pss_cons (ps_if (pt_cmpR op_eq (pv 1) pe_int (nomark _)) (pss_one (ps_ret (pe_call (ok_law_take (P := P) (w := w) (base := base) T) (hr.mono (by decide)) (by rfl) (m_law_take T) (k_law_take T) (b_law_take T) .nil passN (pa_cons (pv 0) (pa_cons pe_int pa_nil))))) pss_nil)
      (pss_cons (ps_if (pt_cmpR op_eq (pv 1) pe_int (nomark _)) (pss_one (ps_ret (pe_call (ok_law_take (P := P) (w := w) (base := base) T) (hr.mono (by decide)) (by rfl) (m_law_take T) (k_law_take T) (b_law_take T) .nil passN (pa_cons (pv 0) (pa_cons pe_int pa_nil))))) pss_nil)
      (pss_one (ps_ret (pe_call (ok_law_take (P := P) (w := w) (base := base) T) (hr.mono (by decide)) (by rfl) (m_law_take T) (k_law_take T) (b_law_take T) .nil passN (pa_cons (pv 0) (pa_cons pe_int pa_nil)))))))), ?_⟩)
  · obtain ⟨b, rfl, _⟩ := h
    rfl
  · obtain ⟨b, rfl, hb, q⟩ := h
    refine sp_take_then (b := b) (many := 6) rfl hb (by exact ev_c) (by decide) (by decide) fun m H1 m0 m1 e1 b1 => ?_
    dsimp only
    refine q_when (b := decide (m = 0)) (by first | ((with_reducible apply et_test); (repeat' (first | ((with_reducible refine ev_pow10 ?_ ?_ ?_) <;> first | rfl | decide) | (with_reducible refine fun (_ : _ = true) => ?_) | (with_reducible refine fun (_ : _ = false) => ?_) | (with_reducible exact ev_c) | ((with_reducible apply ev_var); rfl) | (with_reducible apply ev_op) | (with_reducible apply ev_un) | (with_reducible apply ev_cb) | (with_reducible apply ea_cons) | (with_reducible apply ev_andV) | (with_reducible apply ev_orV) | (with_reducible apply ev_notV) | (with_reducible apply ev_if) | (with_reducible apply eo_some) | (with_reducible apply el_lst) | (with_reducible exact ea_nil) | (with_reducible exact rv_I0) | (with_reducible exact ru_neg) | (with_reducible exact rv_ltS) | (with_reducible exact rv_inC) | (with_reducible exact rv_notInC) | (with_reducible exact rc_intI) | (with_reducible exact rc_intB) | (with_reducible exact rc_min2) | (with_reducible exact rc_isStr) | (with_reducible exact eo_none) | (with_reducible exact rv_inSS) | (with_reducible exact rv_notInSS) | (with_reducible exact rv_ltSS) | (with_reducible exact rv_eqSS) | (with_reducible exact rv_eqII) | (with_reducible exact rv_neII) | (with_reducible exact rv_neSS) | ((with_reducible refine rc_lenSS ?_); (first | assumption | omega | decide | (simp only [S_len] at *; omega))) | ((with_reducible refine rc_lenStr ?_); (first | assumption | omega | decide | (simp only [S_len] at *; omega))) | ((with_reducible refine rv_catSS ?_); (first | assumption | omega | decide | (simp only [S_len] at *; omega))) | (with_reducible exact rv_eq rfl) | (with_reducible exact rv_ne rfl) | ((with_reducible refine rc_lenS ?_); (first | assumption | omega | decide | (simp only [S_len] at *; omega))) | ((with_reducible refine rc_lenL ?_); assumption) | ((with_reducible apply rv_ixL); assumption; rfl) | ((with_reducible refine rv_catS ?_); (first | assumption | omega | decide | (simp only [S_len] at *; omega))) | ((with_reducible refine rv_I ?_); (first | (show (0 : Int) < _; (first | assumption | omega | decide | (simp only [S_len] at *; omega))) | exact .inr ⟨by decide, by decide⟩ | exact .inl ⟨by (first | assumption | omega | decide | (simp only [S_len] at *; omega)), by (first | assumption | omega | decide | (simp only [S_len] at *; omega))⟩ | exact .inr ⟨by (first | assumption | omega | decide | (simp only [S_len] at *; omega)), by (first | assumption | omega | decide | (simp only [S_len] at *; omega))⟩ | exact ⟨by decide, by decide, by decide⟩ | exact wide_div (b := 128) (by (first | assumption | omega | decide | (simp only [S_len] at *; omega))) (by (first | assumption | omega | decide | (simp only [S_len] at *; omega))) (by decide) (by decide)))))) | ((with_reducible apply et_B); (repeat' (first | ((with_reducible refine ev_pow10 ?_ ?_ ?_) <;> first | rfl | decide) | (with_reducible refine fun (_ : _ = true) => ?_) | (with_reducible refine fun (_ : _ = false) => ?_) | (with_reducible exact ev_c) | ((with_reducible apply ev_var); rfl) | (with_reducible apply ev_op) | (with_reducible apply ev_un) | (with_reducible apply ev_cb) | (with_reducible apply ea_cons) | (with_reducible apply ev_andV) | (with_reducible apply ev_orV) | (with_reducible apply ev_notV) | (with_reducible apply ev_if) | (with_reducible apply eo_some) | (with_reducible apply el_lst) | (with_reducible exact ea_nil) | (with_reducible exact rv_I0) | (with_reducible exact ru_neg) | (with_reducible exact rv_ltS) | (with_reducible exact rv_inC) | (with_reducible exact rv_notInC) | (with_reducible exact rc_intI) | (with_reducible exact rc_intB) | (with_reducible exact rc_min2) | (with_reducible exact rc_isStr) | (with_reducible exact eo_none) | (with_reducible exact rv_inSS) | (with_reducible exact rv_notInSS) | (with_reducible exact rv_ltSS) | (with_reducible exact rv_eqSS) | (with_reducible exact rv_eqII) | (with_reducible exact rv_neII) | (with_reducible exact rv_neSS) | ((with_reducible refine rc_lenSS ?_); (first | assumption | omega | decide | (simp only [S_len] at *; omega))) | ((with_reducible refine rc_lenStr ?_); (first | assumption | omega | decide | (simp only [S_len] at *; omega))) | ((with_reducible refine rv_catSS ?_); (first | assumption | omega | decide | (simp only [S_len] at *; omega))) | (with_reducible exact rv_eq rfl) | (with_reducible exact rv_ne rfl) | ((with_reducible refine rc_lenS ?_); (first | assumption | omega | decide | (simp only [S_len] at *; omega))) | ((with_reducible refine rc_lenL ?_); assumption) | ((with_reducible apply rv_ixL); assumption; rfl) | ((with_reducible refine rv_catS ?_); (first | assumption | omega | decide | (simp only [S_len] at *; omega))) | ((with_reducible refine rv_I ?_); (first | (show (0 : Int) < _; (first | assumption | omega | decide | (simp only [S_len] at *; omega))) | exact .inr ⟨by decide, by decide⟩ | exact .inl ⟨by (first | assumption | omega | decide | (simp only [S_len] at *; omega)), by (first | assumption | omega | decide | (simp only [S_len] at *; omega))⟩ | exact .inr ⟨by (first | assumption | omega | decide | (simp only [S_len] at *; omega)), by (first | assumption | omega | decide | (simp only [S_len] at *; omega))⟩ | exact ⟨by decide, by decide, by decide⟩ | exact wide_div (b := 128) (by (first | assumption | omega | decide | (simp only [S_len] at *; omega))) (by (first | assumption | omega | decide | (simp only [S_len] at *; omega))) (by decide) (by decide))))))) (fun hc H2 e2 => ?_) (fun hc H2 e2 => ?_)
    · exact sp_take_then (b := b) (many := 4) rfl (b1.ex e2) (by exact ev_c) (by decide) (by decide) fun d H3 d0 d1 e3 b3 => q d H3 d0 (by omega) ((e1.trans (ExB.of e2)).trans e3) b3
    refine q_when (b := decide (m = 5)) (by first | ((with_reducible apply et_test); (repeat' (first | ((with_reducible refine ev_pow10 ?_ ?_ ?_) <;> first | rfl | decide) | (with_reducible refine fun (_ : _ = true) => ?_) | (with_reducible refine fun (_ : _ = false) => ?_) | (with_reducible exact ev_c) | ((with_reducible apply ev_var); rfl) | (with_reducible apply ev_op) | (with_reducible apply ev_un) | (with_reducible apply ev_cb) | (with_reducible apply ea_cons) | (with_reducible apply ev_andV) | (with_reducible apply ev_orV) | (with_reducible apply ev_notV) | (with_reducible apply ev_if) | (with_reducible apply eo_some) | (with_reducible apply el_lst) | (with_reducible exact ea_nil) | (with_reducible exact rv_I0) | (with_reducible exact ru_neg) | (with_reducible exact rv_ltS) | (with_reducible exact rv_inC) | (with_reducible exact rv_notInC) | (with_reducible exact rc_intI) | (with_reducible exact rc_intB) | (with_reducible exact rc_min2) | (with_reducible exact rc_isStr) | (with_reducible exact eo_none) | (with_reducible exact rv_inSS) | (with_reducible exact rv_notInSS) | (with_reducible exact rv_ltSS) | (with_reducible exact rv_eqSS) | (with_reducible exact rv_eqII) | (with_reducible exact rv_neII) | (with_reducible exact rv_neSS) | ((with_reducible refine rc_lenSS ?_); (first | assumption | omega | decide | (simp only [S_len] at *; omega))) | ((with_reducible refine rc_lenStr ?_); (first | assumption | omega | decide | (simp only [S_len] at *; omega))) | ((with_reducible refine rv_catSS ?_); (first | assumption | omega | decide | (simp only [S_len] at *; omega))) | (with_reducible exact rv_eq rfl) | (with_reducible exact rv_ne rfl) | ((with_reducible refine rc_lenS ?_); (first | assumption | omega | decide | (simp only [S_len] at *; omega))) | ((with_reducible refine rc_lenL ?_); assumption) | ((with_reducible apply rv_ixL); assumption; rfl) | ((with_reducible refine rv_catS ?_); (first | assumption | omega | decide | (simp only [S_len] at *; omega))) | ((with_reducible refine rv_I ?_); (first | (show (0 : Int) < _; (first | assumption | omega | decide | (simp only [S_len] at *; omega))) | exact .inr ⟨by decide, by decide⟩ | exact .inl ⟨by (first | assumption | omega | decide | (simp only [S_len] at *; omega)), by (first | assumption | omega | decide | (simp only [S_len] at *; omega))⟩ | exact .inr ⟨by (first | assumption | omega | decide | (simp only [S_len] at *; omega)), by (first | assumption | omega | decide | (simp only [S_len] at *; omega))⟩ | exact ⟨by decide, by decide, by decide⟩ | exact wide_div (b := 128) (by (first | assumption | omega | decide | (simp only [S_len] at *; omega))) (by (first | assumption | omega | decide | (simp only [S_len] at *; omega))) (by decide) (by decide)))))) | ((with_reducible apply et_B); (repeat' (first | ((with_reducible refine ev_pow10 ?_ ?_ ?_) <;> first | rfl | decide) | (with_reducible refine fun (_ : _ = true) => ?_) | (with_reducible refine fun (_ : _ = false) => ?_) | (with_reducible exact ev_c) | ((with_reducible apply ev_var); rfl) | (with_reducible apply ev_op) | (with_reducible apply ev_un) | (with_reducible apply ev_cb) | (with_reducible apply ea_cons) | (with_reducible apply ev_andV) | (with_reducible apply ev_orV) | (with_reducible apply ev_notV) | (with_reducible apply ev_if) | (with_reducible apply eo_some) | (with_reducible apply el_lst) | (with_reducible exact ea_nil) | (with_reducible exact rv_I0) | (with_reducible exact ru_neg) | (with_reducible exact rv_ltS) | (with_reducible exact rv_inC) | (with_reducible exact rv_notInC) | (with_reducible exact rc_intI) | (with_reducible exact rc_intB) | (with_reducible exact rc_min2) | (with_reducible exact rc_isStr) | (with_reducible exact eo_none) | (with_reducible exact rv_inSS) | (with_reducible exact rv_notInSS) | (with_reducible exact rv_ltSS) | (with_reducible exact rv_eqSS) | (with_reducible exact rv_eqII) | (with_reducible exact rv_neII) | (with_reducible exact rv_neSS) | ((with_reducible refine rc_lenSS ?_); (first | assumption | omega | decide | (simp only [S_len] at *; omega))) | ((with_reducible refine rc_lenStr ?_); (first | assumption | omega | decide | (simp only [S_len] at *; omega))) | ((with_reducible refine rv_catSS ?_); (first | assumption | omega | decide | (simp only [S_len] at *; omega))) | (with_reducible exact rv_eq rfl) | (with_reducible exact rv_ne rfl) | ((with_reducible refine rc_lenS ?_); (first | assumption | omega | decide | (simp only [S_len] at *; omega))) | ((with_reducible refine rc_lenL ?_); assumption) | ((with_reducible apply rv_ixL); assumption; rfl) | ((with_reducible refine rv_catS ?_); (first | assumption | omega | decide | (simp only [S_len] at *; omega))) | ((with_reducible refine rv_I ?_); (first | (show (0 : Int) < _; (first | assumption | omega | decide | (simp only [S_len] at *; omega))) | exact .inr ⟨by decide, by decide⟩ | exact .inl ⟨by (first | assumption | omega | decide | (simp only [S_len] at *; omega)), by (first | assumption | omega | decide | (simp only [S_len] at *; omega))⟩ | exact .inr ⟨by (first | assumption | omega | decide | (simp only [S_len] at *; omega)), by (first | assumption | omega | decide | (simp only [S_len] at *; omega))⟩ | exact ⟨by decide, by decide, by decide⟩ | exact wide_div (b := 128) (by (first | assumption | omega | decide | (simp only [S_len] at *; omega))) (by (first | assumption | omega | decide | (simp only [S_len] at *; omega))) (by decide) (by decide))))))) (fun hc H3 e3 => ?_) (fun hc H3 e3 => ?_)
    · exact sp_take_then (b := b) (many := 61) rfl (b1.ex (e2.trans e3)) (by exact ev_c) (by decide) (by decide) fun d H4 d0 d1 e4 b4 => q d H4 d0 (by omega) ((e1.trans (ExB.of (e2.trans e3))).trans e4) b4
    · exact sp_take_then (b := b) (many := 13) rfl (b1.ex (e2.trans e3)) (by exact ev_c) (by decide) (by decide) fun d H4 d0 d1 e4 b4 => q d H4 d0 (by omega) ((e1.trans (ExB.of (e2.trans e3))).trans e4) b4
/-! ### the law's own rows -/
def mv (l : List Nat) (by_ : Int) : List Nat := (List.range l.length).map fun (i : Nat) => l.getD (((i : Int) + by_) % (l.length : Int)).toNat 0
def sp_law_moved : Sp := fun vs H Q _ => ∃ (l : List Nat) (by_ : Int), vs = [.str (S l), .int by_] ∧ l.length ≤ 1000 ∧ RetV (.str (S (mv l by_))) H Q
theorem ok_law_moved (T : Tx K mg) : OkD P w K mg base 1 d_law_moved ps_law_moved sp_law_moved := by
  refine (h_law_moved T).ok sc_law_moved (fun vs H Q E h => ?_) (fun cdv A outer s H vs Q E hr h => ⟨_,
      (pss_cons (ps_set (i := 2) sc_law_moved.nd rfl (Or.inr rfl) (pe_callB call_len_str (by rfl) (m_len T) (by decide +kernel) (pa_cons (pv 0) pa_nil)))
      (pss_one (ps_ret (pe_join pe_str (pe_lc (own := [("at", 3)]) (g := gName 3) rfl sc_law_moved.nd (pi_range1 rfl (m_range T) (pa_cons (pv 2) pa_nil)) (blkOk_by (own := [("at", 3)]) (N := ns_law_moved) (sc := defScope st_law_moved) (by decide +kernel)) (fun _ _ _ _ _ => pg_name (i := 3) sc_law_moved.nd rfl (Or.inl rfl)) (fun _ _ _ _ _ => pts_nil) (fun _ _ _ _ _ => (pe_ix ix_str (pv 0) (pe_op op_mod (pe_callTy call_int1 (by rfl) (m_int T) (by decide +kernel) (pa_cons (pe_op op_add (pv 3) (pv 1)) pa_nil)) (pv 2)) (fun _ _ => rfl)))))))), ?_⟩)
  · obtain ⟨l, by_, rfl, _⟩ := h
    rfl
  · obtain ⟨l, by_, rfl, hl, q⟩ := h
    simp only [kc_2, kc_4, kc_5, kc_6, kc_7, kc_8, kc_9, kc_10, kc_11, kc_12]
    refine q_asg (v := .int l.length) (by repeat' (first | ((with_reducible refine ev_pow10 ?_ ?_ ?_) <;> first | rfl | decide) | (with_reducible refine fun (_ : _ = true) => ?_) | (with_reducible refine fun (_ : _ = false) => ?_) | (with_reducible exact ev_c) | ((with_reducible apply ev_var); rfl) | (with_reducible apply ev_op) | (with_reducible apply ev_un) | (with_reducible apply ev_cb) | (with_reducible apply ea_cons) | (with_reducible apply ev_andV) | (with_reducible apply ev_orV) | (with_reducible apply ev_notV) | (with_reducible apply ev_if) | (with_reducible apply eo_some) | (with_reducible apply el_lst) | (with_reducible exact ea_nil) | (with_reducible exact rv_I0) | (with_reducible exact ru_neg) | (with_reducible exact rv_ltS) | (with_reducible exact rv_inC) | (with_reducible exact rv_notInC) | (with_reducible exact rc_intI) | (with_reducible exact rc_intB) | (with_reducible exact rc_min2) | (with_reducible exact rc_isStr) | (with_reducible exact eo_none) | (with_reducible exact rv_inSS) | (with_reducible exact rv_notInSS) | (with_reducible exact rv_ltSS) | (with_reducible exact rv_eqSS) | (with_reducible exact rv_eqII) | (with_reducible exact rv_neII) | (with_reducible exact rv_neSS) | ((with_reducible refine rc_lenSS ?_); (first | assumption | omega | decide | (simp only [S_len] at *; omega))) | ((with_reducible refine rc_lenStr ?_); (first | assumption | omega | decide | (simp only [S_len] at *; omega))) | ((with_reducible refine rv_catSS ?_); (first | assumption | omega | decide | (simp only [S_len] at *; omega))) | (with_reducible exact rv_eq rfl) | (with_reducible exact rv_ne rfl) | ((with_reducible refine rc_lenS ?_); (first | assumption | omega | decide | (simp only [S_len] at *; omega))) | ((with_reducible refine rc_lenL ?_); assumption) | ((with_reducible apply rv_ixL); assumption; rfl) | ((with_reducible refine rv_catS ?_); (first | assumption | omega | decide | (simp only [S_len] at *; omega))) | ((with_reducible refine rv_I ?_); (first | (show (0 : Int) < _; (first | assumption | omega | decide | (simp only [S_len] at *; omega))) | exact .inr ⟨by decide, by decide⟩ | exact .inl ⟨by (first | assumption | omega | decide | (simp only [S_len] at *; omega)), by (first | assumption | omega | decide | (simp only [S_len] at *; omega))⟩ | exact .inr ⟨by (first | assumption | omega | decide | (simp only [S_len] at *; omega)), by (first | assumption | omega | decide | (simp only [S_len] at *; omega))⟩ | exact ⟨by decide, by decide, by decide⟩ | exact wide_div (b := 128) (by (first | assumption | omega | decide | (simp only [S_len] at *; omega))) (by (first | assumption | omega | decide | (simp only [S_len] at *; omega))) (by decide) (by decide))))) fun H1 e1 => ?_
    refine s_ret (v := .str (Txt.join (S []) ((mv l by_).map fun c => S [c]))) (ev_join (by exact ev_c) ?_ (join_sz _ ?_)) fun H2 e2 => ?_
    · have h := el_lcR1 (σ := List.set (L2.start ns_law_moved [V.str (S l), V.int by_]) 2 (some (V.int l.length))) (H := H1) (j := 3) (vs := [3]) (t := tYes) (te := tOp rIxS (tVar 0) (tOp (rI (fun x j => 0 < j) fun i j => V.int (i % j)) (tCB (fun xs H Q => (∃ i, xs = [V.int i] ∧ Q (V.int i) H) ∨ ∃ k, xs = [V.bl k] ∧ Q (V.int (if k = true then 1 else 0)) H) (tCons (tOp (rI0 fun i j => V.int (i + j)) (tVar 3) (tVar 1)) tNil)) (tVar 2)))
        (ta := tCons (tVar 2) tNil) (fun _ => true) (fun i => V.str (S [l.getD (((i : Int) + by_) % (l.length : Int)).toNat 0])) (n := (l.length : Int)) (by repeat' (first | ((with_reducible refine ev_pow10 ?_ ?_ ?_) <;> first | rfl | decide) | (with_reducible refine fun (_ : _ = true) => ?_) | (with_reducible refine fun (_ : _ = false) => ?_) | (with_reducible exact ev_c) | ((with_reducible apply ev_var); rfl) | (with_reducible apply ev_op) | (with_reducible apply ev_un) | (with_reducible apply ev_cb) | (with_reducible apply ea_cons) | (with_reducible apply ev_andV) | (with_reducible apply ev_orV) | (with_reducible apply ev_notV) | (with_reducible apply ev_if) | (with_reducible apply eo_some) | (with_reducible apply el_lst) | (with_reducible exact ea_nil) | (with_reducible exact rv_I0) | (with_reducible exact ru_neg) | (with_reducible exact rv_ltS) | (with_reducible exact rv_inC) | (with_reducible exact rv_notInC) | (with_reducible exact rc_intI) | (with_reducible exact rc_intB) | (with_reducible exact rc_min2) | (with_reducible exact rc_isStr) | (with_reducible exact eo_none) | (with_reducible exact rv_inSS) | (with_reducible exact rv_notInSS) | (with_reducible exact rv_ltSS) | (with_reducible exact rv_eqSS) | (with_reducible exact rv_eqII) | (with_reducible exact rv_neII) | (with_reducible exact rv_neSS) | ((with_reducible refine rc_lenSS ?_); (first | assumption | omega | decide | (simp only [S_len] at *; omega))) | ((with_reducible refine rc_lenStr ?_); (first | assumption | omega | decide | (simp only [S_len] at *; omega))) | ((with_reducible refine rv_catSS ?_); (first | assumption | omega | decide | (simp only [S_len] at *; omega))) | (with_reducible exact rv_eq rfl) | (with_reducible exact rv_ne rfl) | ((with_reducible refine rc_lenS ?_); (first | assumption | omega | decide | (simp only [S_len] at *; omega))) | ((with_reducible refine rc_lenL ?_); assumption) | ((with_reducible apply rv_ixL); assumption; rfl) | ((with_reducible refine rv_catS ?_); (first | assumption | omega | decide | (simp only [S_len] at *; omega))) | ((with_reducible refine rv_I ?_); (first | (show (0 : Int) < _; (first | assumption | omega | decide | (simp only [S_len] at *; omega))) | exact .inr ⟨by decide, by decide⟩ | exact .inl ⟨by (first | assumption | omega | decide | (simp only [S_len] at *; omega)), by (first | assumption | omega | decide | (simp only [S_len] at *; omega))⟩ | exact .inr ⟨by (first | assumption | omega | decide | (simp only [S_len] at *; omega)), by (first | assumption | omega | decide | (simp only [S_len] at *; omega))⟩ | exact ⟨by decide, by decide, by decide⟩ | exact wide_div (b := 128) (by (first | assumption | omega | decide | (simp only [S_len] at *; omega))) (by (first | assumption | omega | decide | (simp only [S_len] at *; omega))) (by decide) (by decide))))) (by omega) (fun x => rfl) (fun i H2 _ _ => et_yes)
        (fun i H2 _ hi _ => by
          have hp : (0 : Int) < l.length := by omega
          refine ev_op (ev_var rfl) (y := .int (((i : Int) + by_) % (l.length : Int))) (by repeat' (first | ((with_reducible refine ev_pow10 ?_ ?_ ?_) <;> first | rfl | decide) | (with_reducible refine fun (_ : _ = true) => ?_) | (with_reducible refine fun (_ : _ = false) => ?_) | (with_reducible exact ev_c) | ((with_reducible apply ev_var); rfl) | (with_reducible apply ev_op) | (with_reducible apply ev_un) | (with_reducible apply ev_cb) | (with_reducible apply ea_cons) | (with_reducible apply ev_andV) | (with_reducible apply ev_orV) | (with_reducible apply ev_notV) | (with_reducible apply ev_if) | (with_reducible apply eo_some) | (with_reducible apply el_lst) | (with_reducible exact ea_nil) | (with_reducible exact rv_I0) | (with_reducible exact ru_neg) | (with_reducible exact rv_ltS) | (with_reducible exact rv_inC) | (with_reducible exact rv_notInC) | (with_reducible exact rc_intI) | (with_reducible exact rc_intB) | (with_reducible exact rc_min2) | (with_reducible exact rc_isStr) | (with_reducible exact eo_none) | (with_reducible exact rv_inSS) | (with_reducible exact rv_notInSS) | (with_reducible exact rv_ltSS) | (with_reducible exact rv_eqSS) | (with_reducible exact rv_eqII) | (with_reducible exact rv_neII) | (with_reducible exact rv_neSS) | ((with_reducible refine rc_lenSS ?_); (first | assumption | omega | decide | (simp only [S_len] at *; omega))) | ((with_reducible refine rc_lenStr ?_); (first | assumption | omega | decide | (simp only [S_len] at *; omega))) | ((with_reducible refine rv_catSS ?_); (first | assumption | omega | decide | (simp only [S_len] at *; omega))) | (with_reducible exact rv_eq rfl) | (with_reducible exact rv_ne rfl) | ((with_reducible refine rc_lenS ?_); (first | assumption | omega | decide | (simp only [S_len] at *; omega))) | ((with_reducible refine rc_lenL ?_); assumption) | ((with_reducible apply rv_ixL); assumption; rfl) | ((with_reducible refine rv_catS ?_); (first | assumption | omega | decide | (simp only [S_len] at *; omega))) | ((with_reducible refine rv_I ?_); (first | (show (0 : Int) < _; (first | assumption | omega | decide | (simp only [S_len] at *; omega))) | exact .inr ⟨by decide, by decide⟩ | exact .inl ⟨by (first | assumption | omega | decide | (simp only [S_len] at *; omega)), by (first | assumption | omega | decide | (simp only [S_len] at *; omega))⟩ | exact .inr ⟨by (first | assumption | omega | decide | (simp only [S_len] at *; omega)), by (first | assumption | omega | decide | (simp only [S_len] at *; omega))⟩ | exact ⟨by decide, by decide, by decide⟩ | exact wide_div (b := 128) (by (first | assumption | omega | decide | (simp only [S_len] at *; omega))) (by (first | assumption | omega | decide | (simp only [S_len] at *; omega))) (by decide) (by decide))))) (rv_ixSS (by omega) (Int.emod_nonneg _ (by omega)) (Int.emod_lt_of_pos _ hp)))
      rw [given_all, Int.toNat_natCast] at h
      unfold mv
      rw [List.map_map, List.map_map]
      exact h
    · unfold mv
      rw [List.length_map, List.length_range]
      omega
    · rw [join_S]
      exact q H2 (e1.trans e2)
theorem image_eq (l : List Nat) : (List.range l.length).map (fun (i : Nat) => l.getD ((l.length : Int) - 1 - (i : Int)).toNat 0) = l.reverse := by
  apply List.ext_getElem
  · simp
  · intro i h1 h2
    rw [List.length_map, List.length_range] at h1
    rw [List.getElem_map, List.getElem_range, List.getElem_reverse, List.getD_eq_getElem?_getD]
    have e : ((l.length : Int) - 1 - (i : Int)).toNat = l.length - 1 - i := by omega
    rw [e, List.getElem?_eq_getElem (by omega)]
    rfl
def sp_law_image : Sp := fun vs H Q _ => ∃ (l : List Nat), vs = [.str (S l)] ∧ l.length ≤ 1000 ∧ RetV (.str (S l.reverse)) H Q
theorem ok_law_image (T : Tx K mg) : OkD P w K mg base 1 d_law_image ps_law_image sp_law_image := by
  refine (h_law_image T).ok sc_law_image (fun vs H Q E h => ?_) (fun cdv A outer s H vs Q E hr h => ⟨_,
      (pss_one (ps_ret (pe_join pe_str (pe_lc (own := [("at", 1)]) (g := gName 1) rfl sc_law_image.nd (pi_range1 rfl (m_range T) (pa_cons (pe_callB call_len_str (by rfl) (m_len T) (by decide +kernel) (pa_cons (pv 0) pa_nil)) pa_nil)) (blkOk_by (own := [("at", 1)]) (N := ns_law_image) (sc := defScope st_law_image) (by decide +kernel)) (fun _ _ _ _ _ => pg_name (i := 1) sc_law_image.nd rfl (Or.inl rfl)) (fun _ _ _ _ _ => pts_nil) (fun _ _ _ _ _ => (pe_ix ix_str (pv 0) (pe_op op_sub (pe_op op_sub (pe_callB call_len_str (by rfl) (m_len T) (by decide +kernel) (pa_cons (pv 0) pa_nil)) pe_int) (pv 1)) (fun _ _ => rfl))))))), ?_⟩)
  · obtain ⟨l, rfl, _⟩ := h
    rfl
  · obtain ⟨l, rfl, hl, q⟩ := h
    simp only [kc_2, kc_4, kc_5, kc_6, kc_7, kc_8, kc_9, kc_10, kc_11, kc_12]
    refine s_ret (v := .str (Txt.join (S []) (l.reverse.map fun c => S [c]))) (ev_join (by exact ev_c) ?_ (join_sz _ ?_)) fun H2 e2 => ?_
    · have h := el_lcR1 (σ := L2.start ns_law_image [V.str (S l)]) (H := H) (j := 1) (vs := [1]) (t := tYes) (te := tOp rIxS (tVar 0) (tOp (rI0 fun i j => V.int (i - j)) (tOp (rI0 fun i j => V.int (i - j)) (tCB (fun xs H Q => ∃ z, xs = [V.str z] ∧ z.length ≤ sizeLine ∧ Q (.int z.length) H) (tCons (tVar 0) tNil)) (tC (.int 1))) (tVar 1)))
        (ta := tCons (tCB (fun xs H Q => ∃ z, xs = [V.str z] ∧ z.length ≤ sizeLine ∧ Q (.int z.length) H) (tCons (tVar 0) tNil)) tNil) (fun _ => true) (fun i => V.str (S [l.getD ((l.length : Int) - 1 - (i : Int)).toNat 0])) (n := (l.length : Int)) (by repeat' (first | ((with_reducible refine ev_pow10 ?_ ?_ ?_) <;> first | rfl | decide) | (with_reducible refine fun (_ : _ = true) => ?_) | (with_reducible refine fun (_ : _ = false) => ?_) | (with_reducible exact ev_c) | ((with_reducible apply ev_var); rfl) | (with_reducible apply ev_op) | (with_reducible apply ev_un) | (with_reducible apply ev_cb) | (with_reducible apply ea_cons) | (with_reducible apply ev_andV) | (with_reducible apply ev_orV) | (with_reducible apply ev_notV) | (with_reducible apply ev_if) | (with_reducible apply eo_some) | (with_reducible apply el_lst) | (with_reducible exact ea_nil) | (with_reducible exact rv_I0) | (with_reducible exact ru_neg) | (with_reducible exact rv_ltS) | (with_reducible exact rv_inC) | (with_reducible exact rv_notInC) | (with_reducible exact rc_intI) | (with_reducible exact rc_intB) | (with_reducible exact rc_min2) | (with_reducible exact rc_isStr) | (with_reducible exact eo_none) | (with_reducible exact rv_inSS) | (with_reducible exact rv_notInSS) | (with_reducible exact rv_ltSS) | (with_reducible exact rv_eqSS) | (with_reducible exact rv_eqII) | (with_reducible exact rv_neII) | (with_reducible exact rv_neSS) | ((with_reducible refine rc_lenSS ?_); (first | assumption | omega | decide | (simp only [S_len] at *; omega))) | ((with_reducible refine rc_lenStr ?_); (first | assumption | omega | decide | (simp only [S_len] at *; omega))) | ((with_reducible refine rv_catSS ?_); (first | assumption | omega | decide | (simp only [S_len] at *; omega))) | (with_reducible exact rv_eq rfl) | (with_reducible exact rv_ne rfl) | ((with_reducible refine rc_lenS ?_); (first | assumption | omega | decide | (simp only [S_len] at *; omega))) | ((with_reducible refine rc_lenL ?_); assumption) | ((with_reducible apply rv_ixL); assumption; rfl) | ((with_reducible refine rv_catS ?_); (first | assumption | omega | decide | (simp only [S_len] at *; omega))) | ((with_reducible refine rv_I ?_); (first | (show (0 : Int) < _; (first | assumption | omega | decide | (simp only [S_len] at *; omega))) | exact .inr ⟨by decide, by decide⟩ | exact .inl ⟨by (first | assumption | omega | decide | (simp only [S_len] at *; omega)), by (first | assumption | omega | decide | (simp only [S_len] at *; omega))⟩ | exact .inr ⟨by (first | assumption | omega | decide | (simp only [S_len] at *; omega)), by (first | assumption | omega | decide | (simp only [S_len] at *; omega))⟩ | exact ⟨by decide, by decide, by decide⟩ | exact wide_div (b := 128) (by (first | assumption | omega | decide | (simp only [S_len] at *; omega))) (by (first | assumption | omega | decide | (simp only [S_len] at *; omega))) (by decide) (by decide))))) (by omega) (fun x => rfl) (fun i H2 _ _ => et_yes)
        (fun i H2 _ hi _ => ev_op (ev_var rfl) (y := .int ((l.length : Int) - 1 - (i : Int))) (by repeat' (first | ((with_reducible refine ev_pow10 ?_ ?_ ?_) <;> first | rfl | decide) | (with_reducible refine fun (_ : _ = true) => ?_) | (with_reducible refine fun (_ : _ = false) => ?_) | (with_reducible exact ev_c) | ((with_reducible apply ev_var); rfl) | (with_reducible apply ev_op) | (with_reducible apply ev_un) | (with_reducible apply ev_cb) | (with_reducible apply ea_cons) | (with_reducible apply ev_andV) | (with_reducible apply ev_orV) | (with_reducible apply ev_notV) | (with_reducible apply ev_if) | (with_reducible apply eo_some) | (with_reducible apply el_lst) | (with_reducible exact ea_nil) | (with_reducible exact rv_I0) | (with_reducible exact ru_neg) | (with_reducible exact rv_ltS) | (with_reducible exact rv_inC) | (with_reducible exact rv_notInC) | (with_reducible exact rc_intI) | (with_reducible exact rc_intB) | (with_reducible exact rc_min2) | (with_reducible exact rc_isStr) | (with_reducible exact eo_none) | (with_reducible exact rv_inSS) | (with_reducible exact rv_notInSS) | (with_reducible exact rv_ltSS) | (with_reducible exact rv_eqSS) | (with_reducible exact rv_eqII) | (with_reducible exact rv_neII) | (with_reducible exact rv_neSS) | ((with_reducible refine rc_lenSS ?_); (first | assumption | omega | decide | (simp only [S_len] at *; omega))) | ((with_reducible refine rc_lenStr ?_); (first | assumption | omega | decide | (simp only [S_len] at *; omega))) | ((with_reducible refine rv_catSS ?_); (first | assumption | omega | decide | (simp only [S_len] at *; omega))) | (with_reducible exact rv_eq rfl) | (with_reducible exact rv_ne rfl) | ((with_reducible refine rc_lenS ?_); (first | assumption | omega | decide | (simp only [S_len] at *; omega))) | ((with_reducible refine rc_lenL ?_); assumption) | ((with_reducible apply rv_ixL); assumption; rfl) | ((with_reducible refine rv_catS ?_); (first | assumption | omega | decide | (simp only [S_len] at *; omega))) | ((with_reducible refine rv_I ?_); (first | (show (0 : Int) < _; (first | assumption | omega | decide | (simp only [S_len] at *; omega))) | exact .inr ⟨by decide, by decide⟩ | exact .inl ⟨by (first | assumption | omega | decide | (simp only [S_len] at *; omega)), by (first | assumption | omega | decide | (simp only [S_len] at *; omega))⟩ | exact .inr ⟨by (first | assumption | omega | decide | (simp only [S_len] at *; omega)), by (first | assumption | omega | decide | (simp only [S_len] at *; omega))⟩ | exact ⟨by decide, by decide, by decide⟩ | exact wide_div (b := 128) (by (first | assumption | omega | decide | (simp only [S_len] at *; omega))) (by (first | assumption | omega | decide | (simp only [S_len] at *; omega))) (by decide) (by decide))))) (rv_ixSS (by omega) (by omega) (by omega)))
      rw [given_all, Int.toNat_natCast] at h
      rw [← image_eq, List.map_map, List.map_map]
      exact h
    · rw [List.length_reverse]
      omega
    · rw [join_S]
      exact q H2 e2
end
end K01
namespace K01
open PySem PySem.Spec PyProof.Rows L2 Lc Evl
section
variable {P : Program} {w : World} {K : PySem.W.Frag} {mg : Str → Option Value} {base : Heap}
/-! ### cells and boxes -/
def cellV (ns : List Int) (at_ : Int) : Int := if at_ < (if (ns.length : Int) < 63 then (ns.length : Int) else 63) then ns.getD at_.toNat 0 else ((ns.take 1).sum % 1000003 * 7919 + at_ * 15485863 + 41)
def sp_law_cell (K : PySem.W.Frag) : Sp := fun vs H Q _ => ∃ (a : Addr) (ns : List Int) (at_ : Int), vs = [.ref a, .int at_] ∧ SqL K H a (ns.map V.int) ∧ 0 ≤ at_ ∧ at_ < 1000 ∧ RetV (.int (cellV ns at_)) H Q
theorem cut1 (ns : List Int) : cutV (ns.map V.int) none (some 1) = (ns.take 1).map V.int := by
  unfold cutV
  rw [HT.sIx_none, show (1 : Int) = ((1 : Nat) : Int) from rfl, HT.sIx_nat, List.drop_zero, Nat.sub_zero, List.length_map, ← List.map_take]
  cases ns with
  | nil => rfl
  | cons x r =>
    rw [Nat.min_eq_left (by simp)]
theorem ok_law_cell (T : Tx K mg) : OkD P w K mg base 1 d_law_cell ps_law_cell (sp_law_cell K) := by
  refine (h_law_cell T).ok sc_law_cell (fun vs H Q E h => ?_) (fun cdv A outer s H vs Q E hr h => ⟨_,
      (pss_cons (ps_if (pt_cmpR op_lt (pv 1) (pe_callB (call_min2 rfl) (by rfl) (m_min T) (by decide +kernel) (pa_cons pe_int (pa_cons (pe_callB call_len (by rfl) (m_len T) (by decide +kernel) (pa_cons (pv 0) pa_nil)) pa_nil))) (nomark _)) (pss_one (ps_ret (pe_ix ix_list (pv 0) (pv 1) (fun _ _ => rfl)))) pss_nil)
      (pss_one (ps_ret (pe_op op_add (pe_op op_add (pe_op op_mul (pe_op op_mod (pe_callTy call_int1 (by rfl) (m_int T) (by decide +kernel) (pa_cons (pe_callB (cr_sum rfl) (by rfl) (m_sum T) (by decide +kernel) (pa_cons (pe_slice sl_list (pv 0) po_none (po_some pe_int)) pa_nil)) pa_nil)) pe_int) pe_int) (pe_op op_mul (pv 1) pe_int)) pe_int)))), ?_⟩)
  · obtain ⟨a, ns, at_, rfl, _⟩ := h
    rfl
  · obtain ⟨a, ns, at_, rfl, hs, h0, h1, q⟩ := h
    refine q_when (b := decide (at_ < (if (ns.length : Int) < 63 then (ns.length : Int) else 63))) ?_ (fun hc H1 e1 => ?_) (fun hc H1 e1 => ?_)
    · have hl := rc_lenL (K := K) hs
      rw [List.length_map] at hl
      exact et_test (ev_op (ev_var rfl) (ev_cb (ea_cons ev_c (ea_cons (ev_cb (ea_cons (ev_var rfl) ea_nil) hl) ea_nil)) rc_min2) rv_I0)
    · have hlt : at_ < (if (ns.length : Int) < 63 then (ns.length : Int) else 63) := of_decide_eq_true hc
      have hlt2 : at_ < ns.length := by
        split at hlt <;> omega
      have hg : (ns.map V.int).getD at_.toNat V.non = V.int (ns.getD at_.toNat 0) := by
        rw [List.getD_eq_getElem?_getD, List.getD_eq_getElem?_getD, List.getElem?_map, List.getElem?_eq_getElem (show at_.toNat < ns.length by omega)]
        rfl
      have ha := atI_i (xs := ns.map V.int) h0 (by rw [List.length_map]; exact hlt2) V.non
      rw [hg] at ha
      refine s_ret (ev_op (by exact ev_var rfl) (by exact ev_var rfl) (rv_ixL (ex_l e1 hs) ha)) fun H2 e2 => ?_
      have q2 := q H2 (e1.trans e2)
      unfold cellV at q2
      rw [if_pos hlt] at q2
      exact q2
    · have hge : ¬ at_ < (if (ns.length : Int) < 63 then (ns.length : Int) else 63) := of_decide_eq_false hc
      have hs1 := ex_l e1 hs
      have hcut : EvL (tSl (rSlL K) (tVar 0) tNoPart (tPart (tC (.int 1)))) (L2.start ns_law_cell [.ref a, .int at_]) H1 ((ns.take 1).map V.int) := by
        rw [← cut1]
        exact el_sl (ev_var rfl) eo_none (eo_some ev_c) hs1
      have hsum := ev_cbL hcut fun p H2 hp e => rc_sum (K := K) (ns := ns.take 1) (sq_of hp)
      have hint := ev_cb (ea_cons hsum ea_nil) rc_intI
      have hmod := ev_op hint (ev_c (v := .int 1000003)) (rv_I (C := fun _ j => 0 < j) (g := fun i j => .int (i % j)) (by decide))
      refine s_ret (v := .int ((ns.take 1).sum % 1000003 * 7919 + at_ * 15485863 + 41)) (ev_op (ev_op (ev_op hmod (by exact ev_c) (rv_I (.inr ⟨by decide, by decide⟩))) (by repeat' (first | ((with_reducible refine ev_pow10 ?_ ?_ ?_) <;> first | rfl | decide) | (with_reducible refine fun (_ : _ = true) => ?_) | (with_reducible refine fun (_ : _ = false) => ?_) | (with_reducible exact ev_c) | ((with_reducible apply ev_var); rfl) | (with_reducible apply ev_op) | (with_reducible apply ev_un) | (with_reducible apply ev_cb) | (with_reducible apply ea_cons) | (with_reducible apply ev_andV) | (with_reducible apply ev_orV) | (with_reducible apply ev_notV) | (with_reducible apply ev_if) | (with_reducible apply eo_some) | (with_reducible apply el_lst) | (with_reducible exact ea_nil) | (with_reducible exact rv_I0) | (with_reducible exact ru_neg) | (with_reducible exact rv_ltS) | (with_reducible exact rv_inC) | (with_reducible exact rv_notInC) | (with_reducible exact rc_intI) | (with_reducible exact rc_intB) | (with_reducible exact rc_min2) | (with_reducible exact rc_isStr) | (with_reducible exact eo_none) | (with_reducible exact rv_inSS) | (with_reducible exact rv_notInSS) | (with_reducible exact rv_ltSS) | (with_reducible exact rv_eqSS) | (with_reducible exact rv_eqII) | (with_reducible exact rv_neII) | (with_reducible exact rv_neSS) | ((with_reducible refine rc_lenSS ?_); (first | assumption | omega | decide | (simp only [S_len] at *; omega))) | ((with_reducible refine rc_lenStr ?_); (first | assumption | omega | decide | (simp only [S_len] at *; omega))) | ((with_reducible refine rv_catSS ?_); (first | assumption | omega | decide | (simp only [S_len] at *; omega))) | (with_reducible exact rv_eq rfl) | (with_reducible exact rv_ne rfl) | ((with_reducible refine rc_lenS ?_); (first | assumption | omega | decide | (simp only [S_len] at *; omega))) | ((with_reducible refine rc_lenL ?_); assumption) | ((with_reducible apply rv_ixL); assumption; rfl) | ((with_reducible refine rv_catS ?_); (first | assumption | omega | decide | (simp only [S_len] at *; omega))) | ((with_reducible refine rv_I ?_); (first | (show (0 : Int) < _; (first | assumption | omega | decide | (simp only [S_len] at *; omega))) | exact .inr ⟨by decide, by decide⟩ | exact .inl ⟨by (first | assumption | omega | decide | (simp only [S_len] at *; omega)), by (first | assumption | omega | decide | (simp only [S_len] at *; omega))⟩ | exact .inr ⟨by (first | assumption | omega | decide | (simp only [S_len] at *; omega)), by (first | assumption | omega | decide | (simp only [S_len] at *; omega))⟩ | exact ⟨by decide, by decide, by decide⟩ | exact wide_div (b := 128) (by (first | assumption | omega | decide | (simp only [S_len] at *; omega))) (by (first | assumption | omega | decide | (simp only [S_len] at *; omega))) (by decide) (by decide))))) rv_I0) (by exact ev_c) rv_I0) fun H2 e2 => ?_
      have q2 := q H2 (e1.trans e2)
      unfold cellV at q2
      rw [if_neg hge] at q2
      exact q2
def boxV (ns : List Int) (at_ : Int) : List V := [.int (if decide ((1000000000000000000 : Int) ≤ cellV ns at_) then cellV ns at_ else 0), .int 0, .int ((cellV ns at_ + at_ * 104729) % 2147483647)]
def sp_law_box (K : PySem.W.Frag) : Sp := fun vs H Q _ => ∃ (a : Addr) (ns : List Int) (at_ : Int), vs = [.ref a, .int at_] ∧ SqL K H a (ns.map V.int) ∧ 0 ≤ at_ ∧ at_ < 1000 ∧ ∀ p H', H p = none → Ex H H' → Bx H' p → Q (.ref p) H'
theorem ok_law_box (T : Tx K mg) : OkD P w K mg base 2 d_law_box ps_law_box (sp_law_box K) := by
  refine (h_law_box T).ok sc_law_box (fun vs H Q E h => ?_) (fun cdv A outer s H vs Q E hr h => ⟨_,
      (pss_cons (ps_set (i := 2) sc_law_box.nd rfl (Or.inl rfl) (pe_call (ok_law_cell (P := P) (w := w) (base := base) T) (hr.mono (by decide)) (by rfl) (m_law_cell T) (k_law_cell T) (b_law_cell T) .nil passN (pa_cons (pv 0) (pa_cons (pv 1) pa_nil))))
      (pss_cons (ps_set (i := 3) sc_law_box.nd rfl (Or.inl rfl) (pe_op op_mod (pe_callTy call_int1 (by rfl) (m_int T) (by decide +kernel) (pa_cons (pe_op op_add (pv 2) (pe_op op_mul (pv 1) pe_int)) pa_nil)) pe_int))
      (pss_cons (ps_if (pt_cmpR op_ge (pv 2) (pe_op op_pow pe_int pe_int) (nomark _)) (pss_one (ps_ret (pe_lst (pa_cons (pv 2) (pa_cons pe_int (pa_cons (pv 3) pa_nil)))))) pss_nil)
      (pss_one (ps_ret (pe_lst (pa_cons pe_int (pa_cons pe_int (pa_cons (pv 3) pa_nil))))))))), ?_⟩)
  · obtain ⟨a, ns, at_, rfl, _⟩ := h
    rfl
  · obtain ⟨a, ns, at_, rfl, hs, h0, h1, q⟩ := h
    refine q_asg (v := .int (cellV ns at_)) (ev_call (by repeat' (first | ((with_reducible refine ev_pow10 ?_ ?_ ?_) <;> first | rfl | decide) | (with_reducible refine fun (_ : _ = true) => ?_) | (with_reducible refine fun (_ : _ = false) => ?_) | (with_reducible exact ev_c) | ((with_reducible apply ev_var); rfl) | (with_reducible apply ev_op) | (with_reducible apply ev_un) | (with_reducible apply ev_cb) | (with_reducible apply ea_cons) | (with_reducible apply ev_andV) | (with_reducible apply ev_orV) | (with_reducible apply ev_notV) | (with_reducible apply ev_if) | (with_reducible apply eo_some) | (with_reducible apply el_lst) | (with_reducible exact ea_nil) | (with_reducible exact rv_I0) | (with_reducible exact ru_neg) | (with_reducible exact rv_ltS) | (with_reducible exact rv_inC) | (with_reducible exact rv_notInC) | (with_reducible exact rc_intI) | (with_reducible exact rc_intB) | (with_reducible exact rc_min2) | (with_reducible exact rc_isStr) | (with_reducible exact eo_none) | (with_reducible exact rv_inSS) | (with_reducible exact rv_notInSS) | (with_reducible exact rv_ltSS) | (with_reducible exact rv_eqSS) | (with_reducible exact rv_eqII) | (with_reducible exact rv_neII) | (with_reducible exact rv_neSS) | ((with_reducible refine rc_lenSS ?_); (first | assumption | omega | decide | (simp only [S_len] at *; omega))) | ((with_reducible refine rc_lenStr ?_); (first | assumption | omega | decide | (simp only [S_len] at *; omega))) | ((with_reducible refine rv_catSS ?_); (first | assumption | omega | decide | (simp only [S_len] at *; omega))) | (with_reducible exact rv_eq rfl) | (with_reducible exact rv_ne rfl) | ((with_reducible refine rc_lenS ?_); (first | assumption | omega | decide | (simp only [S_len] at *; omega))) | ((with_reducible refine rc_lenL ?_); assumption) | ((with_reducible apply rv_ixL); assumption; rfl) | ((with_reducible refine rv_catS ?_); (first | assumption | omega | decide | (simp only [S_len] at *; omega))) | ((with_reducible refine rv_I ?_); (first | (show (0 : Int) < _; (first | assumption | omega | decide | (simp only [S_len] at *; omega))) | exact .inr ⟨by decide, by decide⟩ | exact .inl ⟨by (first | assumption | omega | decide | (simp only [S_len] at *; omega)), by (first | assumption | omega | decide | (simp only [S_len] at *; omega))⟩ | exact .inr ⟨by (first | assumption | omega | decide | (simp only [S_len] at *; omega)), by (first | assumption | omega | decide | (simp only [S_len] at *; omega))⟩ | exact ⟨by decide, by decide, by decide⟩ | exact wide_div (b := 128) (by (first | assumption | omega | decide | (simp only [S_len] at *; omega))) (by (first | assumption | omega | decide | (simp only [S_len] at *; omega))) (by decide) (by decide))))) fun H1 e1 Q1 q1 E1 => ⟨a, ns, at_, rfl, ex_l e1 hs, h0, h1, q1⟩) fun H1 e1 => ?_
    generalize cellV ns at_ = cl
    refine q_asg (v := .int ((cl + at_ * 104729) % 2147483647)) (by repeat' (first | ((with_reducible refine ev_pow10 ?_ ?_ ?_) <;> first | rfl | decide) | (with_reducible refine fun (_ : _ = true) => ?_) | (with_reducible refine fun (_ : _ = false) => ?_) | (with_reducible exact ev_c) | ((with_reducible apply ev_var); rfl) | (with_reducible apply ev_op) | (with_reducible apply ev_un) | (with_reducible apply ev_cb) | (with_reducible apply ea_cons) | (with_reducible apply ev_andV) | (with_reducible apply ev_orV) | (with_reducible apply ev_notV) | (with_reducible apply ev_if) | (with_reducible apply eo_some) | (with_reducible apply el_lst) | (with_reducible exact ea_nil) | (with_reducible exact rv_I0) | (with_reducible exact ru_neg) | (with_reducible exact rv_ltS) | (with_reducible exact rv_inC) | (with_reducible exact rv_notInC) | (with_reducible exact rc_intI) | (with_reducible exact rc_intB) | (with_reducible exact rc_min2) | (with_reducible exact rc_isStr) | (with_reducible exact eo_none) | (with_reducible exact rv_inSS) | (with_reducible exact rv_notInSS) | (with_reducible exact rv_ltSS) | (with_reducible exact rv_eqSS) | (with_reducible exact rv_eqII) | (with_reducible exact rv_neII) | (with_reducible exact rv_neSS) | ((with_reducible refine rc_lenSS ?_); (first | assumption | omega | decide | (simp only [S_len] at *; omega))) | ((with_reducible refine rc_lenStr ?_); (first | assumption | omega | decide | (simp only [S_len] at *; omega))) | ((with_reducible refine rv_catSS ?_); (first | assumption | omega | decide | (simp only [S_len] at *; omega))) | (with_reducible exact rv_eq rfl) | (with_reducible exact rv_ne rfl) | ((with_reducible refine rc_lenS ?_); (first | assumption | omega | decide | (simp only [S_len] at *; omega))) | ((with_reducible refine rc_lenL ?_); assumption) | ((with_reducible apply rv_ixL); assumption; rfl) | ((with_reducible refine rv_catS ?_); (first | assumption | omega | decide | (simp only [S_len] at *; omega))) | ((with_reducible refine rv_I ?_); (first | (show (0 : Int) < _; (first | assumption | omega | decide | (simp only [S_len] at *; omega))) | exact .inr ⟨by decide, by decide⟩ | exact .inl ⟨by (first | assumption | omega | decide | (simp only [S_len] at *; omega)), by (first | assumption | omega | decide | (simp only [S_len] at *; omega))⟩ | exact .inr ⟨by (first | assumption | omega | decide | (simp only [S_len] at *; omega)), by (first | assumption | omega | decide | (simp only [S_len] at *; omega))⟩ | exact ⟨by decide, by decide, by decide⟩ | exact wide_div (b := 128) (by (first | assumption | omega | decide | (simp only [S_len] at *; omega))) (by (first | assumption | omega | decide | (simp only [S_len] at *; omega))) (by decide) (by decide))))) fun H2 e2 => ?_
    refine q_when (b := decide ((1000000000000000000 : Int) ≤ cl)) ?_ (fun hc H3 e3 => ?_) (fun hc H3 e3 => ?_)
    · exact et_test (ev_op (ev_var rfl) (ev_pow10 (by decide) (by decide) (by decide)) rv_I0)
    · exact s_retL (el_lst (by repeat' (first | ((with_reducible refine ev_pow10 ?_ ?_ ?_) <;> first | rfl | decide) | (with_reducible refine fun (_ : _ = true) => ?_) | (with_reducible refine fun (_ : _ = false) => ?_) | (with_reducible exact ev_c) | ((with_reducible apply ev_var); rfl) | (with_reducible apply ev_op) | (with_reducible apply ev_un) | (with_reducible apply ev_cb) | (with_reducible apply ea_cons) | (with_reducible apply ev_andV) | (with_reducible apply ev_orV) | (with_reducible apply ev_notV) | (with_reducible apply ev_if) | (with_reducible apply eo_some) | (with_reducible apply el_lst) | (with_reducible exact ea_nil) | (with_reducible exact rv_I0) | (with_reducible exact ru_neg) | (with_reducible exact rv_ltS) | (with_reducible exact rv_inC) | (with_reducible exact rv_notInC) | (with_reducible exact rc_intI) | (with_reducible exact rc_intB) | (with_reducible exact rc_min2) | (with_reducible exact rc_isStr) | (with_reducible exact eo_none) | (with_reducible exact rv_inSS) | (with_reducible exact rv_notInSS) | (with_reducible exact rv_ltSS) | (with_reducible exact rv_eqSS) | (with_reducible exact rv_eqII) | (with_reducible exact rv_neII) | (with_reducible exact rv_neSS) | ((with_reducible refine rc_lenSS ?_); (first | assumption | omega | decide | (simp only [S_len] at *; omega))) | ((with_reducible refine rc_lenStr ?_); (first | assumption | omega | decide | (simp only [S_len] at *; omega))) | ((with_reducible refine rv_catSS ?_); (first | assumption | omega | decide | (simp only [S_len] at *; omega))) | (with_reducible exact rv_eq rfl) | (with_reducible exact rv_ne rfl) | ((with_reducible refine rc_lenS ?_); (first | assumption | omega | decide | (simp only [S_len] at *; omega))) | ((with_reducible refine rc_lenL ?_); assumption) | ((with_reducible apply rv_ixL); assumption; rfl) | ((with_reducible refine rv_catS ?_); (first | assumption | omega | decide | (simp only [S_len] at *; omega))) | ((with_reducible refine rv_I ?_); (first | (show (0 : Int) < _; (first | assumption | omega | decide | (simp only [S_len] at *; omega))) | exact .inr ⟨by decide, by decide⟩ | exact .inl ⟨by (first | assumption | omega | decide | (simp only [S_len] at *; omega)), by (first | assumption | omega | decide | (simp only [S_len] at *; omega))⟩ | exact .inr ⟨by (first | assumption | omega | decide | (simp only [S_len] at *; omega)), by (first | assumption | omega | decide | (simp only [S_len] at *; omega))⟩ | exact ⟨by decide, by decide, by decide⟩ | exact wide_div (b := 128) (by (first | assumption | omega | decide | (simp only [S_len] at *; omega))) (by (first | assumption | omega | decide | (simp only [S_len] at *; omega))) (by decide) (by decide))))) (by simp)) fun p H4 hp e4 h4 => q p H4 (fresh_back ((e1.trans e2).trans e3) hp) (((e1.trans e2).trans e3).trans e4) ⟨_, _, _, h4⟩
    · exact s_retL (el_lst (by repeat' (first | ((with_reducible refine ev_pow10 ?_ ?_ ?_) <;> first | rfl | decide) | (with_reducible refine fun (_ : _ = true) => ?_) | (with_reducible refine fun (_ : _ = false) => ?_) | (with_reducible exact ev_c) | ((with_reducible apply ev_var); rfl) | (with_reducible apply ev_op) | (with_reducible apply ev_un) | (with_reducible apply ev_cb) | (with_reducible apply ea_cons) | (with_reducible apply ev_andV) | (with_reducible apply ev_orV) | (with_reducible apply ev_notV) | (with_reducible apply ev_if) | (with_reducible apply eo_some) | (with_reducible apply el_lst) | (with_reducible exact ea_nil) | (with_reducible exact rv_I0) | (with_reducible exact ru_neg) | (with_reducible exact rv_ltS) | (with_reducible exact rv_inC) | (with_reducible exact rv_notInC) | (with_reducible exact rc_intI) | (with_reducible exact rc_intB) | (with_reducible exact rc_min2) | (with_reducible exact rc_isStr) | (with_reducible exact eo_none) | (with_reducible exact rv_inSS) | (with_reducible exact rv_notInSS) | (with_reducible exact rv_ltSS) | (with_reducible exact rv_eqSS) | (with_reducible exact rv_eqII) | (with_reducible exact rv_neII) | (with_reducible exact rv_neSS) | ((with_reducible refine rc_lenSS ?_); (first | assumption | omega | decide | (simp only [S_len] at *; omega))) | ((with_reducible refine rc_lenStr ?_); (first | assumption | omega | decide | (simp only [S_len] at *; omega))) | ((with_reducible refine rv_catSS ?_); (first | assumption | omega | decide | (simp only [S_len] at *; omega))) | (with_reducible exact rv_eq rfl) | (with_reducible exact rv_ne rfl) | ((with_reducible refine rc_lenS ?_); (first | assumption | omega | decide | (simp only [S_len] at *; omega))) | ((with_reducible refine rc_lenL ?_); assumption) | ((with_reducible apply rv_ixL); assumption; rfl) | ((with_reducible refine rv_catS ?_); (first | assumption | omega | decide | (simp only [S_len] at *; omega))) | ((with_reducible refine rv_I ?_); (first | (show (0 : Int) < _; (first | assumption | omega | decide | (simp only [S_len] at *; omega))) | exact .inr ⟨by decide, by decide⟩ | exact .inl ⟨by (first | assumption | omega | decide | (simp only [S_len] at *; omega)), by (first | assumption | omega | decide | (simp only [S_len] at *; omega))⟩ | exact .inr ⟨by (first | assumption | omega | decide | (simp only [S_len] at *; omega)), by (first | assumption | omega | decide | (simp only [S_len] at *; omega))⟩ | exact ⟨by decide, by decide, by decide⟩ | exact wide_div (b := 128) (by (first | assumption | omega | decide | (simp only [S_len] at *; omega))) (by (first | assumption | omega | decide | (simp only [S_len] at *; omega))) (by decide) (by decide))))) (by simp)) fun p H4 hp e4 h4 => q p H4 (fresh_back ((e1.trans e2).trans e3) hp) (((e1.trans e2).trans e3).trans e4) ⟨_, _, _, h4⟩
def sp_law_shift : Sp := fun vs H Q _ => ∃ (b : Addr) (n : Int), vs = [.ref b, .int n] ∧ Bx H b ∧ 0 ≤ n ∧ n ≤ 1000 ∧ ∀ d H', ExB b H H' → Bx H' b → Q (.int d) H'
theorem ok_law_shift (T : Tx K mg) : OkD P w K mg base 2 d_law_shift ps_law_shift sp_law_shift := by
  refine (h_law_shift T).ok sc_law_shift (fun vs H Q E h => ?_) (fun cdv A outer s H vs Q E hr h => ⟨_,
      (pss_cons (ps_set (i := 2) sc_law_shift.nd rfl (Or.inl rfl) (pe_call (ok_law_take (P := P) (w := w) (base := base) T) (hr.mono (by decide)) (by rfl) (m_law_take T) (k_law_take T) (b_law_take T) .nil passN (pa_cons (pv 0) (pa_cons pe_int pa_nil))))
      (pss_cons (ps_if (pt_cmpR op_eq (pv 2) pe_int (nomark _)) (pss_one (ps_ret (pe_op op_sub (pe_call (ok_law_take (P := P) (w := w) (base := base) T) (hr.mono (by decide)) (by rfl) (m_law_take T) (k_law_take T) (b_law_take T) .nil passN (pa_cons (pv 0) (pa_cons pe_int pa_nil))) pe_int))) pss_nil)
      (pss_cons (ps_if (pt_cmpR op_eq (pv 2) pe_int (nomark _)) (pss_one (ps_ret (pe_op op_sub (pe_op op_add (pe_op op_mul (pv 1) (pe_op op_sub (pe_call (ok_law_take (P := P) (w := w) (base := base) T) (hr.mono (by decide)) (by rfl) (m_law_take T) (k_law_take T) (b_law_take T) .nil passN (pa_cons (pv 0) (pa_cons pe_int pa_nil))) pe_int)) (pe_call (ok_law_take (P := P) (w := w) (base := base) T) (hr.mono (by decide)) (by rfl) (m_law_take T) (k_law_take T) (b_law_take T) .nil passN (pa_cons (pv 0) (pa_cons pe_int pa_nil)))) pe_int))) pss_nil)
      (pss_cons (ps_if (pt_cmpR op_eq (pv 2) pe_int (nomark _)) (pss_one (ps_ret (pe_op op_sub (pe_call (ok_law_take (P := P) (w := w) (base := base) T) (hr.mono (by decide)) (by rfl) (m_law_take T) (k_law_take T) (b_law_take T) .nil passN (pa_cons (pv 0) (pa_cons pe_int pa_nil))) pe_int))) pss_nil)
      (pss_cons (ps_set (i := 3) sc_law_shift.nd rfl (Or.inl rfl) (pe_call (ok_law_take (P := P) (w := w) (base := base) T) (hr.mono (by decide)) (by rfl) (m_law_take T) (k_law_take T) (b_law_take T) .nil passN (pa_cons (pv 0) (pa_cons (pe_op op_pow pe_int pe_int) pa_nil))))
      (Evl.pss_cut (ps_if (pt_cmpR op_eq (pv 2) pe_int (nomark _)) (pss_one (ps_set (i := 3) sc_law_shift.nd rfl (Or.inl rfl) (pe_op op_add (pe_op op_add (pe_op op_mul (pe_call (ok_law_take (P := P) (w := w) (base := base) T) (hr.mono (by decide)) (by rfl) (m_law_take T) (k_law_take T) (b_law_take T) .nil passN (pa_cons (pv 0) (pa_cons (pe_op op_pow pe_int pe_int) pa_nil))) (pe_op op_pow pe_int pe_int)) (pe_op op_mul (pe_call (ok_law_take (P := P) (w := w) (base := base) T) (hr.mono (by decide)) (by rfl) (m_law_take T) (k_law_take T) (b_law_take T) .nil passN (pa_cons (pv 0) (pa_cons (pe_op op_pow pe_int pe_int) pa_nil))) (pe_op op_pow pe_int pe_int))) (pe_op op_mod (pe_callTy call_int1 (by rfl) (m_int T) (by decide +kernel) (pa_cons (pv 3) pa_nil)) (pe_op op_pow pe_int pe_int))))) pss_nil)
      (pss_cons (ps_if (pt_cmpR op_eq (pe_call (ok_law_take (P := P) (w := w) (base := base) T) (hr.mono (by decide)) (by rfl) (m_law_take T) (k_law_take T) (b_law_take T) .nil passN (pa_cons (pv 0) (pa_cons pe_int pa_nil))) pe_int (nomark _)) (pss_one (ps_ret (pe_op op_sub pe_int (pv 3)))) pss_nil)
      (pss_one (ps_ret (pv 3)))))))))), ?_⟩)
  · obtain ⟨b, n, rfl, _⟩ := h
    rfl
  · obtain ⟨b, n, rfl, hb, n0, n1, q⟩ := h
    refine sp_take_then (b := b) (many := 5) rfl hb (by exact ev_c) (by decide) (by decide) fun m H1 m0 m1 e1 b1 => ?_
    dsimp only
    refine q_when (b := decide (m = 0)) (by first | ((with_reducible apply et_test); (repeat' (first | ((with_reducible refine ev_pow10 ?_ ?_ ?_) <;> first | rfl | decide) | (with_reducible refine fun (_ : _ = true) => ?_) | (with_reducible refine fun (_ : _ = false) => ?_) | (with_reducible exact ev_c) | ((with_reducible apply ev_var); rfl) | (with_reducible apply ev_op) | (with_reducible apply ev_un) | (with_reducible apply ev_cb) | (with_reducible apply ea_cons) | (with_reducible apply ev_andV) | (with_reducible apply ev_orV) | (with_reducible apply ev_notV) | (with_reducible apply ev_if) | (with_reducible apply eo_some) | (with_reducible apply el_lst) | (with_reducible exact ea_nil) | (with_reducible exact rv_I0) | (with_reducible exact ru_neg) | (with_reducible exact rv_ltS) | (with_reducible exact rv_inC) | (with_reducible exact rv_notInC) | (with_reducible exact rc_intI) | (with_reducible exact rc_intB) | (with_reducible exact rc_min2) | (with_reducible exact rc_isStr) | (with_reducible exact eo_none) | (with_reducible exact rv_inSS) | (with_reducible exact rv_notInSS) | (with_reducible exact rv_ltSS) | (with_reducible exact rv_eqSS) | (with_reducible exact rv_eqII) | (with_reducible exact rv_neII) | (with_reducible exact rv_neSS) | ((with_reducible refine rc_lenSS ?_); (first | assumption | omega | decide | (simp only [S_len] at *; omega))) | ((with_reducible refine rc_lenStr ?_); (first | assumption | omega | decide | (simp only [S_len] at *; omega))) | ((with_reducible refine rv_catSS ?_); (first | assumption | omega | decide | (simp only [S_len] at *; omega))) | (with_reducible exact rv_eq rfl) | (with_reducible exact rv_ne rfl) | ((with_reducible refine rc_lenS ?_); (first | assumption | omega | decide | (simp only [S_len] at *; omega))) | ((with_reducible refine rc_lenL ?_); assumption) | ((with_reducible apply rv_ixL); assumption; rfl) | ((with_reducible refine rv_catS ?_); (first | assumption | omega | decide | (simp only [S_len] at *; omega))) | ((with_reducible refine rv_I ?_); (first | (show (0 : Int) < _; (first | assumption | omega | decide | (simp only [S_len] at *; omega))) | exact .inr ⟨by decide, by decide⟩ | exact .inl ⟨by (first | assumption | omega | decide | (simp only [S_len] at *; omega)), by (first | assumption | omega | decide | (simp only [S_len] at *; omega))⟩ | exact .inr ⟨by (first | assumption | omega | decide | (simp only [S_len] at *; omega)), by (first | assumption | omega | decide | (simp only [S_len] at *; omega))⟩ | exact ⟨by decide, by decide, by decide⟩ | exact wide_div (b := 128) (by (first | assumption | omega | decide | (simp only [S_len] at *; omega))) (by (first | assumption | omega | decide | (simp only [S_len] at *; omega))) (by decide) (by decide)))))) | ((with_reducible apply et_B); (repeat' (first | ((with_reducible refine ev_pow10 ?_ ?_ ?_) <;> first | rfl | decide) | (with_reducible refine fun (_ : _ = true) => ?_) | (with_reducible refine fun (_ : _ = false) => ?_) | (with_reducible exact ev_c) | ((with_reducible apply ev_var); rfl) | (with_reducible apply ev_op) | (with_reducible apply ev_un) | (with_reducible apply ev_cb) | (with_reducible apply ea_cons) | (with_reducible apply ev_andV) | (with_reducible apply ev_orV) | (with_reducible apply ev_notV) | (with_reducible apply ev_if) | (with_reducible apply eo_some) | (with_reducible apply el_lst) | (with_reducible exact ea_nil) | (with_reducible exact rv_I0) | (with_reducible exact ru_neg) | (with_reducible exact rv_ltS) | (with_reducible exact rv_inC) | (with_reducible exact rv_notInC) | (with_reducible exact rc_intI) | (with_reducible exact rc_intB) | (with_reducible exact rc_min2) | (with_reducible exact rc_isStr) | (with_reducible exact eo_none) | (with_reducible exact rv_inSS) | (with_reducible exact rv_notInSS) | (with_reducible exact rv_ltSS) | (with_reducible exact rv_eqSS) | (with_reducible exact rv_eqII) | (with_reducible exact rv_neII) | (with_reducible exact rv_neSS) | ((with_reducible refine rc_lenSS ?_); (first | assumption | omega | decide | (simp only [S_len] at *; omega))) | ((with_reducible refine rc_lenStr ?_); (first | assumption | omega | decide | (simp only [S_len] at *; omega))) | ((with_reducible refine rv_catSS ?_); (first | assumption | omega | decide | (simp only [S_len] at *; omega))) | (with_reducible exact rv_eq rfl) | (with_reducible exact rv_ne rfl) | ((with_reducible refine rc_lenS ?_); (first | assumption | omega | decide | (simp only [S_len] at *; omega))) | ((with_reducible refine rc_lenL ?_); assumption) | ((with_reducible apply rv_ixL); assumption; rfl) | ((with_reducible refine rv_catS ?_); (first | assumption | omega | decide | (simp only [S_len] at *; omega))) | ((with_reducible refine rv_I ?_); (first | (show (0 : Int) < _; (first | assumption | omega | decide | (simp only [S_len] at *; omega))) | exact .inr ⟨by decide, by decide⟩ | exact .inl ⟨by (first | assumption | omega | decide | (simp only [S_len] at *; omega)), by (first | assumption | omega | decide | (simp only [S_len] at *; omega))⟩ | exact .inr ⟨by (first | assumption | omega | decide | (simp only [S_len] at *; omega)), by (first | assumption | omega | decide | (simp only [S_len] at *; omega))⟩ | exact ⟨by decide, by decide, by decide⟩ | exact wide_div (b := 128) (by (first | assumption | omega | decide | (simp only [S_len] at *; omega))) (by (first | assumption | omega | decide | (simp only [S_len] at *; omega))) (by decide) (by decide))))))) (fun hc H2 e2 => ?_) (fun hc H2 e2 => ?_)
    · refine sp_take_then (b := b) (many := 7) rfl (b1.ex e2) (by exact ev_c) (by decide) (by decide) fun d H3 d0 d1 e3 b3 => ?_
      exact ⟨_, _, rfl, rfl, q _ H3 ((e1.trans (ExB.of e2)).trans e3) b3⟩
    replace e1 := e1.trans (ExB.of e2)
    replace b1 := b1.ex e2
    refine q_when (b := decide (m = 1)) (by first | ((with_reducible apply et_test); (repeat' (first | ((with_reducible refine ev_pow10 ?_ ?_ ?_) <;> first | rfl | decide) | (with_reducible refine fun (_ : _ = true) => ?_) | (with_reducible refine fun (_ : _ = false) => ?_) | (with_reducible exact ev_c) | ((with_reducible apply ev_var); rfl) | (with_reducible apply ev_op) | (with_reducible apply ev_un) | (with_reducible apply ev_cb) | (with_reducible apply ea_cons) | (with_reducible apply ev_andV) | (with_reducible apply ev_orV) | (with_reducible apply ev_notV) | (with_reducible apply ev_if) | (with_reducible apply eo_some) | (with_reducible apply el_lst) | (with_reducible exact ea_nil) | (with_reducible exact rv_I0) | (with_reducible exact ru_neg) | (with_reducible exact rv_ltS) | (with_reducible exact rv_inC) | (with_reducible exact rv_notInC) | (with_reducible exact rc_intI) | (with_reducible exact rc_intB) | (with_reducible exact rc_min2) | (with_reducible exact rc_isStr) | (with_reducible exact eo_none) | (with_reducible exact rv_inSS) | (with_reducible exact rv_notInSS) | (with_reducible exact rv_ltSS) | (with_reducible exact rv_eqSS) | (with_reducible exact rv_eqII) | (with_reducible exact rv_neII) | (with_reducible exact rv_neSS) | ((with_reducible refine rc_lenSS ?_); (first | assumption | omega | decide | (simp only [S_len] at *; omega))) | ((with_reducible refine rc_lenStr ?_); (first | assumption | omega | decide | (simp only [S_len] at *; omega))) | ((with_reducible refine rv_catSS ?_); (first | assumption | omega | decide | (simp only [S_len] at *; omega))) | (with_reducible exact rv_eq rfl) | (with_reducible exact rv_ne rfl) | ((with_reducible refine rc_lenS ?_); (first | assumption | omega | decide | (simp only [S_len] at *; omega))) | ((with_reducible refine rc_lenL ?_); assumption) | ((with_reducible apply rv_ixL); assumption; rfl) | ((with_reducible refine rv_catS ?_); (first | assumption | omega | decide | (simp only [S_len] at *; omega))) | ((with_reducible refine rv_I ?_); (first | (show (0 : Int) < _; (first | assumption | omega | decide | (simp only [S_len] at *; omega))) | exact .inr ⟨by decide, by decide⟩ | exact .inl ⟨by (first | assumption | omega | decide | (simp only [S_len] at *; omega)), by (first | assumption | omega | decide | (simp only [S_len] at *; omega))⟩ | exact .inr ⟨by (first | assumption | omega | decide | (simp only [S_len] at *; omega)), by (first | assumption | omega | decide | (simp only [S_len] at *; omega))⟩ | exact ⟨by decide, by decide, by decide⟩ | exact wide_div (b := 128) (by (first | assumption | omega | decide | (simp only [S_len] at *; omega))) (by (first | assumption | omega | decide | (simp only [S_len] at *; omega))) (by decide) (by decide)))))) | ((with_reducible apply et_B); (repeat' (first | ((with_reducible refine ev_pow10 ?_ ?_ ?_) <;> first | rfl | decide) | (with_reducible refine fun (_ : _ = true) => ?_) | (with_reducible refine fun (_ : _ = false) => ?_) | (with_reducible exact ev_c) | ((with_reducible apply ev_var); rfl) | (with_reducible apply ev_op) | (with_reducible apply ev_un) | (with_reducible apply ev_cb) | (with_reducible apply ea_cons) | (with_reducible apply ev_andV) | (with_reducible apply ev_orV) | (with_reducible apply ev_notV) | (with_reducible apply ev_if) | (with_reducible apply eo_some) | (with_reducible apply el_lst) | (with_reducible exact ea_nil) | (with_reducible exact rv_I0) | (with_reducible exact ru_neg) | (with_reducible exact rv_ltS) | (with_reducible exact rv_inC) | (with_reducible exact rv_notInC) | (with_reducible exact rc_intI) | (with_reducible exact rc_intB) | (with_reducible exact rc_min2) | (with_reducible exact rc_isStr) | (with_reducible exact eo_none) | (with_reducible exact rv_inSS) | (with_reducible exact rv_notInSS) | (with_reducible exact rv_ltSS) | (with_reducible exact rv_eqSS) | (with_reducible exact rv_eqII) | (with_reducible exact rv_neII) | (with_reducible exact rv_neSS) | ((with_reducible refine rc_lenSS ?_); (first | assumption | omega | decide | (simp only [S_len] at *; omega))) | ((with_reducible refine rc_lenStr ?_); (first | assumption | omega | decide | (simp only [S_len] at *; omega))) | ((with_reducible refine rv_catSS ?_); (first | assumption | omega | decide | (simp only [S_len] at *; omega))) | (with_reducible exact rv_eq rfl) | (with_reducible exact rv_ne rfl) | ((with_reducible refine rc_lenS ?_); (first | assumption | omega | decide | (simp only [S_len] at *; omega))) | ((with_reducible refine rc_lenL ?_); assumption) | ((with_reducible apply rv_ixL); assumption; rfl) | ((with_reducible refine rv_catS ?_); (first | assumption | omega | decide | (simp only [S_len] at *; omega))) | ((with_reducible refine rv_I ?_); (first | (show (0 : Int) < _; (first | assumption | omega | decide | (simp only [S_len] at *; omega))) | exact .inr ⟨by decide, by decide⟩ | exact .inl ⟨by (first | assumption | omega | decide | (simp only [S_len] at *; omega)), by (first | assumption | omega | decide | (simp only [S_len] at *; omega))⟩ | exact .inr ⟨by (first | assumption | omega | decide | (simp only [S_len] at *; omega)), by (first | assumption | omega | decide | (simp only [S_len] at *; omega))⟩ | exact ⟨by decide, by decide, by decide⟩ | exact wide_div (b := 128) (by (first | assumption | omega | decide | (simp only [S_len] at *; omega))) (by (first | assumption | omega | decide | (simp only [S_len] at *; omega))) (by decide) (by decide))))))) (fun hc H3 e3 => ?_) (fun hc H3 e3 => ?_)
    · refine ⟨_, rfl, ?_⟩
      refine sp_take_then (b := b) (many := 9) rfl (b1.ex e3) (by exact ev_c) (by decide) (by decide) fun d H4 d0 d1 e4 b4 => ?_
      refine ⟨_, _, rfl, rfl, _, _, rfl, rfl, .inl ⟨by omega, by omega⟩, ?_⟩
      refine sp_take_then (b := b) (many := 3) rfl b4 (by exact ev_c) (by decide) (by decide) fun d2 H5 d20 d21 e5 b5 => ?_
      exact ⟨_, _, rfl, rfl, _, _, rfl, rfl, q _ H5 (((e1.trans (ExB.of e3)).trans e4).trans e5) b5⟩
    replace e1 := e1.trans (ExB.of e3)
    replace b1 := b1.ex e3
    refine q_when (b := decide (m = 2)) (by first | ((with_reducible apply et_test); (repeat' (first | ((with_reducible refine ev_pow10 ?_ ?_ ?_) <;> first | rfl | decide) | (with_reducible refine fun (_ : _ = true) => ?_) | (with_reducible refine fun (_ : _ = false) => ?_) | (with_reducible exact ev_c) | ((with_reducible apply ev_var); rfl) | (with_reducible apply ev_op) | (with_reducible apply ev_un) | (with_reducible apply ev_cb) | (with_reducible apply ea_cons) | (with_reducible apply ev_andV) | (with_reducible apply ev_orV) | (with_reducible apply ev_notV) | (with_reducible apply ev_if) | (with_reducible apply eo_some) | (with_reducible apply el_lst) | (with_reducible exact ea_nil) | (with_reducible exact rv_I0) | (with_reducible exact ru_neg) | (with_reducible exact rv_ltS) | (with_reducible exact rv_inC) | (with_reducible exact rv_notInC) | (with_reducible exact rc_intI) | (with_reducible exact rc_intB) | (with_reducible exact rc_min2) | (with_reducible exact rc_isStr) | (with_reducible exact eo_none) | (with_reducible exact rv_inSS) | (with_reducible exact rv_notInSS) | (with_reducible exact rv_ltSS) | (with_reducible exact rv_eqSS) | (with_reducible exact rv_eqII) | (with_reducible exact rv_neII) | (with_reducible exact rv_neSS) | ((with_reducible refine rc_lenSS ?_); (first | assumption | omega | decide | (simp only [S_len] at *; omega))) | ((with_reducible refine rc_lenStr ?_); (first | assumption | omega | decide | (simp only [S_len] at *; omega))) | ((with_reducible refine rv_catSS ?_); (first | assumption | omega | decide | (simp only [S_len] at *; omega))) | (with_reducible exact rv_eq rfl) | (with_reducible exact rv_ne rfl) | ((with_reducible refine rc_lenS ?_); (first | assumption | omega | decide | (simp only [S_len] at *; omega))) | ((with_reducible refine rc_lenL ?_); assumption) | ((with_reducible apply rv_ixL); assumption; rfl) | ((with_reducible refine rv_catS ?_); (first | assumption | omega | decide | (simp only [S_len] at *; omega))) | ((with_reducible refine rv_I ?_); (first | (show (0 : Int) < _; (first | assumption | omega | decide | (simp only [S_len] at *; omega))) | exact .inr ⟨by decide, by decide⟩ | exact .inl ⟨by (first | assumption | omega | decide | (simp only [S_len] at *; omega)), by (first | assumption | omega | decide | (simp only [S_len] at *; omega))⟩ | exact .inr ⟨by (first | assumption | omega | decide | (simp only [S_len] at *; omega)), by (first | assumption | omega | decide | (simp only [S_len] at *; omega))⟩ | exact ⟨by decide, by decide, by decide⟩ | exact wide_div (b := 128) (by (first | assumption | omega | decide | (simp only [S_len] at *; omega))) (by (first | assumption | omega | decide | (simp only [S_len] at *; omega))) (by decide) (by decide)))))) | ((with_reducible apply et_B); (repeat' (first | ((with_reducible refine ev_pow10 ?_ ?_ ?_) <;> first | rfl | decide) | (with_reducible refine fun (_ : _ = true) => ?_) | (with_reducible refine fun (_ : _ = false) => ?_) | (with_reducible exact ev_c) | ((with_reducible apply ev_var); rfl) | (with_reducible apply ev_op) | (with_reducible apply ev_un) | (with_reducible apply ev_cb) | (with_reducible apply ea_cons) | (with_reducible apply ev_andV) | (with_reducible apply ev_orV) | (with_reducible apply ev_notV) | (with_reducible apply ev_if) | (with_reducible apply eo_some) | (with_reducible apply el_lst) | (with_reducible exact ea_nil) | (with_reducible exact rv_I0) | (with_reducible exact ru_neg) | (with_reducible exact rv_ltS) | (with_reducible exact rv_inC) | (with_reducible exact rv_notInC) | (with_reducible exact rc_intI) | (with_reducible exact rc_intB) | (with_reducible exact rc_min2) | (with_reducible exact rc_isStr) | (with_reducible exact eo_none) | (with_reducible exact rv_inSS) | (with_reducible exact rv_notInSS) | (with_reducible exact rv_ltSS) | (with_reducible exact rv_eqSS) | (with_reducible exact rv_eqII) | (with_reducible exact rv_neII) | (with_reducible exact rv_neSS) | ((with_reducible refine rc_lenSS ?_); (first | assumption | omega | decide | (simp only [S_len] at *; omega))) | ((with_reducible refine rc_lenStr ?_); (first | assumption | omega | decide | (simp only [S_len] at *; omega))) | ((with_reducible refine rv_catSS ?_); (first | assumption | omega | decide | (simp only [S_len] at *; omega))) | (with_reducible exact rv_eq rfl) | (with_reducible exact rv_ne rfl) | ((with_reducible refine rc_lenS ?_); (first | assumption | omega | decide | (simp only [S_len] at *; omega))) | ((with_reducible refine rc_lenL ?_); assumption) | ((with_reducible apply rv_ixL); assumption; rfl) | ((with_reducible refine rv_catS ?_); (first | assumption | omega | decide | (simp only [S_len] at *; omega))) | ((with_reducible refine rv_I ?_); (first | (show (0 : Int) < _; (first | assumption | omega | decide | (simp only [S_len] at *; omega))) | exact .inr ⟨by decide, by decide⟩ | exact .inl ⟨by (first | assumption | omega | decide | (simp only [S_len] at *; omega)), by (first | assumption | omega | decide | (simp only [S_len] at *; omega))⟩ | exact .inr ⟨by (first | assumption | omega | decide | (simp only [S_len] at *; omega)), by (first | assumption | omega | decide | (simp only [S_len] at *; omega))⟩ | exact ⟨by decide, by decide, by decide⟩ | exact wide_div (b := 128) (by (first | assumption | omega | decide | (simp only [S_len] at *; omega))) (by (first | assumption | omega | decide | (simp only [S_len] at *; omega))) (by decide) (by decide))))))) (fun hc H4 e4 => ?_) (fun hc H4 e4 => ?_)
    · refine sp_take_then (b := b) (many := 121) rfl (b1.ex e4) (by exact ev_c) (by decide) (by decide) fun d H5 d0 d1 e5 b5 => ?_
      exact ⟨_, _, rfl, rfl, q _ H5 ((e1.trans (ExB.of e4)).trans e5) b5⟩
    replace e1 := e1.trans (ExB.of e4)
    replace b1 := b1.ex e4
    refine sp_take_then (b := b) (many := 100000000000000000000000000000) rfl b1 (by exact ev_pow10 (by decide) (by decide) (by decide)) (by decide) (by decide) fun far H5 _ _ e5 b5 => ?_
    dsimp only
    replace e1 := e1.trans e5
    refine ⟨fun σ' H' => ExB b H H' ∧ Bx H' b ∧ ∃ x : Int, σ' = [some (.ref b), some (.int n), some (.int m), some (.int x)], ?_, ?_⟩
    · refine s_when (b := decide (m = 3)) (by first | ((with_reducible apply et_test); (repeat' (first | ((with_reducible refine ev_pow10 ?_ ?_ ?_) <;> first | rfl | decide) | (with_reducible refine fun (_ : _ = true) => ?_) | (with_reducible refine fun (_ : _ = false) => ?_) | (with_reducible exact ev_c) | ((with_reducible apply ev_var); rfl) | (with_reducible apply ev_op) | (with_reducible apply ev_un) | (with_reducible apply ev_cb) | (with_reducible apply ea_cons) | (with_reducible apply ev_andV) | (with_reducible apply ev_orV) | (with_reducible apply ev_notV) | (with_reducible apply ev_if) | (with_reducible apply eo_some) | (with_reducible apply el_lst) | (with_reducible exact ea_nil) | (with_reducible exact rv_I0) | (with_reducible exact ru_neg) | (with_reducible exact rv_ltS) | (with_reducible exact rv_inC) | (with_reducible exact rv_notInC) | (with_reducible exact rc_intI) | (with_reducible exact rc_intB) | (with_reducible exact rc_min2) | (with_reducible exact rc_isStr) | (with_reducible exact eo_none) | (with_reducible exact rv_inSS) | (with_reducible exact rv_notInSS) | (with_reducible exact rv_ltSS) | (with_reducible exact rv_eqSS) | (with_reducible exact rv_eqII) | (with_reducible exact rv_neII) | (with_reducible exact rv_neSS) | ((with_reducible refine rc_lenSS ?_); (first | assumption | omega | decide | (simp only [S_len] at *; omega))) | ((with_reducible refine rc_lenStr ?_); (first | assumption | omega | decide | (simp only [S_len] at *; omega))) | ((with_reducible refine rv_catSS ?_); (first | assumption | omega | decide | (simp only [S_len] at *; omega))) | (with_reducible exact rv_eq rfl) | (with_reducible exact rv_ne rfl) | ((with_reducible refine rc_lenS ?_); (first | assumption | omega | decide | (simp only [S_len] at *; omega))) | ((with_reducible refine rc_lenL ?_); assumption) | ((with_reducible apply rv_ixL); assumption; rfl) | ((with_reducible refine rv_catS ?_); (first | assumption | omega | decide | (simp only [S_len] at *; omega))) | ((with_reducible refine rv_I ?_); (first | (show (0 : Int) < _; (first | assumption | omega | decide | (simp only [S_len] at *; omega))) | exact .inr ⟨by decide, by decide⟩ | exact .inl ⟨by (first | assumption | omega | decide | (simp only [S_len] at *; omega)), by (first | assumption | omega | decide | (simp only [S_len] at *; omega))⟩ | exact .inr ⟨by (first | assumption | omega | decide | (simp only [S_len] at *; omega)), by (first | assumption | omega | decide | (simp only [S_len] at *; omega))⟩ | exact ⟨by decide, by decide, by decide⟩ | exact wide_div (b := 128) (by (first | assumption | omega | decide | (simp only [S_len] at *; omega))) (by (first | assumption | omega | decide | (simp only [S_len] at *; omega))) (by decide) (by decide)))))) | ((with_reducible apply et_B); (repeat' (first | ((with_reducible refine ev_pow10 ?_ ?_ ?_) <;> first | rfl | decide) | (with_reducible refine fun (_ : _ = true) => ?_) | (with_reducible refine fun (_ : _ = false) => ?_) | (with_reducible exact ev_c) | ((with_reducible apply ev_var); rfl) | (with_reducible apply ev_op) | (with_reducible apply ev_un) | (with_reducible apply ev_cb) | (with_reducible apply ea_cons) | (with_reducible apply ev_andV) | (with_reducible apply ev_orV) | (with_reducible apply ev_notV) | (with_reducible apply ev_if) | (with_reducible apply eo_some) | (with_reducible apply el_lst) | (with_reducible exact ea_nil) | (with_reducible exact rv_I0) | (with_reducible exact ru_neg) | (with_reducible exact rv_ltS) | (with_reducible exact rv_inC) | (with_reducible exact rv_notInC) | (with_reducible exact rc_intI) | (with_reducible exact rc_intB) | (with_reducible exact rc_min2) | (with_reducible exact rc_isStr) | (with_reducible exact eo_none) | (with_reducible exact rv_inSS) | (with_reducible exact rv_notInSS) | (with_reducible exact rv_ltSS) | (with_reducible exact rv_eqSS) | (with_reducible exact rv_eqII) | (with_reducible exact rv_neII) | (with_reducible exact rv_neSS) | ((with_reducible refine rc_lenSS ?_); (first | assumption | omega | decide | (simp only [S_len] at *; omega))) | ((with_reducible refine rc_lenStr ?_); (first | assumption | omega | decide | (simp only [S_len] at *; omega))) | ((with_reducible refine rv_catSS ?_); (first | assumption | omega | decide | (simp only [S_len] at *; omega))) | (with_reducible exact rv_eq rfl) | (with_reducible exact rv_ne rfl) | ((with_reducible refine rc_lenS ?_); (first | assumption | omega | decide | (simp only [S_len] at *; omega))) | ((with_reducible refine rc_lenL ?_); assumption) | ((with_reducible apply rv_ixL); assumption; rfl) | ((with_reducible refine rv_catS ?_); (first | assumption | omega | decide | (simp only [S_len] at *; omega))) | ((with_reducible refine rv_I ?_); (first | (show (0 : Int) < _; (first | assumption | omega | decide | (simp only [S_len] at *; omega))) | exact .inr ⟨by decide, by decide⟩ | exact .inl ⟨by (first | assumption | omega | decide | (simp only [S_len] at *; omega)), by (first | assumption | omega | decide | (simp only [S_len] at *; omega))⟩ | exact .inr ⟨by (first | assumption | omega | decide | (simp only [S_len] at *; omega)), by (first | assumption | omega | decide | (simp only [S_len] at *; omega))⟩ | exact ⟨by decide, by decide, by decide⟩ | exact wide_div (b := 128) (by (first | assumption | omega | decide | (simp only [S_len] at *; omega))) (by (first | assumption | omega | decide | (simp only [S_len] at *; omega))) (by decide) (by decide))))))) (fun hc H6 e6 => ?_) (fun hc H6 e6 => ⟨e1.trans (ExB.of e6), b5.ex e6, far, rfl⟩)
      refine sp_take_then (b := b) (many := 1000000000) rfl (b5.ex e6) (by exact ev_pow10 (by decide) (by decide) (by decide)) (by decide) (by decide) fun d H7 d0 d1 e7 b7 => ?_
      refine ev_pow10 (v := 100000000000000000000) (by decide) (by decide) (by decide) H7 (Ex.refl H7) _ fun H8 e8 => ?_
      refine ⟨_, _, rfl, rfl, .inl ⟨by omega, by omega⟩, ?_⟩
      refine sp_take_then (b := b) (many := 1000000000) rfl (b7.ex e8) (by exact ev_pow10 (by decide) (by decide) (by decide)) (by decide) (by decide) fun d2 H9 d20 d21 e9 b9 => ?_
      refine ev_pow10 (v := 10000000000) (by decide) (by decide) (by decide) H9 (Ex.refl H9) _ fun H10 e10 => ?_
      refine ⟨_, _, rfl, rfl, .inl ⟨by omega, by omega⟩, ?_⟩
      refine ⟨_, _, rfl, rfl, ?_⟩
      have hfar : Ev (tOp (rI (fun x j => 0 < j) fun i j => V.int (i % j)) (tCB (fun xs H Q => (∃ i, xs = [V.int i] ∧ Q (V.int i) H) ∨ ∃ k, xs = [V.bl k] ∧ Q (V.int (if k = true then 1 else 0)) H) (tCons (tVar 3) tNil)) (tOp (rI CPow fun i j => V.int (i ^ j.toNat)) (tC (V.int 10)) (tC (V.int 10)))) [some (.ref b), some (.int n), some (.int m), some (.int far)] H10 (.int (far % 10000000000)) := ev_op (by repeat' (first | ((with_reducible refine ev_pow10 ?_ ?_ ?_) <;> first | rfl | decide) | (with_reducible refine fun (_ : _ = true) => ?_) | (with_reducible refine fun (_ : _ = false) => ?_) | (with_reducible exact ev_c) | ((with_reducible apply ev_var); rfl) | (with_reducible apply ev_op) | (with_reducible apply ev_un) | (with_reducible apply ev_cb) | (with_reducible apply ea_cons) | (with_reducible apply ev_andV) | (with_reducible apply ev_orV) | (with_reducible apply ev_notV) | (with_reducible apply ev_if) | (with_reducible apply eo_some) | (with_reducible apply el_lst) | (with_reducible exact ea_nil) | (with_reducible exact rv_I0) | (with_reducible exact ru_neg) | (with_reducible exact rv_ltS) | (with_reducible exact rv_inC) | (with_reducible exact rv_notInC) | (with_reducible exact rc_intI) | (with_reducible exact rc_intB) | (with_reducible exact rc_min2) | (with_reducible exact rc_isStr) | (with_reducible exact eo_none) | (with_reducible exact rv_inSS) | (with_reducible exact rv_notInSS) | (with_reducible exact rv_ltSS) | (with_reducible exact rv_eqSS) | (with_reducible exact rv_eqII) | (with_reducible exact rv_neII) | (with_reducible exact rv_neSS) | ((with_reducible refine rc_lenSS ?_); (first | assumption | omega | decide | (simp only [S_len] at *; omega))) | ((with_reducible refine rc_lenStr ?_); (first | assumption | omega | decide | (simp only [S_len] at *; omega))) | ((with_reducible refine rv_catSS ?_); (first | assumption | omega | decide | (simp only [S_len] at *; omega))) | (with_reducible exact rv_eq rfl) | (with_reducible exact rv_ne rfl) | ((with_reducible refine rc_lenS ?_); (first | assumption | omega | decide | (simp only [S_len] at *; omega))) | ((with_reducible refine rc_lenL ?_); assumption) | ((with_reducible apply rv_ixL); assumption; rfl) | ((with_reducible refine rv_catS ?_); (first | assumption | omega | decide | (simp only [S_len] at *; omega))) | ((with_reducible refine rv_I ?_); (first | (show (0 : Int) < _; (first | assumption | omega | decide | (simp only [S_len] at *; omega))) | exact .inr ⟨by decide, by decide⟩ | exact .inl ⟨by (first | assumption | omega | decide | (simp only [S_len] at *; omega)), by (first | assumption | omega | decide | (simp only [S_len] at *; omega))⟩ | exact .inr ⟨by (first | assumption | omega | decide | (simp only [S_len] at *; omega)), by (first | assumption | omega | decide | (simp only [S_len] at *; omega))⟩ | exact ⟨by decide, by decide, by decide⟩ | exact wide_div (b := 128) (by (first | assumption | omega | decide | (simp only [S_len] at *; omega))) (by (first | assumption | omega | decide | (simp only [S_len] at *; omega))) (by decide) (by decide))))) (ev_pow10 (v := 10000000000) (by decide) (by decide) (by decide)) (rv_I (by decide))
      refine hfar H10 (Ex.refl H10) _ fun H11 e11 => ?_
      refine ⟨_, _, rfl, rfl, ?_⟩
      exact ⟨((((e1.trans (ExB.of e6)).trans e7).trans (ExB.of e8)).trans e9).trans (ExB.of (e10.trans e11)), b9.ex (e10.trans e11), _, rfl⟩
    · rintro σ' H' ⟨e, hb', x, rfl⟩
      refine sp_take_then (b := b) (many := 2) rfl hb' (by exact ev_c) (by decide) (by decide) fun d H7 d0 d1 e7 b7 => ?_
      refine ⟨rfl, _, rfl, ?_⟩
      by_cases hd : d = 1
      · subst hd
        exact ⟨_, rfl, _, _, rfl, rfl, q _ H7 (e.trans e7) b7⟩
      · rw [decide_eq_false (show ¬ V.int d = V.int 1 from fun z => hd (by injection z))]
        exact ⟨_, rfl, q _ H7 (e.trans e7) b7⟩
end
end K01
namespace K01
open PySem PySem.Spec PyProof.Rows L2 Lc Evl
section
variable {P : Program} {w : World} {K : PySem.W.Frag} {mg : Str → Option Value} {base : Heap}
def sp_law_row (K : PySem.W.Frag) : Sp := fun vs H Q _ => ∃ (a b : Addr) (ns : List Int), vs = [.ref a, .ref b] ∧ SqL K H a (ns.map V.int) ∧ (∀ H1, ExB b H H1 → SqL K H1 a (ns.map V.int)) ∧ Bx H b ∧ ∀ l H', Good l → l.length ≤ 60 → ExB b H H' → Bx H' b → Q (.str (S l)) H'
theorem bx_ne {H : Hp} {b p : Addr} (h : Bx H b) (hp : H p = none) : b ≠ p := fun z => by
  obtain ⟨i, j, k, h⟩ := h
  rw [z, hp] at h
  cases h
theorem ok_law_row (T : Tx K mg) : OkD P w K mg base 4 d_law_row ps_law_row (sp_law_row K) := by
  refine (h_law_row T).ok sc_law_row (fun vs H Q E h => ?_) (fun cdv A outer s H vs Q E hr h => ⟨_,
      (pss_cons (ps_set (i := 2) sc_law_row.nd rfl (Or.inr rfl) (pe_call (ok_law_alphabet (P := P) (w := w) (base := base) T) (hr.mono (by decide)) (by rfl) (m_law_alphabet T) (k_law_alphabet T) (b_law_alphabet T) .nil passN (pa_cons (pv 1) pa_nil)))
      (pss_cons (ps_set (i := 3) sc_law_row.nd rfl (Or.inl rfl) (pe_call (ok_law_size (P := P) (w := w) (base := base) T) (hr.mono (by decide)) (by rfl) (m_law_size T) (k_law_size T) (b_law_size T) .nil passN (pa_cons (pv 1) pa_nil)))
      (pss_cons (ps_set (i := 4) sc_law_row.nd rfl (Or.inr rfl) (pv 3))
      (Evl.pss_cut (ps_if (pt_cmpR op_eq (pe_call (ok_law_take (P := P) (w := w) (base := base) T) (hr.mono (by decide)) (by rfl) (m_law_take T) (k_law_take T) (b_law_take T) .nil passN (pa_cons (pv 1) (pa_cons pe_int pa_nil))) pe_int (nomark _)) (pss_one (ps_set (i := 4) sc_law_row.nd rfl (Or.inr rfl) (pe_op op_add pe_int (pe_call (ok_law_take (P := P) (w := w) (base := base) T) (hr.mono (by decide)) (by rfl) (m_law_take T) (k_law_take T) (b_law_take T) .nil passN (pa_cons (pv 1) (pa_cons pe_int pa_nil)))))) pss_nil)
      (pss_cons (ps_set (i := 5) sc_law_row.nd rfl (Or.inr rfl) (pe_call (ok_law_box (P := P) (w := w) (base := base) T) (hr.mono (by decide)) (by rfl) (m_law_box T) (k_law_box T) (b_law_box T) .nil passN (pa_cons (pv 0) (pa_cons pe_int pa_nil))))
      (pss_cons (ps_set (i := 6) sc_law_row.nd rfl (Or.inr rfl) (pe_lc (own := [("at", 8)]) (g := gName 8) rfl sc_law_row.nd (pi_range1 rfl (m_range T) (pa_cons (pe_callB (call_min2 rfl) (by rfl) (m_min T) (by decide +kernel) (pa_cons (pv 4) (pa_cons (pv 3) pa_nil))) pa_nil)) (blkOk_by (own := [("at", 8)]) (N := ns_law_row) (sc := defScope st_law_row) (by decide +kernel)) (fun _ _ _ _ _ => pg_name (i := 8) sc_law_row.nd rfl (Or.inl rfl)) (fun _ _ _ _ _ => pts_nil) (fun _ _ _ _ _ => (pe_ix ix_str (pv 2) (pe_call (ok_law_take (P := P) (w := w) (base := base) T) (hr.mono (by decide)) (by rfl) (m_law_take T) (k_law_take T) (b_law_take T) .nil passN (pa_cons (pv 5) (pa_cons (pe_callB call_len_str (by rfl) (m_len T) (by decide +kernel) (pa_cons (pv 2) pa_nil)) pa_nil))) (fun _ _ => rfl)))))
      (pss_cons (ps_set (i := 7) sc_law_row.nd rfl (Or.inl rfl) (pe_join pe_str (pe_lc (own := [("at", 8)]) (g := gName 8) rfl sc_law_row.nd (pi_range1 rfl (m_range T) (pa_cons (pv 3) pa_nil)) (blkOk_by (own := [("at", 8)]) (N := ns_law_row) (sc := defScope st_law_row) (by decide +kernel)) (fun _ _ _ _ _ => pg_name (i := 8) sc_law_row.nd rfl (Or.inl rfl)) (fun _ _ _ _ _ => pts_nil) (fun _ _ _ _ _ => (pe_ix (show IxR _ (rIxL K) from ix_list) (pv 6) (pe_op op_mod (pe_callTy call_int1 (by rfl) (m_int T) (by decide +kernel) (pa_cons (pv 8) pa_nil)) (pv 4)) (fun _ _ => rfl))))))
      (Evl.pss_cut (ps_if (PW.pt (pw_and (pt_cmpR op_gt (pv 3) pe_int (nomark _)) (pw_and1 (pt_cmpR op_eq (pe_call (ok_law_take (P := P) (w := w) (base := base) T) (hr.mono (by decide)) (by rfl) (m_law_take T) (k_law_take T) (b_law_take T) .nil passN (pa_cons (pv 1) (pa_cons pe_int pa_nil))) pe_int (nomark _))))) (pss_cons (ps_set (i := 8) sc_law_row.nd rfl (Or.inl rfl) (pe_call (ok_law_take (P := P) (w := w) (base := base) T) (hr.mono (by decide)) (by rfl) (m_law_take T) (k_law_take T) (b_law_take T) .nil passN (pa_cons (pv 1) (pa_cons (pv 3) pa_nil))))
      (pss_one (ps_set (i := 7) sc_law_row.nd rfl (Or.inl rfl) (pe_op op_add_str (pe_op op_add_str (pe_slice sl_str (pv 7) po_none (po_some (pv 8))) (pe_ix ix_str (pv 2) (pe_call (ok_law_take (P := P) (w := w) (base := base) T) (hr.mono (by decide)) (by rfl) (m_law_take T) (k_law_take T) (b_law_take T) .nil passN (pa_cons (pv 1) (pa_cons (pe_callB call_len_str (by rfl) (m_len T) (by decide +kernel) (pa_cons (pv 2) pa_nil)) pa_nil))) (fun _ _ => rfl))) (pe_slice sl_str (pv 7) (po_some (pe_op op_add (pv 8) pe_int)) po_none))))) pss_nil)
      (pss_one (ps_ret (pv 7))))))))))), ?_⟩)
  · obtain ⟨a, b, ns, rfl, _⟩ := h
    rfl
  · obtain ⟨a, b, ns, rfl, hs, hab, hb, q⟩ := h
    simp only [kc_2, kc_4, kc_5, kc_6, kc_7, kc_8, kc_9, kc_10, kc_11, kc_12]
    refine ⟨_, rfl, b, rfl, hb, fun al H1 ag ap al1 e1 b1 => ?_⟩
    refine ⟨_, rfl, b, rfl, b1, fun n H2 n0 n1 e2 b2 => ?_⟩
    replace e1 := e1.trans e2
    dsimp only
    refine q_asg (v := .int n) (by repeat' (first | ((with_reducible refine ev_pow10 ?_ ?_ ?_) <;> first | rfl | decide) | (with_reducible refine fun (_ : _ = true) => ?_) | (with_reducible refine fun (_ : _ = false) => ?_) | (with_reducible exact ev_c) | ((with_reducible apply ev_var); rfl) | (with_reducible apply ev_op) | (with_reducible apply ev_un) | (with_reducible apply ev_cb) | (with_reducible apply ea_cons) | (with_reducible apply ev_andV) | (with_reducible apply ev_orV) | (with_reducible apply ev_notV) | (with_reducible apply ev_if) | (with_reducible apply eo_some) | (with_reducible apply el_lst) | (with_reducible exact ea_nil) | (with_reducible exact rv_I0) | (with_reducible exact ru_neg) | (with_reducible exact rv_ltS) | (with_reducible exact rv_inC) | (with_reducible exact rv_notInC) | (with_reducible exact rc_intI) | (with_reducible exact rc_intB) | (with_reducible exact rc_min2) | (with_reducible exact rc_isStr) | (with_reducible exact eo_none) | (with_reducible exact rv_inSS) | (with_reducible exact rv_notInSS) | (with_reducible exact rv_ltSS) | (with_reducible exact rv_eqSS) | (with_reducible exact rv_eqII) | (with_reducible exact rv_neII) | (with_reducible exact rv_neSS) | ((with_reducible refine rc_lenSS ?_); (first | assumption | omega | decide | (simp only [S_len] at *; omega))) | ((with_reducible refine rc_lenStr ?_); (first | assumption | omega | decide | (simp only [S_len] at *; omega))) | ((with_reducible refine rv_catSS ?_); (first | assumption | omega | decide | (simp only [S_len] at *; omega))) | (with_reducible exact rv_eq rfl) | (with_reducible exact rv_ne rfl) | ((with_reducible refine rc_lenS ?_); (first | assumption | omega | decide | (simp only [S_len] at *; omega))) | ((with_reducible refine rc_lenL ?_); assumption) | ((with_reducible apply rv_ixL); assumption; rfl) | ((with_reducible refine rv_catS ?_); (first | assumption | omega | decide | (simp only [S_len] at *; omega))) | ((with_reducible refine rv_I ?_); (first | (show (0 : Int) < _; (first | assumption | omega | decide | (simp only [S_len] at *; omega))) | exact .inr ⟨by decide, by decide⟩ | exact .inl ⟨by (first | assumption | omega | decide | (simp only [S_len] at *; omega)), by (first | assumption | omega | decide | (simp only [S_len] at *; omega))⟩ | exact .inr ⟨by (first | assumption | omega | decide | (simp only [S_len] at *; omega)), by (first | assumption | omega | decide | (simp only [S_len] at *; omega))⟩ | exact ⟨by decide, by decide, by decide⟩ | exact wide_div (b := 128) (by (first | assumption | omega | decide | (simp only [S_len] at *; omega))) (by (first | assumption | omega | decide | (simp only [S_len] at *; omega))) (by decide) (by decide))))) fun H3 e3 => ?_
    replace e1 := e1.trans (ExB.of e3)
    replace b2 := b2.ex e3
    refine ⟨fun σ' H' => ExB b H H' ∧ Bx H' b ∧ ∃ u : Int, 0 ≤ u ∧ u ≤ 60 ∧ (0 < n → 0 < u) ∧ σ' = [some (.ref a), some (.ref b), some (.str (S al)), some (.int n), some (.int u), none, none, none, none], ?_, ?_⟩
    · refine sp_take_then (b := b) (many := 2) rfl b2 (by exact ev_c) (by decide) (by decide) fun d H4 d0 d1 e4 b4 => ?_
      refine ⟨rfl, _, rfl, ?_⟩
      by_cases hd : d = 1
      · subst hd
        refine sp_take_then (b := b) (many := 6) rfl b4 (by exact ev_c) (by decide) (by decide) fun d2 H5 d20 d21 e5 b5 => ?_
        exact ⟨_, _, rfl, rfl, (e1.trans e4).trans e5, b5, 1 + d2, by omega, by omega, fun _ => by omega, rfl⟩
      · rw [decide_eq_false (show ¬ V.int d = V.int 1 from fun z => hd (by injection z))]
        exact ⟨e1.trans e4, b4, n, n0, n1, fun z => z, rfl⟩
    · rintro σ' H' ⟨e, hb', u, u0, u1, hu, rfl⟩
      have hsa := hab _ e
      refine ⟨_, rfl, a, ns, 1, rfl, hsa, by decide, by decide, fun p H1' hp e1' bp => ?_⟩
      dsimp only
      have hbp := bx_ne hb' hp
      have hb1 := hb'.ex e1'
      have em := e.trans (ExB.of e1')
      clear e1 e2 e3 b1 b2 H1 H2 H3
      generalize H1' = H1 at *
      -- the part
      let m : Int := if n < u then n else u
      have hm0 : 0 ≤ m := by show 0 ≤ (if n < u then n else u); split <;> omega
      have hm1 : m ≤ 60 := by show (if n < u then n else u) ≤ 60; split <;> omega
      refine ⟨_, rfl, _, rfl, _, _, rfl, m, rfl, by omega, by omega, fun D hD => ?_⟩
      refine lc_range (lo := 0) (n := m.toNat) (fun i H' => ∃ cs : List Nat, cs.length = i ∧ (∀ c ∈ cs, c ∈ al) ∧ H' D = some (.lst (cs.map fun c => V.str (S [c]))) ∧ ExB p H1 H' ∧ Bx H' p) ⟨[], rfl, by simp, upd_same, (ExB.of (Ex.new hD)), bp.ex (Ex.new hD)⟩ ?_ ?_
      · rintro i H' hi ⟨cs, rfl, hca, hDl, ep, bp'⟩
        refine ⟨rfl, ?_⟩
        refine ⟨_, rfl, ?_⟩
        refine sp_take_then (b := p) (many := (al.length : Int)) rfl bp' (by repeat' (first | ((with_reducible refine ev_pow10 ?_ ?_ ?_) <;> first | rfl | decide) | (with_reducible refine fun (_ : _ = true) => ?_) | (with_reducible refine fun (_ : _ = false) => ?_) | (with_reducible exact ev_c) | ((with_reducible apply ev_var); rfl) | (with_reducible apply ev_op) | (with_reducible apply ev_un) | (with_reducible apply ev_cb) | (with_reducible apply ea_cons) | (with_reducible apply ev_andV) | (with_reducible apply ev_orV) | (with_reducible apply ev_notV) | (with_reducible apply ev_if) | (with_reducible apply eo_some) | (with_reducible apply el_lst) | (with_reducible exact ea_nil) | (with_reducible exact rv_I0) | (with_reducible exact ru_neg) | (with_reducible exact rv_ltS) | (with_reducible exact rv_inC) | (with_reducible exact rv_notInC) | (with_reducible exact rc_intI) | (with_reducible exact rc_intB) | (with_reducible exact rc_min2) | (with_reducible exact rc_isStr) | (with_reducible exact eo_none) | (with_reducible exact rv_inSS) | (with_reducible exact rv_notInSS) | (with_reducible exact rv_ltSS) | (with_reducible exact rv_eqSS) | (with_reducible exact rv_eqII) | (with_reducible exact rv_neII) | (with_reducible exact rv_neSS) | ((with_reducible refine rc_lenSS ?_); (first | assumption | omega | decide | (simp only [S_len] at *; omega))) | ((with_reducible refine rc_lenStr ?_); (first | assumption | omega | decide | (simp only [S_len] at *; omega))) | ((with_reducible refine rv_catSS ?_); (first | assumption | omega | decide | (simp only [S_len] at *; omega))) | (with_reducible exact rv_eq rfl) | (with_reducible exact rv_ne rfl) | ((with_reducible refine rc_lenS ?_); (first | assumption | omega | decide | (simp only [S_len] at *; omega))) | ((with_reducible refine rc_lenL ?_); assumption) | ((with_reducible apply rv_ixL); assumption; rfl) | ((with_reducible refine rv_catS ?_); (first | assumption | omega | decide | (simp only [S_len] at *; omega))) | ((with_reducible refine rv_I ?_); (first | (show (0 : Int) < _; (first | assumption | omega | decide | (simp only [S_len] at *; omega))) | exact .inr ⟨by decide, by decide⟩ | exact .inl ⟨by (first | assumption | omega | decide | (simp only [S_len] at *; omega)), by (first | assumption | omega | decide | (simp only [S_len] at *; omega))⟩ | exact .inr ⟨by (first | assumption | omega | decide | (simp only [S_len] at *; omega)), by (first | assumption | omega | decide | (simp only [S_len] at *; omega))⟩ | exact ⟨by decide, by decide, by decide⟩ | exact wide_div (b := 128) (by (first | assumption | omega | decide | (simp only [S_len] at *; omega))) (by (first | assumption | omega | decide | (simp only [S_len] at *; omega))) (by decide) (by decide))))) (by omega) (Nat.lt_of_le_of_lt (show (al.length : Int).natAbs ≤ 11 by omega) (by decide)) fun d H2 d0 d1 e2 b2 => ?_
        refine ⟨S al, d, al.getD d.toNat 0, rfl, rfl, sz_of (by rw [S_len]; omega), atI_i d0 (by exact d1) 0, ?_⟩
        have hDp : D ≠ p := fun z => by
          obtain ⟨x, y, w3, h3⟩ := bp
          rw [z, h3] at hD
          cases hD
        refine ⟨_, e2 D _ hDp hDl, Nat.lt_of_lt_of_le (show _ < 100 by rw [List.length_map]; omega) (by decide), cs ++ [al.getD d.toNat 0], by simp, ?_, ?_, ?_, ?_⟩
        · intro c hc
          rcases List.mem_append.mp hc with hc | hc
          · exact hca c hc
          · have hc2 : c = al.getD d.toNat 0 := by simpa using hc
            rw [hc2, List.getD_eq_getElem?_getD, List.getElem?_eq_getElem (show d.toNat < al.length by omega)]
            exact List.getElem_mem _
        · rw [upd_same, List.map_append]
          rfl
        · intro c o hc ho
          have hcD : c ≠ D := fun z => by rw [z, hD] at ho; cases ho
          rw [upd_ne hcD]
          exact e2 c o hc (ep c o hc ho)
        · obtain ⟨x, y, z, h3⟩ := b2
          exact ⟨x, y, z, by rw [upd_ne (Ne.symm hDp)]; exact h3⟩
      · rintro H' ⟨cs, hcl, hca, hDl, ep, bp'⟩
        have hbH := ep.bx hbp hb1
        have eH : ExB b H H' := fun c o hc ho => by
          have h1 := e c o hc ho
          have hcp : c ≠ p := fun z => by rw [z, hp] at h1; cases h1
          exact ep c o hcp (e1' c o h1)
        have hmn : m ≤ n ∧ m ≤ u ∧ (m = n ∨ m = u) := by
          show (if n < u then n else u) ≤ n ∧ (if n < u then n else u) ≤ u ∧ ((if n < u then n else u) = n ∨ (if n < u then n else u) = u)
          split <;> omega
        generalize m = m at hcl hmn hm0 hm1
        dsimp only
        have hrl : ∀ c ∈ (List.range n.toNat).map (fun (i : Nat) => cs.getD ((i : Int) % u).toNat 0), c ∈ SG := fun c hc => by
          obtain ⟨i, hi, rfl⟩ := List.mem_map.mp hc
          have hi2 := List.mem_range.mp hi
          have hup := hu (by omega)
          have k0 := Int.emod_nonneg (i : Int) (show u ≠ 0 by omega)
          have k1 := Int.emod_lt_of_pos (i : Int) hup
          have k2 : (i : Int) % u ≤ i := emod_le_nat i hup
          exact ag _ (hca _ (getD_in (by omega)))
        generalize hrle : (List.range n.toNat).map (fun (i : Nat) => cs.getD ((i : Int) % u).toNat 0) = rl at hrl
        have hrll : rl.length ≤ 60 := by
          rw [← hrle, List.length_map, List.length_range]
          omega
        refine q_asg (v := .str (Txt.join (S []) (rl.map fun c => S [c]))) (ev_join (by exact ev_c) ?_ (join_sz _ (by omega))) fun H2 e2 => ?_
        · have h := el_lcR1 (σ := [some (.ref a), some (.ref b), some (.str (S al)), some (.int n), some (.int u), some (.ref p), some (.ref D), none, none]) (H := H') (j := 8) (vs := [8]) (t := tYes) (te := tOp (rIxL K) (tVar 6) (tOp (rI (fun x j => 0 < j) fun i j => V.int (i % j)) (tCB (fun xs H Q => (∃ i, xs = [V.int i] ∧ Q (V.int i) H) ∨ ∃ k, xs = [V.bl k] ∧ Q (V.int (if k = true then 1 else 0)) H) (tCons (tVar 8) tNil)) (tVar 4)))
            (ta := tCons (tVar 3) tNil) (fun _ => true) (fun i => V.str (S [cs.getD ((i : Int) % u).toNat 0])) (n := n) (by repeat' (first | ((with_reducible refine ev_pow10 ?_ ?_ ?_) <;> first | rfl | decide) | (with_reducible refine fun (_ : _ = true) => ?_) | (with_reducible refine fun (_ : _ = false) => ?_) | (with_reducible exact ev_c) | ((with_reducible apply ev_var); rfl) | (with_reducible apply ev_op) | (with_reducible apply ev_un) | (with_reducible apply ev_cb) | (with_reducible apply ea_cons) | (with_reducible apply ev_andV) | (with_reducible apply ev_orV) | (with_reducible apply ev_notV) | (with_reducible apply ev_if) | (with_reducible apply eo_some) | (with_reducible apply el_lst) | (with_reducible exact ea_nil) | (with_reducible exact rv_I0) | (with_reducible exact ru_neg) | (with_reducible exact rv_ltS) | (with_reducible exact rv_inC) | (with_reducible exact rv_notInC) | (with_reducible exact rc_intI) | (with_reducible exact rc_intB) | (with_reducible exact rc_min2) | (with_reducible exact rc_isStr) | (with_reducible exact eo_none) | (with_reducible exact rv_inSS) | (with_reducible exact rv_notInSS) | (with_reducible exact rv_ltSS) | (with_reducible exact rv_eqSS) | (with_reducible exact rv_eqII) | (with_reducible exact rv_neII) | (with_reducible exact rv_neSS) | ((with_reducible refine rc_lenSS ?_); (first | assumption | omega | decide | (simp only [S_len] at *; omega))) | ((with_reducible refine rc_lenStr ?_); (first | assumption | omega | decide | (simp only [S_len] at *; omega))) | ((with_reducible refine rv_catSS ?_); (first | assumption | omega | decide | (simp only [S_len] at *; omega))) | (with_reducible exact rv_eq rfl) | (with_reducible exact rv_ne rfl) | ((with_reducible refine rc_lenS ?_); (first | assumption | omega | decide | (simp only [S_len] at *; omega))) | ((with_reducible refine rc_lenL ?_); assumption) | ((with_reducible apply rv_ixL); assumption; rfl) | ((with_reducible refine rv_catS ?_); (first | assumption | omega | decide | (simp only [S_len] at *; omega))) | ((with_reducible refine rv_I ?_); (first | (show (0 : Int) < _; (first | assumption | omega | decide | (simp only [S_len] at *; omega))) | exact .inr ⟨by decide, by decide⟩ | exact .inl ⟨by (first | assumption | omega | decide | (simp only [S_len] at *; omega)), by (first | assumption | omega | decide | (simp only [S_len] at *; omega))⟩ | exact .inr ⟨by (first | assumption | omega | decide | (simp only [S_len] at *; omega)), by (first | assumption | omega | decide | (simp only [S_len] at *; omega))⟩ | exact ⟨by decide, by decide, by decide⟩ | exact wide_div (b := 128) (by (first | assumption | omega | decide | (simp only [S_len] at *; omega))) (by (first | assumption | omega | decide | (simp only [S_len] at *; omega))) (by decide) (by decide))))) (by omega) (fun x => rfl) (fun i H2 _ _ => et_yes)
            (fun i H2 e2 hi _ => by
              have hup := hu (by omega)
              have k0 := Int.emod_nonneg (i : Int) (show u ≠ 0 by omega)
              have k1 := Int.emod_lt_of_pos (i : Int) hup
              have k2 := emod_le_nat i hup
              have ha := atI_i (xs := cs.map fun c => V.str (S [c])) k0 (by rw [List.length_map]; omega) (V.str (S [0]))
              rw [getD_map_str] at ha
              exact ev_op (ev_var rfl) (y := .int ((i : Int) % u)) (by repeat' (first | ((with_reducible refine ev_pow10 ?_ ?_ ?_) <;> first | rfl | decide) | (with_reducible refine fun (_ : _ = true) => ?_) | (with_reducible refine fun (_ : _ = false) => ?_) | (with_reducible exact ev_c) | ((with_reducible apply ev_var); rfl) | (with_reducible apply ev_op) | (with_reducible apply ev_un) | (with_reducible apply ev_cb) | (with_reducible apply ea_cons) | (with_reducible apply ev_andV) | (with_reducible apply ev_orV) | (with_reducible apply ev_notV) | (with_reducible apply ev_if) | (with_reducible apply eo_some) | (with_reducible apply el_lst) | (with_reducible exact ea_nil) | (with_reducible exact rv_I0) | (with_reducible exact ru_neg) | (with_reducible exact rv_ltS) | (with_reducible exact rv_inC) | (with_reducible exact rv_notInC) | (with_reducible exact rc_intI) | (with_reducible exact rc_intB) | (with_reducible exact rc_min2) | (with_reducible exact rc_isStr) | (with_reducible exact eo_none) | (with_reducible exact rv_inSS) | (with_reducible exact rv_notInSS) | (with_reducible exact rv_ltSS) | (with_reducible exact rv_eqSS) | (with_reducible exact rv_eqII) | (with_reducible exact rv_neII) | (with_reducible exact rv_neSS) | ((with_reducible refine rc_lenSS ?_); (first | assumption | omega | decide | (simp only [S_len] at *; omega))) | ((with_reducible refine rc_lenStr ?_); (first | assumption | omega | decide | (simp only [S_len] at *; omega))) | ((with_reducible refine rv_catSS ?_); (first | assumption | omega | decide | (simp only [S_len] at *; omega))) | (with_reducible exact rv_eq rfl) | (with_reducible exact rv_ne rfl) | ((with_reducible refine rc_lenS ?_); (first | assumption | omega | decide | (simp only [S_len] at *; omega))) | ((with_reducible refine rc_lenL ?_); assumption) | ((with_reducible apply rv_ixL); assumption; rfl) | ((with_reducible refine rv_catS ?_); (first | assumption | omega | decide | (simp only [S_len] at *; omega))) | ((with_reducible refine rv_I ?_); (first | (show (0 : Int) < _; (first | assumption | omega | decide | (simp only [S_len] at *; omega))) | exact .inr ⟨by decide, by decide⟩ | exact .inl ⟨by (first | assumption | omega | decide | (simp only [S_len] at *; omega)), by (first | assumption | omega | decide | (simp only [S_len] at *; omega))⟩ | exact .inr ⟨by (first | assumption | omega | decide | (simp only [S_len] at *; omega)), by (first | assumption | omega | decide | (simp only [S_len] at *; omega))⟩ | exact ⟨by decide, by decide, by decide⟩ | exact wide_div (b := 128) (by (first | assumption | omega | decide | (simp only [S_len] at *; omega))) (by (first | assumption | omega | decide | (simp only [S_len] at *; omega))) (by decide) (by decide))))) (rv_ixL (ex_l e2 (SqL.of hDl)) ha))
          rw [given_all] at h
          rw [← hrle, List.map_map, List.map_map]
          exact h
        rw [join_S]
        refine ⟨fun σ' H' => ExB b H H' ∧ Bx H' b ∧ ∃ l' : List Nat, Good l' ∧ l'.length ≤ 60 ∧ σ'[7]? = some (some (.str (S l'))), ?_, ?_⟩
        · have eH2 := eH.trans (ExB.of e2)
          have hb2 := hbH.ex e2
          refine ⟨_, rfl, _, _, rfl, rfl, _, rfl, ?_⟩
          by_cases hn : 0 < n
          · rw [decide_eq_true hn]
            refine iteT ?_
            refine sp_take_then (b := b) (many := 3) rfl hb2 (by exact ev_c) (by decide) (by decide) fun d H4 d0 d1 e4 b4 => ?_
            refine ⟨rfl, _, rfl, ?_⟩
            by_cases hd : d = 1
            · subst hd
              refine sp_take_then (b := b) (many := n) rfl b4 (by repeat' (first | ((with_reducible refine ev_pow10 ?_ ?_ ?_) <;> first | rfl | decide) | (with_reducible refine fun (_ : _ = true) => ?_) | (with_reducible refine fun (_ : _ = false) => ?_) | (with_reducible exact ev_c) | ((with_reducible apply ev_var); rfl) | (with_reducible apply ev_op) | (with_reducible apply ev_un) | (with_reducible apply ev_cb) | (with_reducible apply ea_cons) | (with_reducible apply ev_andV) | (with_reducible apply ev_orV) | (with_reducible apply ev_notV) | (with_reducible apply ev_if) | (with_reducible apply eo_some) | (with_reducible apply el_lst) | (with_reducible exact ea_nil) | (with_reducible exact rv_I0) | (with_reducible exact ru_neg) | (with_reducible exact rv_ltS) | (with_reducible exact rv_inC) | (with_reducible exact rv_notInC) | (with_reducible exact rc_intI) | (with_reducible exact rc_intB) | (with_reducible exact rc_min2) | (with_reducible exact rc_isStr) | (with_reducible exact eo_none) | (with_reducible exact rv_inSS) | (with_reducible exact rv_notInSS) | (with_reducible exact rv_ltSS) | (with_reducible exact rv_eqSS) | (with_reducible exact rv_eqII) | (with_reducible exact rv_neII) | (with_reducible exact rv_neSS) | ((with_reducible refine rc_lenSS ?_); (first | assumption | omega | decide | (simp only [S_len] at *; omega))) | ((with_reducible refine rc_lenStr ?_); (first | assumption | omega | decide | (simp only [S_len] at *; omega))) | ((with_reducible refine rv_catSS ?_); (first | assumption | omega | decide | (simp only [S_len] at *; omega))) | (with_reducible exact rv_eq rfl) | (with_reducible exact rv_ne rfl) | ((with_reducible refine rc_lenS ?_); (first | assumption | omega | decide | (simp only [S_len] at *; omega))) | ((with_reducible refine rc_lenL ?_); assumption) | ((with_reducible apply rv_ixL); assumption; rfl) | ((with_reducible refine rv_catS ?_); (first | assumption | omega | decide | (simp only [S_len] at *; omega))) | ((with_reducible refine rv_I ?_); (first | (show (0 : Int) < _; (first | assumption | omega | decide | (simp only [S_len] at *; omega))) | exact .inr ⟨by decide, by decide⟩ | exact .inl ⟨by (first | assumption | omega | decide | (simp only [S_len] at *; omega)), by (first | assumption | omega | decide | (simp only [S_len] at *; omega))⟩ | exact .inr ⟨by (first | assumption | omega | decide | (simp only [S_len] at *; omega)), by (first | assumption | omega | decide | (simp only [S_len] at *; omega))⟩ | exact ⟨by decide, by decide, by decide⟩ | exact wide_div (b := 128) (by (first | assumption | omega | decide | (simp only [S_len] at *; omega))) (by (first | assumption | omega | decide | (simp only [S_len] at *; omega))) (by decide) (by decide))))) hn (Nat.lt_of_le_of_lt (show n.natAbs ≤ 60 by omega) (by decide)) fun at_ H5 a0 a1 e5 b5 => ?_
              obtain ⟨k, rfl⟩ : ∃ k : Nat, at_ = (k : Int) := ⟨at_.toNat, by omega⟩
              have hA : Ev (tSl rSlS (tVar 7) tNoPart (tPart (tVar 8))) [some (.ref a), some (.ref b), some (.str (S al)), some (.int n), some (.int u), some (.ref p), some (.ref D), some (.str (S rl)), some (.int (k : Int))] H5 (.str (S (rl.take k))) := by
                have h := ev_slS (σ := [some (.ref a), some (.ref b), some (.str (S al)), some (.int n), some (.int u), some (.ref p), some (.ref D), some (.str (S rl)), some (.int (k : Int))]) (H := H5) (te := tVar 7) (tl := tNoPart) (th := tPart (tVar 8)) (w := S rl) (lo := none) (hi := some (k : Int)) (ev_var rfl) eo_none (eo_some (ev_var rfl)) (by rw [S_len]; omega)
                rw [cut_to] at h
                exact h
              have hB : ∀ H6, Ev (tSl rSlS (tVar 7) (tPart (tOp (rI0 fun i j => V.int (i + j)) (tVar 8) (tC (V.int 1)))) tNoPart) [some (.ref a), some (.ref b), some (.str (S al)), some (.int n), some (.int u), some (.ref p), some (.ref D), some (.str (S rl)), some (.int (k : Int))] H6 (.str (S (rl.drop (k + 1)))) := fun H6 => by
                have h := ev_slS (σ := [some (.ref a), some (.ref b), some (.str (S al)), some (.int n), some (.int u), some (.ref p), some (.ref D), some (.str (S rl)), some (.int (k : Int))]) (H := H6) (te := tVar 7) (tl := tPart (tOp (rI0 fun i j => V.int (i + j)) (tVar 8) (tC (V.int 1)))) (th := tNoPart) (w := S rl) (lo := some ((k : Int) + 1)) (hi := none) (ev_var rfl) (eo_some (by repeat' (first | ((with_reducible refine ev_pow10 ?_ ?_ ?_) <;> first | rfl | decide) | (with_reducible refine fun (_ : _ = true) => ?_) | (with_reducible refine fun (_ : _ = false) => ?_) | (with_reducible exact ev_c) | ((with_reducible apply ev_var); rfl) | (with_reducible apply ev_op) | (with_reducible apply ev_un) | (with_reducible apply ev_cb) | (with_reducible apply ea_cons) | (with_reducible apply ev_andV) | (with_reducible apply ev_orV) | (with_reducible apply ev_notV) | (with_reducible apply ev_if) | (with_reducible apply eo_some) | (with_reducible apply el_lst) | (with_reducible exact ea_nil) | (with_reducible exact rv_I0) | (with_reducible exact ru_neg) | (with_reducible exact rv_ltS) | (with_reducible exact rv_inC) | (with_reducible exact rv_notInC) | (with_reducible exact rc_intI) | (with_reducible exact rc_intB) | (with_reducible exact rc_min2) | (with_reducible exact rc_isStr) | (with_reducible exact eo_none) | (with_reducible exact rv_inSS) | (with_reducible exact rv_notInSS) | (with_reducible exact rv_ltSS) | (with_reducible exact rv_eqSS) | (with_reducible exact rv_eqII) | (with_reducible exact rv_neII) | (with_reducible exact rv_neSS) | ((with_reducible refine rc_lenSS ?_); (first | assumption | omega | decide | (simp only [S_len] at *; omega))) | ((with_reducible refine rc_lenStr ?_); (first | assumption | omega | decide | (simp only [S_len] at *; omega))) | ((with_reducible refine rv_catSS ?_); (first | assumption | omega | decide | (simp only [S_len] at *; omega))) | (with_reducible exact rv_eq rfl) | (with_reducible exact rv_ne rfl) | ((with_reducible refine rc_lenS ?_); (first | assumption | omega | decide | (simp only [S_len] at *; omega))) | ((with_reducible refine rc_lenL ?_); assumption) | ((with_reducible apply rv_ixL); assumption; rfl) | ((with_reducible refine rv_catS ?_); (first | assumption | omega | decide | (simp only [S_len] at *; omega))) | ((with_reducible refine rv_I ?_); (first | (show (0 : Int) < _; (first | assumption | omega | decide | (simp only [S_len] at *; omega))) | exact .inr ⟨by decide, by decide⟩ | exact .inl ⟨by (first | assumption | omega | decide | (simp only [S_len] at *; omega)), by (first | assumption | omega | decide | (simp only [S_len] at *; omega))⟩ | exact .inr ⟨by (first | assumption | omega | decide | (simp only [S_len] at *; omega)), by (first | assumption | omega | decide | (simp only [S_len] at *; omega))⟩ | exact ⟨by decide, by decide, by decide⟩ | exact wide_div (b := 128) (by (first | assumption | omega | decide | (simp only [S_len] at *; omega))) (by (first | assumption | omega | decide | (simp only [S_len] at *; omega))) (by decide) (by decide)))))) eo_none (by rw [S_len]; omega)
                rw [show (k : Int) + 1 = ((k + 1 : Nat) : Int) by omega, cut_from] at h
                exact h
              refine hA H5 (Ex.refl H5) _ fun H6 e6 => ?_
              refine ⟨_, rfl, ?_⟩
              refine sp_take_then (b := b) (many := (al.length : Int)) rfl (b5.ex e6) (by repeat' (first | ((with_reducible refine ev_pow10 ?_ ?_ ?_) <;> first | rfl | decide) | (with_reducible refine fun (_ : _ = true) => ?_) | (with_reducible refine fun (_ : _ = false) => ?_) | (with_reducible exact ev_c) | ((with_reducible apply ev_var); rfl) | (with_reducible apply ev_op) | (with_reducible apply ev_un) | (with_reducible apply ev_cb) | (with_reducible apply ea_cons) | (with_reducible apply ev_andV) | (with_reducible apply ev_orV) | (with_reducible apply ev_notV) | (with_reducible apply ev_if) | (with_reducible apply eo_some) | (with_reducible apply el_lst) | (with_reducible exact ea_nil) | (with_reducible exact rv_I0) | (with_reducible exact ru_neg) | (with_reducible exact rv_ltS) | (with_reducible exact rv_inC) | (with_reducible exact rv_notInC) | (with_reducible exact rc_intI) | (with_reducible exact rc_intB) | (with_reducible exact rc_min2) | (with_reducible exact rc_isStr) | (with_reducible exact eo_none) | (with_reducible exact rv_inSS) | (with_reducible exact rv_notInSS) | (with_reducible exact rv_ltSS) | (with_reducible exact rv_eqSS) | (with_reducible exact rv_eqII) | (with_reducible exact rv_neII) | (with_reducible exact rv_neSS) | ((with_reducible refine rc_lenSS ?_); (first | assumption | omega | decide | (simp only [S_len] at *; omega))) | ((with_reducible refine rc_lenStr ?_); (first | assumption | omega | decide | (simp only [S_len] at *; omega))) | ((with_reducible refine rv_catSS ?_); (first | assumption | omega | decide | (simp only [S_len] at *; omega))) | (with_reducible exact rv_eq rfl) | (with_reducible exact rv_ne rfl) | ((with_reducible refine rc_lenS ?_); (first | assumption | omega | decide | (simp only [S_len] at *; omega))) | ((with_reducible refine rc_lenL ?_); assumption) | ((with_reducible apply rv_ixL); assumption; rfl) | ((with_reducible refine rv_catS ?_); (first | assumption | omega | decide | (simp only [S_len] at *; omega))) | ((with_reducible refine rv_I ?_); (first | (show (0 : Int) < _; (first | assumption | omega | decide | (simp only [S_len] at *; omega))) | exact .inr ⟨by decide, by decide⟩ | exact .inl ⟨by (first | assumption | omega | decide | (simp only [S_len] at *; omega)), by (first | assumption | omega | decide | (simp only [S_len] at *; omega))⟩ | exact .inr ⟨by (first | assumption | omega | decide | (simp only [S_len] at *; omega)), by (first | assumption | omega | decide | (simp only [S_len] at *; omega))⟩ | exact ⟨by decide, by decide, by decide⟩ | exact wide_div (b := 128) (by (first | assumption | omega | decide | (simp only [S_len] at *; omega))) (by (first | assumption | omega | decide | (simp only [S_len] at *; omega))) (by decide) (by decide))))) (by omega) (Nat.lt_of_le_of_lt (show (al.length : Int).natAbs ≤ 11 by omega) (by decide)) fun d H7 d0 d1 e7 b7 => ?_
              refine ⟨S al, d, al.getD d.toNat 0, rfl, rfl, sz_of (by rw [S_len]; omega), atI_i d0 (by exact d1) 0, ?_⟩
              have hc := getD_in (l := al) (k := d.toNat) (by omega)
              generalize al.getD d.toNat 0 = c at hc
              refine ⟨S (rl.take k), S [c], rfl, rfl, sz_of (by rw [S_len, S_len, List.length_take]; simp; omega), ?_⟩
              rw [S_app]
              refine hB H7 H7 (Ex.refl H7) _ fun H8 e8 => ?_
              refine ⟨S (rl.take k ++ [c]), S (rl.drop (k + 1)), rfl, rfl, sz_of (by rw [S_len, S_len, List.length_append, List.length_take, List.length_drop]; simp; omega), ?_⟩
              rw [S_app]
              refine ⟨((((eH2.trans e4).trans e5).trans (ExB.of e6)).trans e7).trans (ExB.of e8), b7.ex e8, rl.take k ++ [c] ++ rl.drop (k + 1), ?_, ?_, rfl⟩
              · intro x hx
                rcases List.mem_append.mp hx with hx | hx
                · rcases List.mem_append.mp hx with hx | hx
                  · exact hrl x (List.mem_of_mem_take hx)
                  · have hx2 : x = c := by simpa using hx
                    rw [hx2]
                    exact ag c hc
                · exact hrl x (List.mem_of_mem_drop hx)
              · rw [List.length_append, List.length_append, List.length_take, List.length_drop]
                have hnl : rl.length = n.toNat := by rw [← hrle, List.length_map, List.length_range]
                simp
                omega
            · rw [decide_eq_false (show ¬ V.int d = V.int 1 from fun z => hd (by injection z))]
              exact ⟨eH2.trans e4, b4, rl, hrl, hrll, rfl⟩
          · rw [decide_eq_false hn]
            exact iteF ⟨eH2, hb2, rl, hrl, hrll, rfl⟩
        · rintro σ' H3 ⟨e3, b3, l', hg', hl', h7⟩
          exact s_ret (ev_var h7) fun H4 e4 => q l' H4 hg' hl' (e3.trans (ExB.of e4)) (b3.ex e4)
end
end K01
namespace K01
open PySem PySem.Spec PyProof.Rows L2 Lc Evl
section
variable {P : Program} {w : World} {K : PySem.W.Frag} {mg : Str → Option Value} {base : Heap}
/-! ### a row with a strange sign, and what is said of it -/
def sp_law_call (K : PySem.W.Frag) : Sp := fun vs H Q E => ∃ (which : Int) (l : List Nat) (by_ : Int), vs = [.int which, .str (S l), .int by_] ∧ Row l ∧ ¬ Good l ∧ Bad K H E (S l)
theorem Bad.ex {K : PySem.W.Frag} {H H' : Hp} {E : XK} {z : Str} (h : Bad K H E z) (e : Ex H H') : Bad K H' E z := fun d H2 hd e2 hx => h d H2 (fresh_back e hd) (e.trans e2) hx
theorem ok_law_call (T : Tx K mg) : OkD P w K mg base 5 d_law_call ps_law_call (sp_law_call K) := by
  refine (h_law_call T).ok sc_law_call (fun vs H Q E h => ?_) (fun cdv A outer s H vs Q E hr h => ⟨_,
      (pss_cons (ps_if (pt_cmpR op_eq (pv 0) pe_int (nomark _)) (pss_one (ps_ret (pe_callSD (ok_mirror (P := P) (w := w) (base := base) T) (hr.mono (by decide)) (by rfl) (m_mirror T) (k_mirror T) (b_mirror T) .nil (fun σ => L2N.passAt (L2N.takes_of rfl rfl rfl rfl) σ) (pa_cons (pv 1) pa_nil)))) pss_nil)
      (pss_cons (ps_if (pt_cmpR op_eq (pv 0) pe_int (nomark _)) (pss_one (ps_ret (pe_callSD (ok_least_turn (P := P) (w := w) (base := base) T) (hr.mono (by decide)) (by rfl) (m_least_turn T) (k_least_turn T) (b_least_turn T) .nil (fun σ => L2N.passAt (L2N.takes_of rfl rfl rfl rfl) σ) (pa_cons (pv 1) pa_nil)))) pss_nil)
      (pss_one (ps_ret (pe_callSD (ok_turned (P := P) (w := w) (base := base) T) (hr.mono (by decide)) (by rfl) (m_turned T) (k_turned T) (b_turned T) .nil (fun σ => L2N.passAt (L2N.takes_of rfl rfl rfl rfl) σ) (pa_cons (pv 1) (pa_cons (pv 2) pa_nil))))))), ?_⟩)
  · obtain ⟨which, l, by_, rfl, _⟩ := h
    rfl
  · obtain ⟨which, l, by_, rfl, hr1, hg, q⟩ := h
    refine q_when (b := decide (which = 0)) (by first | ((with_reducible apply et_test); (repeat' (first | ((with_reducible refine ev_pow10 ?_ ?_ ?_) <;> first | rfl | decide) | (with_reducible refine fun (_ : _ = true) => ?_) | (with_reducible refine fun (_ : _ = false) => ?_) | (with_reducible exact ev_c) | ((with_reducible apply ev_var); rfl) | (with_reducible apply ev_op) | (with_reducible apply ev_un) | (with_reducible apply ev_cb) | (with_reducible apply ea_cons) | (with_reducible apply ev_andV) | (with_reducible apply ev_orV) | (with_reducible apply ev_notV) | (with_reducible apply ev_if) | (with_reducible apply eo_some) | (with_reducible apply el_lst) | (with_reducible exact ea_nil) | (with_reducible exact rv_I0) | (with_reducible exact ru_neg) | (with_reducible exact rv_ltS) | (with_reducible exact rv_inC) | (with_reducible exact rv_notInC) | (with_reducible exact rc_intI) | (with_reducible exact rc_intB) | (with_reducible exact rc_min2) | (with_reducible exact rc_isStr) | (with_reducible exact eo_none) | (with_reducible exact rv_inSS) | (with_reducible exact rv_notInSS) | (with_reducible exact rv_ltSS) | (with_reducible exact rv_eqSS) | (with_reducible exact rv_eqII) | (with_reducible exact rv_neII) | (with_reducible exact rv_neSS) | ((with_reducible refine rc_lenSS ?_); (first | assumption | omega | decide | (simp only [S_len] at *; omega))) | ((with_reducible refine rc_lenStr ?_); (first | assumption | omega | decide | (simp only [S_len] at *; omega))) | ((with_reducible refine rv_catSS ?_); (first | assumption | omega | decide | (simp only [S_len] at *; omega))) | (with_reducible exact rv_eq rfl) | (with_reducible exact rv_ne rfl) | ((with_reducible refine rc_lenS ?_); (first | assumption | omega | decide | (simp only [S_len] at *; omega))) | ((with_reducible refine rc_lenL ?_); assumption) | ((with_reducible apply rv_ixL); assumption; rfl) | ((with_reducible refine rv_catS ?_); (first | assumption | omega | decide | (simp only [S_len] at *; omega))) | ((with_reducible refine rv_I ?_); (first | (show (0 : Int) < _; (first | assumption | omega | decide | (simp only [S_len] at *; omega))) | exact .inr ⟨by decide, by decide⟩ | exact .inl ⟨by (first | assumption | omega | decide | (simp only [S_len] at *; omega)), by (first | assumption | omega | decide | (simp only [S_len] at *; omega))⟩ | exact .inr ⟨by (first | assumption | omega | decide | (simp only [S_len] at *; omega)), by (first | assumption | omega | decide | (simp only [S_len] at *; omega))⟩ | exact ⟨by decide, by decide, by decide⟩ | exact wide_div (b := 128) (by (first | assumption | omega | decide | (simp only [S_len] at *; omega))) (by (first | assumption | omega | decide | (simp only [S_len] at *; omega))) (by decide) (by decide)))))) | ((with_reducible apply et_B); (repeat' (first | ((with_reducible refine ev_pow10 ?_ ?_ ?_) <;> first | rfl | decide) | (with_reducible refine fun (_ : _ = true) => ?_) | (with_reducible refine fun (_ : _ = false) => ?_) | (with_reducible exact ev_c) | ((with_reducible apply ev_var); rfl) | (with_reducible apply ev_op) | (with_reducible apply ev_un) | (with_reducible apply ev_cb) | (with_reducible apply ea_cons) | (with_reducible apply ev_andV) | (with_reducible apply ev_orV) | (with_reducible apply ev_notV) | (with_reducible apply ev_if) | (with_reducible apply eo_some) | (with_reducible apply el_lst) | (with_reducible exact ea_nil) | (with_reducible exact rv_I0) | (with_reducible exact ru_neg) | (with_reducible exact rv_ltS) | (with_reducible exact rv_inC) | (with_reducible exact rv_notInC) | (with_reducible exact rc_intI) | (with_reducible exact rc_intB) | (with_reducible exact rc_min2) | (with_reducible exact rc_isStr) | (with_reducible exact eo_none) | (with_reducible exact rv_inSS) | (with_reducible exact rv_notInSS) | (with_reducible exact rv_ltSS) | (with_reducible exact rv_eqSS) | (with_reducible exact rv_eqII) | (with_reducible exact rv_neII) | (with_reducible exact rv_neSS) | ((with_reducible refine rc_lenSS ?_); (first | assumption | omega | decide | (simp only [S_len] at *; omega))) | ((with_reducible refine rc_lenStr ?_); (first | assumption | omega | decide | (simp only [S_len] at *; omega))) | ((with_reducible refine rv_catSS ?_); (first | assumption | omega | decide | (simp only [S_len] at *; omega))) | (with_reducible exact rv_eq rfl) | (with_reducible exact rv_ne rfl) | ((with_reducible refine rc_lenS ?_); (first | assumption | omega | decide | (simp only [S_len] at *; omega))) | ((with_reducible refine rc_lenL ?_); assumption) | ((with_reducible apply rv_ixL); assumption; rfl) | ((with_reducible refine rv_catS ?_); (first | assumption | omega | decide | (simp only [S_len] at *; omega))) | ((with_reducible refine rv_I ?_); (first | (show (0 : Int) < _; (first | assumption | omega | decide | (simp only [S_len] at *; omega))) | exact .inr ⟨by decide, by decide⟩ | exact .inl ⟨by (first | assumption | omega | decide | (simp only [S_len] at *; omega)), by (first | assumption | omega | decide | (simp only [S_len] at *; omega))⟩ | exact .inr ⟨by (first | assumption | omega | decide | (simp only [S_len] at *; omega)), by (first | assumption | omega | decide | (simp only [S_len] at *; omega))⟩ | exact ⟨by decide, by decide, by decide⟩ | exact wide_div (b := 128) (by (first | assumption | omega | decide | (simp only [S_len] at *; omega))) (by (first | assumption | omega | decide | (simp only [S_len] at *; omega))) (by decide) (by decide))))))) (fun hc H1 e1 => ?_) (fun hc H1 e1 => ?_)
    · exact ⟨_, rfl, l, rfl, hr1, fun z => absurd z hg, fun _ => q.ex e1⟩
    refine q_when (b := decide (which = 1)) (by first | ((with_reducible apply et_test); (repeat' (first | ((with_reducible refine ev_pow10 ?_ ?_ ?_) <;> first | rfl | decide) | (with_reducible refine fun (_ : _ = true) => ?_) | (with_reducible refine fun (_ : _ = false) => ?_) | (with_reducible exact ev_c) | ((with_reducible apply ev_var); rfl) | (with_reducible apply ev_op) | (with_reducible apply ev_un) | (with_reducible apply ev_cb) | (with_reducible apply ea_cons) | (with_reducible apply ev_andV) | (with_reducible apply ev_orV) | (with_reducible apply ev_notV) | (with_reducible apply ev_if) | (with_reducible apply eo_some) | (with_reducible apply el_lst) | (with_reducible exact ea_nil) | (with_reducible exact rv_I0) | (with_reducible exact ru_neg) | (with_reducible exact rv_ltS) | (with_reducible exact rv_inC) | (with_reducible exact rv_notInC) | (with_reducible exact rc_intI) | (with_reducible exact rc_intB) | (with_reducible exact rc_min2) | (with_reducible exact rc_isStr) | (with_reducible exact eo_none) | (with_reducible exact rv_inSS) | (with_reducible exact rv_notInSS) | (with_reducible exact rv_ltSS) | (with_reducible exact rv_eqSS) | (with_reducible exact rv_eqII) | (with_reducible exact rv_neII) | (with_reducible exact rv_neSS) | ((with_reducible refine rc_lenSS ?_); (first | assumption | omega | decide | (simp only [S_len] at *; omega))) | ((with_reducible refine rc_lenStr ?_); (first | assumption | omega | decide | (simp only [S_len] at *; omega))) | ((with_reducible refine rv_catSS ?_); (first | assumption | omega | decide | (simp only [S_len] at *; omega))) | (with_reducible exact rv_eq rfl) | (with_reducible exact rv_ne rfl) | ((with_reducible refine rc_lenS ?_); (first | assumption | omega | decide | (simp only [S_len] at *; omega))) | ((with_reducible refine rc_lenL ?_); assumption) | ((with_reducible apply rv_ixL); assumption; rfl) | ((with_reducible refine rv_catS ?_); (first | assumption | omega | decide | (simp only [S_len] at *; omega))) | ((with_reducible refine rv_I ?_); (first | (show (0 : Int) < _; (first | assumption | omega | decide | (simp only [S_len] at *; omega))) | exact .inr ⟨by decide, by decide⟩ | exact .inl ⟨by (first | assumption | omega | decide | (simp only [S_len] at *; omega)), by (first | assumption | omega | decide | (simp only [S_len] at *; omega))⟩ | exact .inr ⟨by (first | assumption | omega | decide | (simp only [S_len] at *; omega)), by (first | assumption | omega | decide | (simp only [S_len] at *; omega))⟩ | exact ⟨by decide, by decide, by decide⟩ | exact wide_div (b := 128) (by (first | assumption | omega | decide | (simp only [S_len] at *; omega))) (by (first | assumption | omega | decide | (simp only [S_len] at *; omega))) (by decide) (by decide)))))) | ((with_reducible apply et_B); (repeat' (first | ((with_reducible refine ev_pow10 ?_ ?_ ?_) <;> first | rfl | decide) | (with_reducible refine fun (_ : _ = true) => ?_) | (with_reducible refine fun (_ : _ = false) => ?_) | (with_reducible exact ev_c) | ((with_reducible apply ev_var); rfl) | (with_reducible apply ev_op) | (with_reducible apply ev_un) | (with_reducible apply ev_cb) | (with_reducible apply ea_cons) | (with_reducible apply ev_andV) | (with_reducible apply ev_orV) | (with_reducible apply ev_notV) | (with_reducible apply ev_if) | (with_reducible apply eo_some) | (with_reducible apply el_lst) | (with_reducible exact ea_nil) | (with_reducible exact rv_I0) | (with_reducible exact ru_neg) | (with_reducible exact rv_ltS) | (with_reducible exact rv_inC) | (with_reducible exact rv_notInC) | (with_reducible exact rc_intI) | (with_reducible exact rc_intB) | (with_reducible exact rc_min2) | (with_reducible exact rc_isStr) | (with_reducible exact eo_none) | (with_reducible exact rv_inSS) | (with_reducible exact rv_notInSS) | (with_reducible exact rv_ltSS) | (with_reducible exact rv_eqSS) | (with_reducible exact rv_eqII) | (with_reducible exact rv_neII) | (with_reducible exact rv_neSS) | ((with_reducible refine rc_lenSS ?_); (first | assumption | omega | decide | (simp only [S_len] at *; omega))) | ((with_reducible refine rc_lenStr ?_); (first | assumption | omega | decide | (simp only [S_len] at *; omega))) | ((with_reducible refine rv_catSS ?_); (first | assumption | omega | decide | (simp only [S_len] at *; omega))) | (with_reducible exact rv_eq rfl) | (with_reducible exact rv_ne rfl) | ((with_reducible refine rc_lenS ?_); (first | assumption | omega | decide | (simp only [S_len] at *; omega))) | ((with_reducible refine rc_lenL ?_); assumption) | ((with_reducible apply rv_ixL); assumption; rfl) | ((with_reducible refine rv_catS ?_); (first | assumption | omega | decide | (simp only [S_len] at *; omega))) | ((with_reducible refine rv_I ?_); (first | (show (0 : Int) < _; (first | assumption | omega | decide | (simp only [S_len] at *; omega))) | exact .inr ⟨by decide, by decide⟩ | exact .inl ⟨by (first | assumption | omega | decide | (simp only [S_len] at *; omega)), by (first | assumption | omega | decide | (simp only [S_len] at *; omega))⟩ | exact .inr ⟨by (first | assumption | omega | decide | (simp only [S_len] at *; omega)), by (first | assumption | omega | decide | (simp only [S_len] at *; omega))⟩ | exact ⟨by decide, by decide, by decide⟩ | exact wide_div (b := 128) (by (first | assumption | omega | decide | (simp only [S_len] at *; omega))) (by (first | assumption | omega | decide | (simp only [S_len] at *; omega))) (by decide) (by decide))))))) (fun hc H2 e2 => ?_) (fun hc H2 e2 => ?_)
    · exact ⟨_, rfl, l, rfl, hr1, fun z => absurd z hg, fun _ => q.ex (e1.trans e2)⟩
    · exact ⟨_, rfl, _, rfl, l, by_, rfl, hr1, fun z => absurd z hg, fun _ => q.ex (e1.trans e2)⟩
theorem ok_law_text_H (T : Tx K mg) : L2H.FnH P w K mg base (L2N.CX P w) 1 (He.fAd K d_law_text.at_) (fdOf K (He.fAd K d_law_text.at_)) ps_law_text sp_law_text := by
  obtain ⟨oc, od, dV, kV, doc, pm, an, cdv, ct, osl, e, lk, hcd, _, _⟩ := (h_law_text T).ex
  rw [e] at lk ⊢
  refine L2H.fn_ofH lk hcd sc_law_text (fun vs H Q E h => ?_) (fun A outer s H vs Q E p hot hr h => ⟨_,
      pss_one (ps_ret (pe_and (pe_callB call_isi (by rfl) (m_isinstance T) (by decide +kernel) (pa_cons (pv 0) (pa_cons (pe_bltn (v := .ty "str") (u := .type "str") (by rfl) (m_str T) (by decide +kernel) rfl) pa_nil))) (pe_one (pe_cmpR op_eq (pv 0) (pv 1) (nomark _))))), ?_⟩)
  · obtain ⟨a, b, rfl, _⟩ := h
    rfl
  · obtain ⟨a, b, rfl, q⟩ := h
    exact s_ret (v := .bl (true && decide (a = b))) (by repeat' (first | ((with_reducible refine ev_pow10 ?_ ?_ ?_) <;> first | rfl | decide) | (with_reducible refine fun (_ : _ = true) => ?_) | (with_reducible refine fun (_ : _ = false) => ?_) | (with_reducible exact ev_c) | ((with_reducible apply ev_var); rfl) | (with_reducible apply ev_op) | (with_reducible apply ev_un) | (with_reducible apply ev_cb) | (with_reducible apply ea_cons) | (with_reducible apply ev_andV) | (with_reducible apply ev_orV) | (with_reducible apply ev_notV) | (with_reducible apply ev_if) | (with_reducible apply eo_some) | (with_reducible apply el_lst) | (with_reducible exact ea_nil) | (with_reducible exact rv_I0) | (with_reducible exact ru_neg) | (with_reducible exact rv_ltS) | (with_reducible exact rv_inC) | (with_reducible exact rv_notInC) | (with_reducible exact rc_intI) | (with_reducible exact rc_intB) | (with_reducible exact rc_min2) | (with_reducible exact rc_isStr) | (with_reducible exact eo_none) | (with_reducible exact rv_inSS) | (with_reducible exact rv_notInSS) | (with_reducible exact rv_ltSS) | (with_reducible exact rv_eqSS) | (with_reducible exact rv_eqII) | (with_reducible exact rv_neII) | (with_reducible exact rv_neSS) | ((with_reducible refine rc_lenSS ?_); (first | assumption | omega | decide | (simp only [S_len] at *; omega))) | ((with_reducible refine rc_lenStr ?_); (first | assumption | omega | decide | (simp only [S_len] at *; omega))) | ((with_reducible refine rv_catSS ?_); (first | assumption | omega | decide | (simp only [S_len] at *; omega))) | (with_reducible exact rv_eq rfl) | (with_reducible exact rv_ne rfl) | ((with_reducible refine rc_lenS ?_); (first | assumption | omega | decide | (simp only [S_len] at *; omega))) | ((with_reducible refine rc_lenL ?_); assumption) | ((with_reducible apply rv_ixL); assumption; rfl) | ((with_reducible refine rv_catS ?_); (first | assumption | omega | decide | (simp only [S_len] at *; omega))) | ((with_reducible refine rv_I ?_); (first | (show (0 : Int) < _; (first | assumption | omega | decide | (simp only [S_len] at *; omega))) | exact .inr ⟨by decide, by decide⟩ | exact .inl ⟨by (first | assumption | omega | decide | (simp only [S_len] at *; omega)), by (first | assumption | omega | decide | (simp only [S_len] at *; omega))⟩ | exact .inr ⟨by (first | assumption | omega | decide | (simp only [S_len] at *; omega)), by (first | assumption | omega | decide | (simp only [S_len] at *; omega))⟩ | exact ⟨by decide, by decide, by decide⟩ | exact wide_div (b := 128) (by (first | assumption | omega | decide | (simp only [S_len] at *; omega))) (by (first | assumption | omega | decide | (simp only [S_len] at *; omega))) (by decide) (by decide))))) fun H1 e1 => q H1 e1
def sp_law_refuses : Sp := fun vs H Q _ => ∃ (which : Int) (l : List Nat) (by_ : Int), vs = [.int which, .str (S l), .int by_] ∧ Row l ∧ ¬ Good l ∧ RetV (.bl true) H Q
theorem ok_law_refuses (T : Tx K mg) : OkD P w K mg base 6 d_law_refuses ps_law_refuses sp_law_refuses := by
  refine (h_law_refuses T).ok sc_law_refuses (fun vs H Q E h => ?_) (fun cdv A outer s H vs Q E hr h => ⟨_,
      (pss_cons (L2N.ps_try_as (i := 3) (Wout := fun _ _ _ _ => False) rfl rfl sc_law_refuses.nd rfl rfl ⟨rfl, by decide, Or.inl (m_LeapError T)⟩ takes0N
        (fun W pn xe tk _ => pss_one (ps_expr (pe_callSD (ok_law_call (P := P) (w := w) (base := base) T) (hr.mono (by decide)) (by rfl) (m_law_call T) (k_law_call T) (b_law_call T) .nil (fun σ => L2N.passAt tk σ) (pa_cons (pv 0) (pa_cons (pv 1) (pa_cons (pv 2) pa_nil))))))
        (fun a oe cls d pn hz hf => pss_one (ps_ret (pe_and (pe_callB (call_isX (D := cI K) hz.zc hf) (by rfl) (m_isinstance T) (by decide +kernel) (pa_cons (pv 3) (pa_cons (pe_glob (v := .ref (cI K)) rfl (m_InvalidRow T) rfl) pa_nil)))
          (pe_one (L2H.pe_callH (ok_law_text_H (P := P) (w := w) (base := base) T) ⟨(hr.mono (show 1 ≤ 5 by decide)).dp, (hr.mono (show 1 ≤ 5 by decide)).un⟩ (hot_suite hz hf) (by rfl) (m_law_text T) (k_law_text T) (b_law_text T) (fun _ => passAtN) (pa_cons (pe_xf (xfs T).xf (xfs T).no hz.zc hf (pv 3)) (pa_cons (pv 1) pa_nil))))))))
      (pss_one (ps_ret pe_bl))), ?_⟩)
  · obtain ⟨which, l, by_, rfl, _⟩ := h
    rfl
  · obtain ⟨which, l, by_, rfl, hr1, hg, q⟩ := h
    refine ⟨_, rfl, _, rfl, _, rfl, which, l, by_, rfl, hr1, hg, fun d H1 hd e1 hx => ?_⟩
    refine ⟨true, (xfs T).exm, fun _ a ha => ?_, fun z => by cases z⟩
    refine ⟨_, rfl, d, _, rfl, rfl, rfl, hx, true, rfl, iteT ?_⟩
    refine ⟨_, rfl, rfl, rfl, d, _, _, rfl, hx, rfl, _, rfl, l, l, rfl, fun H2 e2 => ?_⟩
    rw [decide_eq_true rfl]
    exact q H2 (e1.trans e2)
end
end K01
namespace K01
open PySem PySem.Spec PyProof.Rows L2 Lc Evl
section
variable {P : Program} {w : World} {K : PySem.W.Frag} {mg : Str → Option Value} {base : Heap}
def ST : List Nat := [32, 33, 34, 36, 38, 39, 40, 41, 42, 43, 44, 45, 47, 48, 49, 50, 51, 52, 53, 54, 55, 56, 57, 59, 60, 61, 62, 63, 64, 69, 70, 71, 72, 73, 74, 75, 76, 77, 78, 79, 80, 81, 82, 83, 84, 85, 86, 87, 88, 89, 90, 91, 92, 93, 94, 95, 96] ++ [101, 102, 103, 104, 105, 106, 107, 108, 109, 110, 111, 112, 113, 114, 115, 116, 117, 118, 119, 120, 121, 122, 123, 124, 125, 126, 10, 9]
theorem st_bad : ∀ c ∈ ST, c ∉ SG ∧ c < 128 := by decide +kernel
theorem sg_low : ∀ c ∈ SG, c < 128 := by decide +kernel
def sp_law_bent : Sp := fun vs H Q _ => ∃ (b : Addr) (l : List Nat), vs = [.ref b, .str (S l)] ∧ Bx H b ∧ Good l ∧ l.length ≤ 1000 ∧ ∀ m H', Row m → ¬ Good m → ExB b H H' → Bx H' b → Q (.str (S m)) H'
theorem ok_law_bent (T : Tx K mg) : OkD P w K mg base 2 d_law_bent ps_law_bent sp_law_bent := by
  refine (h_law_bent T).ok sc_law_bent (fun vs H Q E h => ?_) (fun cdv A outer s H vs Q E hr h => ⟨_,
      (pss_cons (ps_set (i := 2) sc_law_bent.nd rfl (Or.inl rfl) pe_str)
      (pss_cons (ps_set (i := 2) sc_law_bent.nd rfl (Or.inl rfl) (pe_op op_add_str (pv 2) pe_str))
      (pss_cons (ps_set (i := 3) sc_law_bent.nd rfl (Or.inl rfl) (pe_ix ix_str (pv 2) (pe_call (ok_law_take (P := P) (w := w) (base := base) T) (hr.mono (by decide)) (by rfl) (m_law_take T) (k_law_take T) (b_law_take T) .nil passN (pa_cons (pv 0) (pa_cons (pe_callB call_len_str (by rfl) (m_len T) (by decide +kernel) (pa_cons (pv 2) pa_nil)) pa_nil))) (fun _ _ => rfl)))
      (pss_cons (ps_set (i := 4) sc_law_bent.nd rfl (Or.inl rfl) (pe_slice sl_str (pv 1) po_none (po_some pe_int)))
      (pss_cons (ps_set (i := 5) sc_law_bent.nd rfl (Or.inl rfl) (pe_call (ok_law_take (P := P) (w := w) (base := base) T) (hr.mono (by decide)) (by rfl) (m_law_take T) (k_law_take T) (b_law_take T) .nil passN (pa_cons (pv 0) (pa_cons (pe_op op_add (pe_callB call_len_str (by rfl) (m_len T) (by decide +kernel) (pa_cons (pv 4) pa_nil)) pe_int) pa_nil))))
      (pss_one (ps_ret (pe_op op_add_str (pe_op op_add_str (pe_slice sl_str (pv 4) po_none (po_some (pv 5))) (pv 3)) (pe_slice sl_str (pv 4) (po_some (pe_op op_add (pv 5) (pe_call (ok_law_take (P := P) (w := w) (base := base) T) (hr.mono (by decide)) (by rfl) (m_law_take T) (k_law_take T) (b_law_take T) .nil passN (pa_cons (pv 0) (pa_cons pe_int pa_nil))))) po_none))))))))), ?_⟩)
  · obtain ⟨b, l, rfl, _⟩ := h
    rfl
  · obtain ⟨b, l, rfl, hb, hg, hl, q⟩ := h
    simp only [kc_2, kc_4, kc_5, kc_6, kc_7, kc_8, kc_9, kc_10, kc_11, kc_12]
    refine q_asg (by exact ev_c) fun H1 e1 => ?_
    refine q_asg (v := .str (S ST)) (by exact ev_op (ev_var rfl) ev_c (rv_catSS (by decide))) fun H2 e2 => ?_
    replace e1 := e1.trans e2
    refine ⟨_, rfl, ?_⟩
    have hst : ST.length = 85 := by decide +kernel
    refine sp_take_then (b := b) (many := 85) rfl (hb.ex e1) ?_ (by decide) (by decide) fun d H3 d0 d1 e3 b3 => ?_
    · have h := ev_cb (ea_cons (ta := tVar 2) (ev_var (σ := [some (.ref b), some (.str (S l)), some (.str (S ST)), none, none, none]) (H := H2) (i := 2) rfl) ea_nil) (rc_lenStr (l := ST) (by rw [hst]; decide))
      rw [hst] at h
      exact h
    refine ⟨S ST, d, ST.getD d.toNat 0, rfl, rfl, sz_of (by rw [S_len, hst]; decide), atI_i d0 (by rw [tl_S, hst]; exact d1) 0, ?_⟩
    have hc := st_bad _ (getD_in (l := ST) (k := d.toNat) (by omega))
    generalize ST.getD d.toNat 0 = c at hc
    replace e1 := (ExB.of (b := b) e1).trans e3
    dsimp only
    refine q_asg (v := .str (S (l.take 59))) (by exact ev_to (k := 59) (ev_var rfl) ev_c (by omega)) fun H4 e4 => ?_
    replace e1 := e1.trans (ExB.of e4)
    have hsl : (l.take 59).length ≤ 59 := by rw [List.length_take]; omega
    have hsg : ∀ x ∈ l.take 59, x ∈ SG := fun x hx => hg x (List.mem_of_mem_take hx)
    generalize l.take 59 = sh at hsl hsg
    refine sp_take_then (b := b) (many := (sh.length : Int) + 1) rfl (b3.ex e4) (by repeat' (first | ((with_reducible refine ev_pow10 ?_ ?_ ?_) <;> first | rfl | decide) | (with_reducible refine fun (_ : _ = true) => ?_) | (with_reducible refine fun (_ : _ = false) => ?_) | (with_reducible exact ev_c) | ((with_reducible apply ev_var); rfl) | (with_reducible apply ev_op) | (with_reducible apply ev_un) | (with_reducible apply ev_cb) | (with_reducible apply ea_cons) | (with_reducible apply ev_andV) | (with_reducible apply ev_orV) | (with_reducible apply ev_notV) | (with_reducible apply ev_if) | (with_reducible apply eo_some) | (with_reducible apply el_lst) | (with_reducible exact ea_nil) | (with_reducible exact rv_I0) | (with_reducible exact ru_neg) | (with_reducible exact rv_ltS) | (with_reducible exact rv_inC) | (with_reducible exact rv_notInC) | (with_reducible exact rc_intI) | (with_reducible exact rc_intB) | (with_reducible exact rc_min2) | (with_reducible exact rc_isStr) | (with_reducible exact eo_none) | (with_reducible exact rv_inSS) | (with_reducible exact rv_notInSS) | (with_reducible exact rv_ltSS) | (with_reducible exact rv_eqSS) | (with_reducible exact rv_eqII) | (with_reducible exact rv_neII) | (with_reducible exact rv_neSS) | ((with_reducible refine rc_lenSS ?_); (first | assumption | omega | decide | (simp only [S_len] at *; omega))) | ((with_reducible refine rc_lenStr ?_); (first | assumption | omega | decide | (simp only [S_len] at *; omega))) | ((with_reducible refine rv_catSS ?_); (first | assumption | omega | decide | (simp only [S_len] at *; omega))) | (with_reducible exact rv_eq rfl) | (with_reducible exact rv_ne rfl) | ((with_reducible refine rc_lenS ?_); (first | assumption | omega | decide | (simp only [S_len] at *; omega))) | ((with_reducible refine rc_lenL ?_); assumption) | ((with_reducible apply rv_ixL); assumption; rfl) | ((with_reducible refine rv_catS ?_); (first | assumption | omega | decide | (simp only [S_len] at *; omega))) | ((with_reducible refine rv_I ?_); (first | (show (0 : Int) < _; (first | assumption | omega | decide | (simp only [S_len] at *; omega))) | exact .inr ⟨by decide, by decide⟩ | exact .inl ⟨by (first | assumption | omega | decide | (simp only [S_len] at *; omega)), by (first | assumption | omega | decide | (simp only [S_len] at *; omega))⟩ | exact .inr ⟨by (first | assumption | omega | decide | (simp only [S_len] at *; omega)), by (first | assumption | omega | decide | (simp only [S_len] at *; omega))⟩ | exact ⟨by decide, by decide, by decide⟩ | exact wide_div (b := 128) (by (first | assumption | omega | decide | (simp only [S_len] at *; omega))) (by (first | assumption | omega | decide | (simp only [S_len] at *; omega))) (by decide) (by decide))))) (by omega) (Nat.lt_of_le_of_lt (show ((sh.length : Int) + 1).natAbs ≤ 100 by omega) (by decide)) fun k H5 k0 k1 e5 b5 => ?_
    replace e1 := e1.trans e5
    obtain ⟨k, rfl⟩ : ∃ j : Nat, k = (j : Int) := ⟨k.toNat, by omega⟩
    have hfirst : Ev (tOp (fun x y H Q => ∃ i j, x = .str i ∧ y = .str j ∧ i.length + j.length ≤ sizeLine ∧ Q (.str (i ++ j)) H) (tSl rSlS (tVar 4) tNoPart (tPart (tVar 5))) (tVar 3)) [some (.ref b), some (.str (S l)), some (.str (S ST)), some (.str (S [c])), some (.str (S sh)), some (.int (k : Int))] H5 (.str (S (sh.take k ++ [c]))) :=
      ev_op (ev_to (te := tVar 4) (ti := tVar 5) (l := sh) (k := k) (ev_var rfl) (ev_var rfl) (by omega)) (ev_var (i := 3) rfl) (rv_catSS (b := [c]) (by rw [List.length_take]; simp; omega))
    dsimp only [gName]
    show tRet _ _ [some (.ref b), some (.str (S l)), some (.str (S ST)), some (.str (S [c])), some (.str (S sh)), some (.int (k : Int))] H5
    refine ret_op hfirst fun H6 e6 => ?_
    refine ⟨_, rfl, _, rfl, ?_⟩
    refine sp_take_then (b := b) (many := 2) rfl (b5.ex e6) (by exact ev_c) (by decide) (by decide) fun d2 H7 d20 d21 e7 b7 => ?_
    obtain ⟨j, rfl⟩ : ∃ j : Nat, d2 = (j : Int) := ⟨d2.toNat, by omega⟩
    refine ⟨_, _, rfl, rfl, _, rfl, S sh, rfl, sz_of (by rw [S_len]; omega), ?_⟩
    rw [show (k : Int) + (j : Int) = ((k + j : Nat) : Int) by omega, cut_from]
    refine ⟨S (sh.take k ++ [c]), S (sh.drop (k + j)), rfl, rfl, sz_of (by rw [S_len, S_len, List.length_append, List.length_take, List.length_drop]; simp; omega), ?_⟩
    rw [S_app]
    refine q _ H7 ⟨?_, ?_⟩ (fun hgood => hc.1 (hgood c (by simp))) ((e1.trans (ExB.of e6)).trans e7) b7
    · rw [List.length_append, List.length_append, List.length_take, List.length_drop]
      simp
      omega
    · intro x hx
      rcases List.mem_append.mp hx with hx | hx
      · rcases List.mem_append.mp hx with hx | hx
        · exact sg_low x (hsg x (List.mem_of_mem_take hx))
        · have hx2 : x = c := by simpa using hx
          rw [hx2]
          exact hc.2
      · exact sg_low x (hsg x (List.mem_of_mem_drop hx))
end
end K01
namespace K01
open PySem PySem.Spec PyProof.Rows L2 Lc Evl
section
variable {P : Program} {w : World} {K : PySem.W.Frag} {mg : Str → Option Value} {base : Heap}
/-! ### what the law calls, by its answers -/
theorem mv_eq (l : List Nat) (a : Int) : mv l a = mvL l a := rfl
theorem tn_eq (l : List Nat) (a : Int) : tn l a = mvL l a := by
  unfold tn
  by_cases h : l = []
  · rw [if_pos h]
    subst h
    rfl
  · rw [if_neg h]
    have hn : 0 < l.length := List.length_pos_iff.mpr h
    exact (rotL_mvL (ix_lt hn a)).trans (mvL_mod hn a)
theorem Good.mv {l : List Nat} (h : Good l) (a : Int) : Good (mvL l a) := fun c hc => by
  unfold mvL at hc
  obtain ⟨i, hi, rfl⟩ := List.mem_map.mp hc
  have hi2 := List.mem_range.mp hi
  exact h _ (getD_in (ix_lt (by omega) _))
theorem Good.rev {l : List Nat} (h : Good l) : Good l.reverse := fun c hc => h c (List.mem_reverse.mp hc)
theorem Row.of {l : List Nat} (h : Good l) (hl : l.length ≤ 60) : Row l := ⟨by omega, fun c hc => sg_low c (h c hc)⟩
section
variable {σ : L2.St} {H : Hp} {te tb : TE} {l : List Nat} {a : Int}
theorem ev_turned {u : Str} (hg : Good l) (hl : l.length ≤ 60) (h : Ev te σ H (.str (S l))) (hb : Ev tb σ H (.int a)) (hu : S (mvL l a) = u) : Ev (tCall (sp_turned K) [] E0 (tCons te (tCons tb tNil))) σ H (.str u) :=
  ev_call (ea_cons h (ea_cons hb ea_nil)) fun H1 e1 Q q E => ⟨l, a, rfl, Row.of hg hl, fun _ => by rw [tn_eq, hu]; exact q, fun z => absurd hg z⟩
theorem ev_mirror {u : Str} (hg : Good l) (hl : l.length ≤ 60) (h : Ev te σ H (.str (S l))) (hu : S l.reverse = u) : Ev (tCall (sp_mirror K) [] E0 (tCons te tNil)) σ H (.str u) :=
  ev_call (ea_cons h ea_nil) fun H1 e1 Q q E => ⟨l, rfl, Row.of hg hl, fun _ => by rw [hu]; exact q, fun z => absurd hg z⟩
theorem ev_least {u : Str} (hg : Good l) (hl : l.length ≤ 60) (h : Ev te σ H (.str (S l))) (hu : ltv l = u) : Ev (tCall (sp_least_turn K) [] E0 (tCons te tNil)) σ H (.str u) :=
  ev_call (ea_cons h ea_nil) fun H1 e1 Q q E => ⟨l, rfl, Row.of hg hl, fun _ => by rw [hu]; exact q, fun z => absurd hg z⟩
theorem ev_moved {u : Str} (hl : l.length ≤ 60) (h : Ev te σ H (.str (S l))) (hb : Ev tb σ H (.int a)) (hu : S (mvL l a) = u) : Ev (tCall sp_law_moved [] E0 (tCons te (tCons tb tNil))) σ H (.str u) :=
  ev_call (ea_cons h (ea_cons hb ea_nil)) fun H1 e1 Q q E => ⟨l, a, rfl, by omega, by rw [mv_eq, hu]; exact q⟩
theorem ev_image {u : Str} (hl : l.length ≤ 60) (h : Ev te σ H (.str (S l))) (hu : S l.reverse = u) : Ev (tCall sp_law_image [] E0 (tCons te tNil)) σ H (.str u) :=
  ev_call (ea_cons h ea_nil) fun H1 e1 Q q E => ⟨l, rfl, by omega, by rw [hu]; exact q⟩
theorem ev_text {m : List Nat} (h : Ev te σ H (.str (S l))) (hb : Ev tb σ H (.str (S m))) (e : l = m) : Ev (tCall sp_law_text [] E0 (tCons te (tCons tb tNil))) σ H (.bl true) :=
  ev_call (ea_cons h (ea_cons hb ea_nil)) fun H1 e1 Q q E => ⟨l, m, rfl, by rw [decide_eq_true e]; exact q⟩
end
def sp_law_turns : Sp := fun vs H Q _ => ∃ (l : List Nat) (a b : Int), vs = [.str (S l), .int a, .int b] ∧ Good l ∧ l.length ≤ 60 ∧ RetV (.bl true) H Q
theorem rv_mul5 {H : Hp} {k n : Int} (h1 : k.natAbs ≤ 5) (h2 : n.natAbs ≤ 100000) : RV (rI CMul fun i j => V.int (i * j)) (.int k) (.int n) H (.int (k * n)) := fun H1 _ _ q => ⟨k, n, rfl, rfl, .inl ⟨by omega, by omega⟩, q H1 (Ex.refl H1)⟩
theorem ok_law_turns (T : Tx K mg) : OkD P w K mg base 5 d_law_turns ps_law_turns sp_law_turns := by
  refine (h_law_turns T).ok sc_law_turns (fun vs H Q E h => ?_) (fun cdv A outer s H vs Q E hr h => ⟨_,
      (pss_cons (ps_set (i := 3) sc_law_turns.nd rfl (Or.inl rfl) (pe_call (ok_turned (P := P) (w := w) (base := base) T) (hr.mono (by decide)) (by rfl) (m_turned T) (k_turned T) (b_turned T) .nil passN (pa_cons (pv 0) (pa_cons (pv 1) pa_nil))))
      (pss_cons (ps_if (pt_not (pt_val (pe_call (ok_law_text (P := P) (w := w) (base := base) T) (hr.mono (by decide)) (by rfl) (m_law_text T) (k_law_text T) (b_law_text T) .nil passN (pa_cons (pv 3) (pa_cons (pe_call (ok_law_moved (P := P) (w := w) (base := base) T) (hr.mono (by decide)) (by rfl) (m_law_moved T) (k_law_moved T) (b_law_moved T) .nil passN (pa_cons (pv 0) (pa_cons (pv 1) pa_nil))) pa_nil))))) (pss_one (ps_ret pe_bl)) pss_nil)
      (pss_cons (ps_if (pt_not (pt_val (pe_call (ok_law_text (P := P) (w := w) (base := base) T) (hr.mono (by decide)) (by rfl) (m_law_text T) (k_law_text T) (b_law_text T) .nil passN (pa_cons (pe_call (ok_turned (P := P) (w := w) (base := base) T) (hr.mono (by decide)) (by rfl) (m_turned T) (k_turned T) (b_turned T) .nil passN (pa_cons (pv 3) (pa_cons (pv 2) pa_nil))) (pa_cons (pe_call (ok_law_moved (P := P) (w := w) (base := base) T) (hr.mono (by decide)) (by rfl) (m_law_moved T) (k_law_moved T) (b_law_moved T) .nil passN (pa_cons (pv 0) (pa_cons (pe_op op_add (pv 1) (pv 2)) pa_nil))) pa_nil))))) (pss_one (ps_ret pe_bl)) pss_nil)
      (pss_cons (ps_if (pt_not (pt_val (pe_call (ok_law_text (P := P) (w := w) (base := base) T) (hr.mono (by decide)) (by rfl) (m_law_text T) (k_law_text T) (b_law_text T) .nil passN (pa_cons (pe_call (ok_turned (P := P) (w := w) (base := base) T) (hr.mono (by decide)) (by rfl) (m_turned T) (k_turned T) (b_turned T) .nil passN (pa_cons (pv 0) (pa_cons (pe_op op_add (pv 1) (pv 2)) pa_nil))) (pa_cons (pe_call (ok_law_moved (P := P) (w := w) (base := base) T) (hr.mono (by decide)) (by rfl) (m_law_moved T) (k_law_moved T) (b_law_moved T) .nil passN (pa_cons (pv 0) (pa_cons (pe_op op_add (pv 1) (pv 2)) pa_nil))) pa_nil))))) (pss_one (ps_ret pe_bl)) pss_nil)
      (pss_cons (ps_if (pt_not (pt_val (pe_call (ok_law_text (P := P) (w := w) (base := base) T) (hr.mono (by decide)) (by rfl) (m_law_text T) (k_law_text T) (b_law_text T) .nil passN (pa_cons (pe_call (ok_turned (P := P) (w := w) (base := base) T) (hr.mono (by decide)) (by rfl) (m_turned T) (k_turned T) (b_turned T) .nil passN (pa_cons (pv 3) (pa_cons (pe_op op_sub pe_int (pv 1)) pa_nil))) (pa_cons (pv 0) pa_nil))))) (pss_one (ps_ret pe_bl)) pss_nil)
      (pss_cons (ps_for (passes_of rfl) rfl (pi_list (pe_lst (pa_cons (pe_un un_neg pe_int) (pa_cons (pe_un un_neg pe_int) (pa_cons pe_int (pa_cons pe_int (pa_cons pe_int pa_nil))))))) (pg_name (i := 4) sc_law_turns.nd rfl (Or.inl rfl)) (pss_one (ps_if (pt_not (pt_val (pe_call (ok_law_text (P := P) (w := w) (base := base) T) (hr.mono (by decide)) (by rfl) (m_law_text T) (k_law_text T) (b_law_text T) .nil passN (pa_cons (pe_call (ok_turned (P := P) (w := w) (base := base) T) (hr.mono (by decide)) (by rfl) (m_turned T) (k_turned T) (b_turned T) .nil passN (pa_cons (pv 0) (pa_cons (pe_op op_mul (pv 4) (pe_callB call_len_str (by rfl) (m_len T) (by decide +kernel) (pa_cons (pv 0) pa_nil))) pa_nil))) (pa_cons (pv 0) pa_nil))))) (pss_one (ps_ret pe_bl)) pss_nil)))
      (pss_one (ps_ret pe_bl)))))))), ?_⟩)
  · obtain ⟨l, a, b, rfl, _⟩ := h
    rfl
  · obtain ⟨l, a, b, rfl, hg, hl, q⟩ := h
    refine q_asg (v := .str (S (mvL l a))) (ev_turned hg hl (by exact ev_var rfl) (by exact ev_var rfl) rfl) fun H1 e1 => ?_
    refine q_when (b := !true) (et_not (et_test (ev_text (by exact ev_var rfl) (ev_moved hl (by exact ev_var rfl) (by exact ev_var rfl) rfl) rfl))) (fun hc => by cases hc) (fun _ H2 e2 => ?_)
    refine q_when (b := !true) (et_not (et_test (ev_text (ev_turned (hg.mv a) (by rw [mvL_len]; exact hl) (by exact ev_var rfl) (by exact ev_var rfl) rfl) (ev_moved (a := a + b) hl (by exact ev_var rfl) (by repeat' (first | ((with_reducible refine ev_pow10 ?_ ?_ ?_) <;> first | rfl | decide) | (with_reducible refine fun (_ : _ = true) => ?_) | (with_reducible refine fun (_ : _ = false) => ?_) | (with_reducible exact ev_c) | ((with_reducible apply ev_var); rfl) | (with_reducible apply ev_op) | (with_reducible apply ev_un) | (with_reducible apply ev_cb) | (with_reducible apply ea_cons) | (with_reducible apply ev_andV) | (with_reducible apply ev_orV) | (with_reducible apply ev_notV) | (with_reducible apply ev_if) | (with_reducible apply eo_some) | (with_reducible apply el_lst) | (with_reducible exact ea_nil) | (with_reducible exact rv_I0) | (with_reducible exact ru_neg) | (with_reducible exact rv_ltS) | (with_reducible exact rv_inC) | (with_reducible exact rv_notInC) | (with_reducible exact rc_intI) | (with_reducible exact rc_intB) | (with_reducible exact rc_min2) | (with_reducible exact rc_isStr) | (with_reducible exact eo_none) | (with_reducible exact rv_inSS) | (with_reducible exact rv_notInSS) | (with_reducible exact rv_ltSS) | (with_reducible exact rv_eqSS) | (with_reducible exact rv_eqII) | (with_reducible exact rv_neII) | (with_reducible exact rv_neSS) | ((with_reducible refine rc_lenSS ?_); (first | assumption | omega | decide | (simp only [S_len] at *; omega))) | ((with_reducible refine rc_lenStr ?_); (first | assumption | omega | decide | (simp only [S_len] at *; omega))) | ((with_reducible refine rv_catSS ?_); (first | assumption | omega | decide | (simp only [S_len] at *; omega))) | (with_reducible exact rv_eq rfl) | (with_reducible exact rv_ne rfl) | ((with_reducible refine rc_lenS ?_); (first | assumption | omega | decide | (simp only [S_len] at *; omega))) | ((with_reducible refine rc_lenL ?_); assumption) | ((with_reducible apply rv_ixL); assumption; rfl) | ((with_reducible refine rv_catS ?_); (first | assumption | omega | decide | (simp only [S_len] at *; omega))) | ((with_reducible refine rv_I ?_); (first | (show (0 : Int) < _; (first | assumption | omega | decide | (simp only [S_len] at *; omega))) | exact .inr ⟨by decide, by decide⟩ | exact .inl ⟨by (first | assumption | omega | decide | (simp only [S_len] at *; omega)), by (first | assumption | omega | decide | (simp only [S_len] at *; omega))⟩ | exact .inr ⟨by (first | assumption | omega | decide | (simp only [S_len] at *; omega)), by (first | assumption | omega | decide | (simp only [S_len] at *; omega))⟩ | exact ⟨by decide, by decide, by decide⟩ | exact wide_div (b := 128) (by (first | assumption | omega | decide | (simp only [S_len] at *; omega))) (by (first | assumption | omega | decide | (simp only [S_len] at *; omega))) (by decide) (by decide))))) rfl) (mvL_mvL l a b)))) (fun hc => by cases hc) (fun _ H3 e3 => ?_)
    refine q_when (b := !true) (et_not (et_test (ev_text (ev_turned (a := a + b) hg hl (by exact ev_var rfl) (by repeat' (first | ((with_reducible refine ev_pow10 ?_ ?_ ?_) <;> first | rfl | decide) | (with_reducible refine fun (_ : _ = true) => ?_) | (with_reducible refine fun (_ : _ = false) => ?_) | (with_reducible exact ev_c) | ((with_reducible apply ev_var); rfl) | (with_reducible apply ev_op) | (with_reducible apply ev_un) | (with_reducible apply ev_cb) | (with_reducible apply ea_cons) | (with_reducible apply ev_andV) | (with_reducible apply ev_orV) | (with_reducible apply ev_notV) | (with_reducible apply ev_if) | (with_reducible apply eo_some) | (with_reducible apply el_lst) | (with_reducible exact ea_nil) | (with_reducible exact rv_I0) | (with_reducible exact ru_neg) | (with_reducible exact rv_ltS) | (with_reducible exact rv_inC) | (with_reducible exact rv_notInC) | (with_reducible exact rc_intI) | (with_reducible exact rc_intB) | (with_reducible exact rc_min2) | (with_reducible exact rc_isStr) | (with_reducible exact eo_none) | (with_reducible exact rv_inSS) | (with_reducible exact rv_notInSS) | (with_reducible exact rv_ltSS) | (with_reducible exact rv_eqSS) | (with_reducible exact rv_eqII) | (with_reducible exact rv_neII) | (with_reducible exact rv_neSS) | ((with_reducible refine rc_lenSS ?_); (first | assumption | omega | decide | (simp only [S_len] at *; omega))) | ((with_reducible refine rc_lenStr ?_); (first | assumption | omega | decide | (simp only [S_len] at *; omega))) | ((with_reducible refine rv_catSS ?_); (first | assumption | omega | decide | (simp only [S_len] at *; omega))) | (with_reducible exact rv_eq rfl) | (with_reducible exact rv_ne rfl) | ((with_reducible refine rc_lenS ?_); (first | assumption | omega | decide | (simp only [S_len] at *; omega))) | ((with_reducible refine rc_lenL ?_); assumption) | ((with_reducible apply rv_ixL); assumption; rfl) | ((with_reducible refine rv_catS ?_); (first | assumption | omega | decide | (simp only [S_len] at *; omega))) | ((with_reducible refine rv_I ?_); (first | (show (0 : Int) < _; (first | assumption | omega | decide | (simp only [S_len] at *; omega))) | exact .inr ⟨by decide, by decide⟩ | exact .inl ⟨by (first | assumption | omega | decide | (simp only [S_len] at *; omega)), by (first | assumption | omega | decide | (simp only [S_len] at *; omega))⟩ | exact .inr ⟨by (first | assumption | omega | decide | (simp only [S_len] at *; omega)), by (first | assumption | omega | decide | (simp only [S_len] at *; omega))⟩ | exact ⟨by decide, by decide, by decide⟩ | exact wide_div (b := 128) (by (first | assumption | omega | decide | (simp only [S_len] at *; omega))) (by (first | assumption | omega | decide | (simp only [S_len] at *; omega))) (by decide) (by decide))))) rfl) (ev_moved (a := a + b) hl (by exact ev_var rfl) (by repeat' (first | ((with_reducible refine ev_pow10 ?_ ?_ ?_) <;> first | rfl | decide) | (with_reducible refine fun (_ : _ = true) => ?_) | (with_reducible refine fun (_ : _ = false) => ?_) | (with_reducible exact ev_c) | ((with_reducible apply ev_var); rfl) | (with_reducible apply ev_op) | (with_reducible apply ev_un) | (with_reducible apply ev_cb) | (with_reducible apply ea_cons) | (with_reducible apply ev_andV) | (with_reducible apply ev_orV) | (with_reducible apply ev_notV) | (with_reducible apply ev_if) | (with_reducible apply eo_some) | (with_reducible apply el_lst) | (with_reducible exact ea_nil) | (with_reducible exact rv_I0) | (with_reducible exact ru_neg) | (with_reducible exact rv_ltS) | (with_reducible exact rv_inC) | (with_reducible exact rv_notInC) | (with_reducible exact rc_intI) | (with_reducible exact rc_intB) | (with_reducible exact rc_min2) | (with_reducible exact rc_isStr) | (with_reducible exact eo_none) | (with_reducible exact rv_inSS) | (with_reducible exact rv_notInSS) | (with_reducible exact rv_ltSS) | (with_reducible exact rv_eqSS) | (with_reducible exact rv_eqII) | (with_reducible exact rv_neII) | (with_reducible exact rv_neSS) | ((with_reducible refine rc_lenSS ?_); (first | assumption | omega | decide | (simp only [S_len] at *; omega))) | ((with_reducible refine rc_lenStr ?_); (first | assumption | omega | decide | (simp only [S_len] at *; omega))) | ((with_reducible refine rv_catSS ?_); (first | assumption | omega | decide | (simp only [S_len] at *; omega))) | (with_reducible exact rv_eq rfl) | (with_reducible exact rv_ne rfl) | ((with_reducible refine rc_lenS ?_); (first | assumption | omega | decide | (simp only [S_len] at *; omega))) | ((with_reducible refine rc_lenL ?_); assumption) | ((with_reducible apply rv_ixL); assumption; rfl) | ((with_reducible refine rv_catS ?_); (first | assumption | omega | decide | (simp only [S_len] at *; omega))) | ((with_reducible refine rv_I ?_); (first | (show (0 : Int) < _; (first | assumption | omega | decide | (simp only [S_len] at *; omega))) | exact .inr ⟨by decide, by decide⟩ | exact .inl ⟨by (first | assumption | omega | decide | (simp only [S_len] at *; omega)), by (first | assumption | omega | decide | (simp only [S_len] at *; omega))⟩ | exact .inr ⟨by (first | assumption | omega | decide | (simp only [S_len] at *; omega)), by (first | assumption | omega | decide | (simp only [S_len] at *; omega))⟩ | exact ⟨by decide, by decide, by decide⟩ | exact wide_div (b := 128) (by (first | assumption | omega | decide | (simp only [S_len] at *; omega))) (by (first | assumption | omega | decide | (simp only [S_len] at *; omega))) (by decide) (by decide))))) rfl) rfl))) (fun hc => by cases hc) (fun _ H4 e4 => ?_)
    refine q_when (b := !true) (et_not (et_test (ev_text (ev_turned (a := 0 - a) (hg.mv a) (by rw [mvL_len]; exact hl) (by exact ev_var rfl) (by repeat' (first | ((with_reducible refine ev_pow10 ?_ ?_ ?_) <;> first | rfl | decide) | (with_reducible refine fun (_ : _ = true) => ?_) | (with_reducible refine fun (_ : _ = false) => ?_) | (with_reducible exact ev_c) | ((with_reducible apply ev_var); rfl) | (with_reducible apply ev_op) | (with_reducible apply ev_un) | (with_reducible apply ev_cb) | (with_reducible apply ea_cons) | (with_reducible apply ev_andV) | (with_reducible apply ev_orV) | (with_reducible apply ev_notV) | (with_reducible apply ev_if) | (with_reducible apply eo_some) | (with_reducible apply el_lst) | (with_reducible exact ea_nil) | (with_reducible exact rv_I0) | (with_reducible exact ru_neg) | (with_reducible exact rv_ltS) | (with_reducible exact rv_inC) | (with_reducible exact rv_notInC) | (with_reducible exact rc_intI) | (with_reducible exact rc_intB) | (with_reducible exact rc_min2) | (with_reducible exact rc_isStr) | (with_reducible exact eo_none) | (with_reducible exact rv_inSS) | (with_reducible exact rv_notInSS) | (with_reducible exact rv_ltSS) | (with_reducible exact rv_eqSS) | (with_reducible exact rv_eqII) | (with_reducible exact rv_neII) | (with_reducible exact rv_neSS) | ((with_reducible refine rc_lenSS ?_); (first | assumption | omega | decide | (simp only [S_len] at *; omega))) | ((with_reducible refine rc_lenStr ?_); (first | assumption | omega | decide | (simp only [S_len] at *; omega))) | ((with_reducible refine rv_catSS ?_); (first | assumption | omega | decide | (simp only [S_len] at *; omega))) | (with_reducible exact rv_eq rfl) | (with_reducible exact rv_ne rfl) | ((with_reducible refine rc_lenS ?_); (first | assumption | omega | decide | (simp only [S_len] at *; omega))) | ((with_reducible refine rc_lenL ?_); assumption) | ((with_reducible apply rv_ixL); assumption; rfl) | ((with_reducible refine rv_catS ?_); (first | assumption | omega | decide | (simp only [S_len] at *; omega))) | ((with_reducible refine rv_I ?_); (first | (show (0 : Int) < _; (first | assumption | omega | decide | (simp only [S_len] at *; omega))) | exact .inr ⟨by decide, by decide⟩ | exact .inl ⟨by (first | assumption | omega | decide | (simp only [S_len] at *; omega)), by (first | assumption | omega | decide | (simp only [S_len] at *; omega))⟩ | exact .inr ⟨by (first | assumption | omega | decide | (simp only [S_len] at *; omega)), by (first | assumption | omega | decide | (simp only [S_len] at *; omega))⟩ | exact ⟨by decide, by decide, by decide⟩ | exact wide_div (b := 128) (by (first | assumption | omega | decide | (simp only [S_len] at *; omega))) (by (first | assumption | omega | decide | (simp only [S_len] at *; omega))) (by decide) (by decide))))) rfl) (by exact ev_var rfl) (by rw [mvL_mvL, show a + (0 - a) = 0 by omega, mvL_zero])))) (fun hc => by cases hc) (fun _ H5 e5 => ?_)
    have eh := (((e1.trans e2).trans e3).trans e4).trans e5
    refine q_forNLn (xs := [V.int (-2), V.int (-1), V.int 0, V.int 1, V.int 2]) (el_lst (by repeat' (first | ((with_reducible refine ev_pow10 ?_ ?_ ?_) <;> first | rfl | decide) | (with_reducible refine fun (_ : _ = true) => ?_) | (with_reducible refine fun (_ : _ = false) => ?_) | (with_reducible exact ev_c) | ((with_reducible apply ev_var); rfl) | (with_reducible apply ev_op) | (with_reducible apply ev_un) | (with_reducible apply ev_cb) | (with_reducible apply ea_cons) | (with_reducible apply ev_andV) | (with_reducible apply ev_orV) | (with_reducible apply ev_notV) | (with_reducible apply ev_if) | (with_reducible apply eo_some) | (with_reducible apply el_lst) | (with_reducible exact ea_nil) | (with_reducible exact rv_I0) | (with_reducible exact ru_neg) | (with_reducible exact rv_ltS) | (with_reducible exact rv_inC) | (with_reducible exact rv_notInC) | (with_reducible exact rc_intI) | (with_reducible exact rc_intB) | (with_reducible exact rc_min2) | (with_reducible exact rc_isStr) | (with_reducible exact eo_none) | (with_reducible exact rv_inSS) | (with_reducible exact rv_notInSS) | (with_reducible exact rv_ltSS) | (with_reducible exact rv_eqSS) | (with_reducible exact rv_eqII) | (with_reducible exact rv_neII) | (with_reducible exact rv_neSS) | ((with_reducible refine rc_lenSS ?_); (first | assumption | omega | decide | (simp only [S_len] at *; omega))) | ((with_reducible refine rc_lenStr ?_); (first | assumption | omega | decide | (simp only [S_len] at *; omega))) | ((with_reducible refine rv_catSS ?_); (first | assumption | omega | decide | (simp only [S_len] at *; omega))) | (with_reducible exact rv_eq rfl) | (with_reducible exact rv_ne rfl) | ((with_reducible refine rc_lenS ?_); (first | assumption | omega | decide | (simp only [S_len] at *; omega))) | ((with_reducible refine rc_lenL ?_); assumption) | ((with_reducible apply rv_ixL); assumption; rfl) | ((with_reducible refine rv_catS ?_); (first | assumption | omega | decide | (simp only [S_len] at *; omega))) | ((with_reducible refine rv_I ?_); (first | (show (0 : Int) < _; (first | assumption | omega | decide | (simp only [S_len] at *; omega))) | exact .inr ⟨by decide, by decide⟩ | exact .inl ⟨by (first | assumption | omega | decide | (simp only [S_len] at *; omega)), by (first | assumption | omega | decide | (simp only [S_len] at *; omega))⟩ | exact .inr ⟨by (first | assumption | omega | decide | (simp only [S_len] at *; omega)), by (first | assumption | omega | decide | (simp only [S_len] at *; omega))⟩ | exact ⟨by decide, by decide, by decide⟩ | exact wide_div (b := 128) (by (first | assumption | omega | decide | (simp only [S_len] at *; omega))) (by (first | assumption | omega | decide | (simp only [S_len] at *; omega))) (by decide) (by decide))))) (by decide)) (fun p i σ' H' => Ex H H' ∧ H' p = some (.lst [V.int (-2), V.int (-1), V.int 0, V.int 1, V.int 2]) ∧ ∃ kv, σ' = [some (.str (S l)), some (.int a), some (.int b), some (.str (S (mvL l a))), kv]) (fun p H6 hp e6 h6 => ⟨eh.trans e6, h6, none, rfl⟩) (fun p i σ' H' _ hP => SqL.of hP.2.1) ?_ ?_
    · rintro p i x σ' H' hx ⟨e, hp, kv, rfl⟩
      obtain ⟨k, rfl, hk⟩ : ∃ k : Int, x = .int k ∧ k.natAbs ≤ 5 := by
        have hm := List.mem_of_getElem? hx
        simp only [List.mem_cons, List.not_mem_nil, or_false] at hm
        rcases hm with rfl | rfl | rfl | rfl | rfl <;> exact ⟨_, rfl, by decide⟩
      refine s_when (b := !true) (et_not (et_test (ev_text (ev_turned (a := k * (l.length : Int)) hg hl (by exact ev_var rfl) (ev_op (by exact ev_var rfl) (by repeat' (first | ((with_reducible refine ev_pow10 ?_ ?_ ?_) <;> first | rfl | decide) | (with_reducible refine fun (_ : _ = true) => ?_) | (with_reducible refine fun (_ : _ = false) => ?_) | (with_reducible exact ev_c) | ((with_reducible apply ev_var); rfl) | (with_reducible apply ev_op) | (with_reducible apply ev_un) | (with_reducible apply ev_cb) | (with_reducible apply ea_cons) | (with_reducible apply ev_andV) | (with_reducible apply ev_orV) | (with_reducible apply ev_notV) | (with_reducible apply ev_if) | (with_reducible apply eo_some) | (with_reducible apply el_lst) | (with_reducible exact ea_nil) | (with_reducible exact rv_I0) | (with_reducible exact ru_neg) | (with_reducible exact rv_ltS) | (with_reducible exact rv_inC) | (with_reducible exact rv_notInC) | (with_reducible exact rc_intI) | (with_reducible exact rc_intB) | (with_reducible exact rc_min2) | (with_reducible exact rc_isStr) | (with_reducible exact eo_none) | (with_reducible exact rv_inSS) | (with_reducible exact rv_notInSS) | (with_reducible exact rv_ltSS) | (with_reducible exact rv_eqSS) | (with_reducible exact rv_eqII) | (with_reducible exact rv_neII) | (with_reducible exact rv_neSS) | ((with_reducible refine rc_lenSS ?_); (first | assumption | omega | decide | (simp only [S_len] at *; omega))) | ((with_reducible refine rc_lenStr ?_); (first | assumption | omega | decide | (simp only [S_len] at *; omega))) | ((with_reducible refine rv_catSS ?_); (first | assumption | omega | decide | (simp only [S_len] at *; omega))) | (with_reducible exact rv_eq rfl) | (with_reducible exact rv_ne rfl) | ((with_reducible refine rc_lenS ?_); (first | assumption | omega | decide | (simp only [S_len] at *; omega))) | ((with_reducible refine rc_lenL ?_); assumption) | ((with_reducible apply rv_ixL); assumption; rfl) | ((with_reducible refine rv_catS ?_); (first | assumption | omega | decide | (simp only [S_len] at *; omega))) | ((with_reducible refine rv_I ?_); (first | (show (0 : Int) < _; (first | assumption | omega | decide | (simp only [S_len] at *; omega))) | exact .inr ⟨by decide, by decide⟩ | exact .inl ⟨by (first | assumption | omega | decide | (simp only [S_len] at *; omega)), by (first | assumption | omega | decide | (simp only [S_len] at *; omega))⟩ | exact .inr ⟨by (first | assumption | omega | decide | (simp only [S_len] at *; omega)), by (first | assumption | omega | decide | (simp only [S_len] at *; omega))⟩ | exact ⟨by decide, by decide, by decide⟩ | exact wide_div (b := 128) (by (first | assumption | omega | decide | (simp only [S_len] at *; omega))) (by (first | assumption | omega | decide | (simp only [S_len] at *; omega))) (by decide) (by decide))))) (rv_mul5 hk (by omega))) rfl) (by exact ev_var rfl) (mvL_mul l k)))) (fun hc => by cases hc) (fun _ H7 e7 => ?_)
      exact ⟨e.trans e7, e7 _ _ hp, _, rfl⟩
    · rintro p σ' H' ⟨e, hp, kv, rfl⟩
      exact s_ret (by exact ev_c) fun H7 e7 => q H7 (e.trans e7)
def sp_law_mirrors : Sp := fun vs H Q _ => ∃ (l : List Nat) (a : Int), vs = [.str (S l), .int a] ∧ Good l ∧ l.length ≤ 60 ∧ RetV (.bl true) H Q
theorem ok_law_mirrors (T : Tx K mg) : OkD P w K mg base 5 d_law_mirrors ps_law_mirrors sp_law_mirrors := by
  refine (h_law_mirrors T).ok sc_law_mirrors (fun vs H Q E h => ?_) (fun cdv A outer s H vs Q E hr h => ⟨_,
      (pss_cons (ps_set (i := 2) sc_law_mirrors.nd rfl (Or.inl rfl) (pe_call (ok_mirror (P := P) (w := w) (base := base) T) (hr.mono (by decide)) (by rfl) (m_mirror T) (k_mirror T) (b_mirror T) .nil passN (pa_cons (pv 0) pa_nil)))
      (pss_cons (ps_if (PW.pt (pw_or (pt_not (pt_val (pe_call (ok_law_text (P := P) (w := w) (base := base) T) (hr.mono (by decide)) (by rfl) (m_law_text T) (k_law_text T) (b_law_text T) .nil passN (pa_cons (pv 2) (pa_cons (pe_call (ok_law_image (P := P) (w := w) (base := base) T) (hr.mono (by decide)) (by rfl) (m_law_image T) (k_law_image T) (b_law_image T) .nil passN (pa_cons (pv 0) pa_nil)) pa_nil))))) (pw_or1 (pt_not (pt_val (pe_call (ok_law_text (P := P) (w := w) (base := base) T) (hr.mono (by decide)) (by rfl) (m_law_text T) (k_law_text T) (b_law_text T) .nil passN (pa_cons (pe_call (ok_mirror (P := P) (w := w) (base := base) T) (hr.mono (by decide)) (by rfl) (m_mirror T) (k_mirror T) (b_mirror T) .nil passN (pa_cons (pv 2) pa_nil)) (pa_cons (pv 0) pa_nil)))))))) (pss_one (ps_ret pe_bl)) pss_nil)
      (pss_cons (ps_if (pt_not (pt_val (pe_call (ok_law_text (P := P) (w := w) (base := base) T) (hr.mono (by decide)) (by rfl) (m_law_text T) (k_law_text T) (b_law_text T) .nil passN (pa_cons (pe_call (ok_mirror (P := P) (w := w) (base := base) T) (hr.mono (by decide)) (by rfl) (m_mirror T) (k_mirror T) (b_mirror T) .nil passN (pa_cons (pe_call (ok_turned (P := P) (w := w) (base := base) T) (hr.mono (by decide)) (by rfl) (m_turned T) (k_turned T) (b_turned T) .nil passN (pa_cons (pv 0) (pa_cons (pv 1) pa_nil))) pa_nil)) (pa_cons (pe_call (ok_law_moved (P := P) (w := w) (base := base) T) (hr.mono (by decide)) (by rfl) (m_law_moved T) (k_law_moved T) (b_law_moved T) .nil passN (pa_cons (pe_call (ok_law_image (P := P) (w := w) (base := base) T) (hr.mono (by decide)) (by rfl) (m_law_image T) (k_law_image T) (b_law_image T) .nil passN (pa_cons (pv 0) pa_nil)) (pa_cons (pe_op op_sub pe_int (pv 1)) pa_nil))) pa_nil))))) (pss_one (ps_ret pe_bl)) pss_nil)
      (pss_one (ps_ret (pe_call (ok_law_text (P := P) (w := w) (base := base) T) (hr.mono (by decide)) (by rfl) (m_law_text T) (k_law_text T) (b_law_text T) .nil passN (pa_cons (pe_call (ok_turned (P := P) (w := w) (base := base) T) (hr.mono (by decide)) (by rfl) (m_turned T) (k_turned T) (b_turned T) .nil passN (pa_cons (pv 2) (pa_cons (pe_op op_sub pe_int (pv 1)) pa_nil))) (pa_cons (pe_call (ok_law_image (P := P) (w := w) (base := base) T) (hr.mono (by decide)) (by rfl) (m_law_image T) (k_law_image T) (b_law_image T) .nil passN (pa_cons (pe_call (ok_law_moved (P := P) (w := w) (base := base) T) (hr.mono (by decide)) (by rfl) (m_law_moved T) (k_law_moved T) (b_law_moved T) .nil passN (pa_cons (pv 0) (pa_cons (pv 1) pa_nil))) pa_nil)) pa_nil)))))))), ?_⟩)
  · obtain ⟨l, a, rfl, _⟩ := h
    rfl
  · obtain ⟨l, a, rfl, hg, hl, q⟩ := h
    have hgr := hg.rev
    have hlr : l.reverse.length ≤ 60 := by rw [List.length_reverse]; exact hl
    refine q_asg (v := .str (S l.reverse)) (ev_mirror hg hl (by exact ev_var rfl) rfl) fun H1 e1 => ?_
    refine q_when (b := (!true || !true)) (et_or (et_not (et_test (ev_text (by exact ev_var rfl) (ev_image hl (by exact ev_var rfl) rfl) rfl))) fun _ => et_not (et_test (ev_text (ev_mirror hgr hlr (by exact ev_var rfl) rfl) (by exact ev_var rfl) (List.reverse_reverse l)))) (fun hc => by cases hc) (fun _ H2 e2 => ?_)
    refine q_when (b := !true) (et_not (et_test (ev_text (ev_mirror (hg.mv a) (by rw [mvL_len]; exact hl) (ev_turned hg hl (by exact ev_var rfl) (by exact ev_var rfl) rfl) rfl) (ev_moved (a := 0 - a) hlr (ev_image hl (by exact ev_var rfl) rfl) (by repeat' (first | ((with_reducible refine ev_pow10 ?_ ?_ ?_) <;> first | rfl | decide) | (with_reducible refine fun (_ : _ = true) => ?_) | (with_reducible refine fun (_ : _ = false) => ?_) | (with_reducible exact ev_c) | ((with_reducible apply ev_var); rfl) | (with_reducible apply ev_op) | (with_reducible apply ev_un) | (with_reducible apply ev_cb) | (with_reducible apply ea_cons) | (with_reducible apply ev_andV) | (with_reducible apply ev_orV) | (with_reducible apply ev_notV) | (with_reducible apply ev_if) | (with_reducible apply eo_some) | (with_reducible apply el_lst) | (with_reducible exact ea_nil) | (with_reducible exact rv_I0) | (with_reducible exact ru_neg) | (with_reducible exact rv_ltS) | (with_reducible exact rv_inC) | (with_reducible exact rv_notInC) | (with_reducible exact rc_intI) | (with_reducible exact rc_intB) | (with_reducible exact rc_min2) | (with_reducible exact rc_isStr) | (with_reducible exact eo_none) | (with_reducible exact rv_inSS) | (with_reducible exact rv_notInSS) | (with_reducible exact rv_ltSS) | (with_reducible exact rv_eqSS) | (with_reducible exact rv_eqII) | (with_reducible exact rv_neII) | (with_reducible exact rv_neSS) | ((with_reducible refine rc_lenSS ?_); (first | assumption | omega | decide | (simp only [S_len] at *; omega))) | ((with_reducible refine rc_lenStr ?_); (first | assumption | omega | decide | (simp only [S_len] at *; omega))) | ((with_reducible refine rv_catSS ?_); (first | assumption | omega | decide | (simp only [S_len] at *; omega))) | (with_reducible exact rv_eq rfl) | (with_reducible exact rv_ne rfl) | ((with_reducible refine rc_lenS ?_); (first | assumption | omega | decide | (simp only [S_len] at *; omega))) | ((with_reducible refine rc_lenL ?_); assumption) | ((with_reducible apply rv_ixL); assumption; rfl) | ((with_reducible refine rv_catS ?_); (first | assumption | omega | decide | (simp only [S_len] at *; omega))) | ((with_reducible refine rv_I ?_); (first | (show (0 : Int) < _; (first | assumption | omega | decide | (simp only [S_len] at *; omega))) | exact .inr ⟨by decide, by decide⟩ | exact .inl ⟨by (first | assumption | omega | decide | (simp only [S_len] at *; omega)), by (first | assumption | omega | decide | (simp only [S_len] at *; omega))⟩ | exact .inr ⟨by (first | assumption | omega | decide | (simp only [S_len] at *; omega)), by (first | assumption | omega | decide | (simp only [S_len] at *; omega))⟩ | exact ⟨by decide, by decide, by decide⟩ | exact wide_div (b := 128) (by (first | assumption | omega | decide | (simp only [S_len] at *; omega))) (by (first | assumption | omega | decide | (simp only [S_len] at *; omega))) (by decide) (by decide))))) rfl) (mvL_rev l a)))) (fun hc => by cases hc) (fun _ H3 e3 => ?_)
    refine s_ret (ev_text (ev_turned (a := 0 - a) hgr hlr (by exact ev_var rfl) (by repeat' (first | ((with_reducible refine ev_pow10 ?_ ?_ ?_) <;> first | rfl | decide) | (with_reducible refine fun (_ : _ = true) => ?_) | (with_reducible refine fun (_ : _ = false) => ?_) | (with_reducible exact ev_c) | ((with_reducible apply ev_var); rfl) | (with_reducible apply ev_op) | (with_reducible apply ev_un) | (with_reducible apply ev_cb) | (with_reducible apply ea_cons) | (with_reducible apply ev_andV) | (with_reducible apply ev_orV) | (with_reducible apply ev_notV) | (with_reducible apply ev_if) | (with_reducible apply eo_some) | (with_reducible apply el_lst) | (with_reducible exact ea_nil) | (with_reducible exact rv_I0) | (with_reducible exact ru_neg) | (with_reducible exact rv_ltS) | (with_reducible exact rv_inC) | (with_reducible exact rv_notInC) | (with_reducible exact rc_intI) | (with_reducible exact rc_intB) | (with_reducible exact rc_min2) | (with_reducible exact rc_isStr) | (with_reducible exact eo_none) | (with_reducible exact rv_inSS) | (with_reducible exact rv_notInSS) | (with_reducible exact rv_ltSS) | (with_reducible exact rv_eqSS) | (with_reducible exact rv_eqII) | (with_reducible exact rv_neII) | (with_reducible exact rv_neSS) | ((with_reducible refine rc_lenSS ?_); (first | assumption | omega | decide | (simp only [S_len] at *; omega))) | ((with_reducible refine rc_lenStr ?_); (first | assumption | omega | decide | (simp only [S_len] at *; omega))) | ((with_reducible refine rv_catSS ?_); (first | assumption | omega | decide | (simp only [S_len] at *; omega))) | (with_reducible exact rv_eq rfl) | (with_reducible exact rv_ne rfl) | ((with_reducible refine rc_lenS ?_); (first | assumption | omega | decide | (simp only [S_len] at *; omega))) | ((with_reducible refine rc_lenL ?_); assumption) | ((with_reducible apply rv_ixL); assumption; rfl) | ((with_reducible refine rv_catS ?_); (first | assumption | omega | decide | (simp only [S_len] at *; omega))) | ((with_reducible refine rv_I ?_); (first | (show (0 : Int) < _; (first | assumption | omega | decide | (simp only [S_len] at *; omega))) | exact .inr ⟨by decide, by decide⟩ | exact .inl ⟨by (first | assumption | omega | decide | (simp only [S_len] at *; omega)), by (first | assumption | omega | decide | (simp only [S_len] at *; omega))⟩ | exact .inr ⟨by (first | assumption | omega | decide | (simp only [S_len] at *; omega)), by (first | assumption | omega | decide | (simp only [S_len] at *; omega))⟩ | exact ⟨by decide, by decide, by decide⟩ | exact wide_div (b := 128) (by (first | assumption | omega | decide | (simp only [S_len] at *; omega))) (by (first | assumption | omega | decide | (simp only [S_len] at *; omega))) (by decide) (by decide))))) rfl) (ev_image (l := mvL l a) (by rw [mvL_len]; exact hl) (ev_moved hl (by exact ev_var rfl) (by exact ev_var rfl) rfl) rfl) (mvL_rev l a).symm) fun H4 e4 => ?_
    exact q H4 (((e1.trans e2).trans e3).trans e4)
end
end K01
namespace K01
open PySem PySem.Spec PyProof.Rows L2 Lc Evl
section
variable {P : Program} {w : World} {K : PySem.W.Frag} {mg : Str → Option Value} {base : Heap}
/-! ### the least turn -/
def minL (x : List Nat) (xs : List (List Nat)) : List Nat := xs.foldl (fun a y => if y < a then y else a) x
theorem minS_S : ∀ (ys : List (List Nat)) (y : List Nat), minS (S y) (ys.map S) = S (minL y ys)
  | [], y => rfl
  | z :: zs, y => by
    have e : (if PySem.W.DatumOrd.lt (S z) (S y) = true then S z else S y) = S (if z < y then z else y) := by
      have h0 : PySem.W.DatumOrd.lt (S z) (S y) = decide (z < y) := rfl
      rw [h0]
      by_cases h : z < y
      · rw [if_pos (decide_eq_true h), if_pos h]
      · rw [if_neg (by simp [h]), if_neg h]
    show minS (if PySem.W.DatumOrd.lt (S z) (S y) = true then S z else S y) (zs.map S) = S (minL (if z < y then z else y) zs)
    rw [e]
    exact minS_S zs _
theorem minL_in : ∀ (ys : List (List Nat)) (y : List Nat), minL y ys = y ∨ minL y ys ∈ ys
  | [], y => .inl rfl
  | z :: zs, y => by
    show minL (if z < y then z else y) zs = y ∨ minL (if z < y then z else y) zs ∈ z :: zs
    rcases minL_in zs (if z < y then z else y) with h | h
    · rw [h]
      split
      · exact .inr (List.mem_cons_self ..)
      · exact .inl rfl
    · exact .inr (List.mem_cons_of_mem _ h)
theorem minL_le : ∀ (ys : List (List Nat)) (y x : List Nat), (x = y ∨ x ∈ ys) → ¬ x < minL y ys
  | [], y, x, h => by
    rcases h with rfl | h
    · exact lt_irr _
    · cases h
  | z :: zs, y, x, h => by
    show ¬ x < minL (if z < y then z else y) zs
    have h0 := minL_le zs (if z < y then z else y) (if z < y then z else y) (.inl rfl)
    rcases h with rfl | h
    · intro hx
      by_cases hz : z < x
      · rw [if_pos hz] at h0 hx
        exact h0 (List.lt_trans hz hx)
      · rw [if_neg hz] at h0 hx
        exact h0 hx
    · rcases List.mem_cons.mp h with rfl | h
      · intro hx
        by_cases hz : x < y
        · rw [if_pos hz] at h0 hx
          exact h0 hx
        · rw [if_neg hz] at h0 hx
          rcases (show y < x ∨ y = x from by
            by_cases hy : y < x
            · exact .inl hy
            · exact .inr (eq_of_nlt hy hz)) with hy | hy
          · exact h0 (List.lt_trans hy hx)
          · rw [hy] at h0 hx
            exact h0 hx
      · exact minL_le zs _ x (.inr h)
theorem rots_eq (m : List Nat) : rots m = ((List.range m.length).map fun (i : Nat) => mvL m (i : Int)).map S := by
  unfold rots
  rw [List.map_map]
  refine List.map_congr_left fun i hi => ?_
  exact congrArg S (rotL_mvL (List.mem_range.mp hi))
theorem ltv_mv (l : List Nat) (a : Int) : ltv (mvL l a) = S (bstL l l.length) := by
  unfold ltv
  rw [rots_eq, mvL_len]
  have e : ((List.range l.length).map fun (i : Nat) => mvL (mvL l a) (i : Int)) = (List.range l.length).map fun (i : Nat) => mvL l (a + (i : Int)) := List.map_congr_left fun i _ => mvL_mvL l a i
  rw [e]
  by_cases hn : 0 < l.length
  · generalize hr : ((List.range l.length).map fun (i : Nat) => mvL l (a + (i : Int))) = xs
    have hlen : xs.length = l.length := by rw [← hr, List.length_map, List.length_range]
    have hin : ∀ b : Int, mvL l b ∈ xs := fun b => by
      rw [← hr]
      refine List.mem_map.mpr ⟨ix l.length (b - a), List.mem_range.mpr (ix_lt hn _), ?_⟩
      have hm := mvL_mod (l := mvL l a) (by rw [mvL_len]; exact hn) (b - a)
      rw [mvL_len, mvL_mvL, mvL_mvL, show a + (b - a) = b by omega] at hm
      exact hm
    cases xs with
    | nil => exact absurd hlen (by simp; omega)
    | cons y ys =>
      show minS (S y) (ys.map S) = _
      rw [minS_S]
      refine congrArg S (eq_of_nlt ?_ ?_)
      · have hm : minL y ys ∈ y :: ys := by
          rcases minL_in ys y with h | h
          · rw [h]
            exact List.mem_cons_self ..
          · exact List.mem_cons_of_mem _ h
        rw [← hr] at hm
        obtain ⟨i, hi, ei⟩ := List.mem_map.mp hm
        rw [← ei, ← mvL_mod hn]
        exact bstL_le l _ _ (ix_lt hn _)
      · obtain ⟨b, hb⟩ := bstL_in l l.length
        rw [hb]
        have := hin b
        exact minL_le ys y _ (List.mem_cons.mp this)
  · have e0 : l = [] := List.length_eq_zero_iff.mp (by omega)
    subst e0
    rfl
def sp_law_least : Sp := fun vs H Q _ => ∃ (l : List Nat) (a b : Int), vs = [.str (S l), .int a, .int b] ∧ Good l ∧ l.length ≤ 60 ∧ RetV (.bl true) H Q
theorem ok_law_least (T : Tx K mg) : OkD P w K mg base 5 d_law_least ps_law_least sp_law_least := by
  refine (h_law_least T).ok sc_law_least (fun vs H Q E h => ?_) (fun cdv A outer s H vs Q E hr h => ⟨_,
      (pss_cons (ps_set (i := 3) sc_law_least.nd rfl (Or.inl rfl) (pv 0))
      (pss_cons (ps_for (passes_of rfl) rfl (pi_range1 rfl (m_range T) (pa_cons (pe_callB call_len_str (by rfl) (m_len T) (by decide +kernel) (pa_cons (pv 0) pa_nil)) pa_nil)) (pg_name (i := 4) sc_law_least.nd rfl (Or.inl rfl)) (pss_cons (ps_set (i := 5) sc_law_least.nd rfl (Or.inl rfl) (pe_call (ok_law_moved (P := P) (w := w) (base := base) T) (hr.mono (by decide)) (by rfl) (m_law_moved T) (k_law_moved T) (b_law_moved T) .nil passN (pa_cons (pv 0) (pa_cons (pv 4) pa_nil))))
      (pss_one (ps_if (pt_cmpR op_lt_str (pv 5) (pv 3) (nomark _)) (pss_one (ps_set (i := 3) sc_law_least.nd rfl (Or.inl rfl) (pv 5))) pss_nil))))
      (pss_cons (ps_for (passes_of rfl) rfl (pi_list (pe_lst (pa_cons pe_int (pa_cons pe_int (pa_cons (pv 1) (pa_cons (pv 2) (pa_cons (pe_op op_add (pv 1) (pv 2)) pa_nil))))))) (pg_name (i := 4) sc_law_least.nd rfl (Or.inl rfl)) (pss_one (ps_if (pt_not (pt_val (pe_call (ok_law_text (P := P) (w := w) (base := base) T) (hr.mono (by decide)) (by rfl) (m_law_text T) (k_law_text T) (b_law_text T) .nil passN (pa_cons (pe_call (ok_least_turn (P := P) (w := w) (base := base) T) (hr.mono (by decide)) (by rfl) (m_least_turn T) (k_least_turn T) (b_least_turn T) .nil passN (pa_cons (pe_call (ok_law_moved (P := P) (w := w) (base := base) T) (hr.mono (by decide)) (by rfl) (m_law_moved T) (k_law_moved T) (b_law_moved T) .nil passN (pa_cons (pv 0) (pa_cons (pv 4) pa_nil))) pa_nil)) (pa_cons (pv 3) pa_nil))))) (pss_one (ps_ret pe_bl)) pss_nil)))
      (pss_one (ps_ret pe_bl))))), ?_⟩)
  · obtain ⟨l, a, b, rfl, _⟩ := h
    rfl
  · obtain ⟨l, a, b, rfl, hg, hl, q⟩ := h
    refine q_asg (v := .str (S l)) (by exact ev_var rfl) fun H1 e1 => ?_
    refine q_forR1 (n := (l.length : Int)) (by repeat' (first | ((with_reducible refine ev_pow10 ?_ ?_ ?_) <;> first | rfl | decide) | (with_reducible refine fun (_ : _ = true) => ?_) | (with_reducible refine fun (_ : _ = false) => ?_) | (with_reducible exact ev_c) | ((with_reducible apply ev_var); rfl) | (with_reducible apply ev_op) | (with_reducible apply ev_un) | (with_reducible apply ev_cb) | (with_reducible apply ea_cons) | (with_reducible apply ev_andV) | (with_reducible apply ev_orV) | (with_reducible apply ev_notV) | (with_reducible apply ev_if) | (with_reducible apply eo_some) | (with_reducible apply el_lst) | (with_reducible exact ea_nil) | (with_reducible exact rv_I0) | (with_reducible exact ru_neg) | (with_reducible exact rv_ltS) | (with_reducible exact rv_inC) | (with_reducible exact rv_notInC) | (with_reducible exact rc_intI) | (with_reducible exact rc_intB) | (with_reducible exact rc_min2) | (with_reducible exact rc_isStr) | (with_reducible exact eo_none) | (with_reducible exact rv_inSS) | (with_reducible exact rv_notInSS) | (with_reducible exact rv_ltSS) | (with_reducible exact rv_eqSS) | (with_reducible exact rv_eqII) | (with_reducible exact rv_neII) | (with_reducible exact rv_neSS) | ((with_reducible refine rc_lenSS ?_); (first | assumption | omega | decide | (simp only [S_len] at *; omega))) | ((with_reducible refine rc_lenStr ?_); (first | assumption | omega | decide | (simp only [S_len] at *; omega))) | ((with_reducible refine rv_catSS ?_); (first | assumption | omega | decide | (simp only [S_len] at *; omega))) | (with_reducible exact rv_eq rfl) | (with_reducible exact rv_ne rfl) | ((with_reducible refine rc_lenS ?_); (first | assumption | omega | decide | (simp only [S_len] at *; omega))) | ((with_reducible refine rc_lenL ?_); assumption) | ((with_reducible apply rv_ixL); assumption; rfl) | ((with_reducible refine rv_catS ?_); (first | assumption | omega | decide | (simp only [S_len] at *; omega))) | ((with_reducible refine rv_I ?_); (first | (show (0 : Int) < _; (first | assumption | omega | decide | (simp only [S_len] at *; omega))) | exact .inr ⟨by decide, by decide⟩ | exact .inl ⟨by (first | assumption | omega | decide | (simp only [S_len] at *; omega)), by (first | assumption | omega | decide | (simp only [S_len] at *; omega))⟩ | exact .inr ⟨by (first | assumption | omega | decide | (simp only [S_len] at *; omega)), by (first | assumption | omega | decide | (simp only [S_len] at *; omega))⟩ | exact ⟨by decide, by decide, by decide⟩ | exact wide_div (b := 128) (by (first | assumption | omega | decide | (simp only [S_len] at *; omega))) (by (first | assumption | omega | decide | (simp only [S_len] at *; omega))) (by decide) (by decide))))) (by omega) (fun i σ' H' => Ex H H' ∧ ∃ kv kw, σ' = [some (.str (S l)), some (.int a), some (.int b), some (.str (S (bstL l i))), kv, kw]) (fun H2 e2 => ⟨e1.trans e2, none, none, rfl⟩) ?_ ?_
    · rintro i σ' H' hi ⟨e, kv, kw, rfl⟩
      refine q_asg (v := .str (S (mvL l i))) (ev_moved hl (by exact ev_var rfl) (by exact ev_var rfl) rfl) fun H3 e3 => ?_
      refine s_when (b := decide (mvL l i < bstL l i)) (by first | ((with_reducible apply et_test); (repeat' (first | ((with_reducible refine ev_pow10 ?_ ?_ ?_) <;> first | rfl | decide) | (with_reducible refine fun (_ : _ = true) => ?_) | (with_reducible refine fun (_ : _ = false) => ?_) | (with_reducible exact ev_c) | ((with_reducible apply ev_var); rfl) | (with_reducible apply ev_op) | (with_reducible apply ev_un) | (with_reducible apply ev_cb) | (with_reducible apply ea_cons) | (with_reducible apply ev_andV) | (with_reducible apply ev_orV) | (with_reducible apply ev_notV) | (with_reducible apply ev_if) | (with_reducible apply eo_some) | (with_reducible apply el_lst) | (with_reducible exact ea_nil) | (with_reducible exact rv_I0) | (with_reducible exact ru_neg) | (with_reducible exact rv_ltS) | (with_reducible exact rv_inC) | (with_reducible exact rv_notInC) | (with_reducible exact rc_intI) | (with_reducible exact rc_intB) | (with_reducible exact rc_min2) | (with_reducible exact rc_isStr) | (with_reducible exact eo_none) | (with_reducible exact rv_inSS) | (with_reducible exact rv_notInSS) | (with_reducible exact rv_ltSS) | (with_reducible exact rv_eqSS) | (with_reducible exact rv_eqII) | (with_reducible exact rv_neII) | (with_reducible exact rv_neSS) | ((with_reducible refine rc_lenSS ?_); (first | assumption | omega | decide | (simp only [S_len] at *; omega))) | ((with_reducible refine rc_lenStr ?_); (first | assumption | omega | decide | (simp only [S_len] at *; omega))) | ((with_reducible refine rv_catSS ?_); (first | assumption | omega | decide | (simp only [S_len] at *; omega))) | (with_reducible exact rv_eq rfl) | (with_reducible exact rv_ne rfl) | ((with_reducible refine rc_lenS ?_); (first | assumption | omega | decide | (simp only [S_len] at *; omega))) | ((with_reducible refine rc_lenL ?_); assumption) | ((with_reducible apply rv_ixL); assumption; rfl) | ((with_reducible refine rv_catS ?_); (first | assumption | omega | decide | (simp only [S_len] at *; omega))) | ((with_reducible refine rv_I ?_); (first | (show (0 : Int) < _; (first | assumption | omega | decide | (simp only [S_len] at *; omega))) | exact .inr ⟨by decide, by decide⟩ | exact .inl ⟨by (first | assumption | omega | decide | (simp only [S_len] at *; omega)), by (first | assumption | omega | decide | (simp only [S_len] at *; omega))⟩ | exact .inr ⟨by (first | assumption | omega | decide | (simp only [S_len] at *; omega)), by (first | assumption | omega | decide | (simp only [S_len] at *; omega))⟩ | exact ⟨by decide, by decide, by decide⟩ | exact wide_div (b := 128) (by (first | assumption | omega | decide | (simp only [S_len] at *; omega))) (by (first | assumption | omega | decide | (simp only [S_len] at *; omega))) (by decide) (by decide)))))) | ((with_reducible apply et_B); (repeat' (first | ((with_reducible refine ev_pow10 ?_ ?_ ?_) <;> first | rfl | decide) | (with_reducible refine fun (_ : _ = true) => ?_) | (with_reducible refine fun (_ : _ = false) => ?_) | (with_reducible exact ev_c) | ((with_reducible apply ev_var); rfl) | (with_reducible apply ev_op) | (with_reducible apply ev_un) | (with_reducible apply ev_cb) | (with_reducible apply ea_cons) | (with_reducible apply ev_andV) | (with_reducible apply ev_orV) | (with_reducible apply ev_notV) | (with_reducible apply ev_if) | (with_reducible apply eo_some) | (with_reducible apply el_lst) | (with_reducible exact ea_nil) | (with_reducible exact rv_I0) | (with_reducible exact ru_neg) | (with_reducible exact rv_ltS) | (with_reducible exact rv_inC) | (with_reducible exact rv_notInC) | (with_reducible exact rc_intI) | (with_reducible exact rc_intB) | (with_reducible exact rc_min2) | (with_reducible exact rc_isStr) | (with_reducible exact eo_none) | (with_reducible exact rv_inSS) | (with_reducible exact rv_notInSS) | (with_reducible exact rv_ltSS) | (with_reducible exact rv_eqSS) | (with_reducible exact rv_eqII) | (with_reducible exact rv_neII) | (with_reducible exact rv_neSS) | ((with_reducible refine rc_lenSS ?_); (first | assumption | omega | decide | (simp only [S_len] at *; omega))) | ((with_reducible refine rc_lenStr ?_); (first | assumption | omega | decide | (simp only [S_len] at *; omega))) | ((with_reducible refine rv_catSS ?_); (first | assumption | omega | decide | (simp only [S_len] at *; omega))) | (with_reducible exact rv_eq rfl) | (with_reducible exact rv_ne rfl) | ((with_reducible refine rc_lenS ?_); (first | assumption | omega | decide | (simp only [S_len] at *; omega))) | ((with_reducible refine rc_lenL ?_); assumption) | ((with_reducible apply rv_ixL); assumption; rfl) | ((with_reducible refine rv_catS ?_); (first | assumption | omega | decide | (simp only [S_len] at *; omega))) | ((with_reducible refine rv_I ?_); (first | (show (0 : Int) < _; (first | assumption | omega | decide | (simp only [S_len] at *; omega))) | exact .inr ⟨by decide, by decide⟩ | exact .inl ⟨by (first | assumption | omega | decide | (simp only [S_len] at *; omega)), by (first | assumption | omega | decide | (simp only [S_len] at *; omega))⟩ | exact .inr ⟨by (first | assumption | omega | decide | (simp only [S_len] at *; omega)), by (first | assumption | omega | decide | (simp only [S_len] at *; omega))⟩ | exact ⟨by decide, by decide, by decide⟩ | exact wide_div (b := 128) (by (first | assumption | omega | decide | (simp only [S_len] at *; omega))) (by (first | assumption | omega | decide | (simp only [S_len] at *; omega))) (by decide) (by decide))))))) (fun hc H4 e4 => ?_) (fun hc H4 e4 => ?_)
      · refine s_asg (by exact ev_var rfl) fun H5 e5 => ⟨((e.trans e3).trans e4).trans e5, some (.int (i : Int)), some (.str (S (mvL l i))), ?_⟩
        have hb : bstL l (i + 1) = mvL l i := if_pos (of_decide_eq_true hc)
        rw [hb]
        rfl
      · refine ⟨(e.trans e3).trans e4, some (.int (i : Int)), some (.str (S (mvL l i))), ?_⟩
        have hb : bstL l (i + 1) = bstL l i := if_neg (of_decide_eq_false hc)
        rw [hb]
        rfl
    · rintro σ' H' ⟨e, kv, kw, rfl⟩
      rw [Int.toNat_natCast]
      refine q_forNLn (xs := [V.int 0, V.int 1, V.int a, V.int b, V.int (a + b)]) (el_lst (by repeat' (first | ((with_reducible refine ev_pow10 ?_ ?_ ?_) <;> first | rfl | decide) | (with_reducible refine fun (_ : _ = true) => ?_) | (with_reducible refine fun (_ : _ = false) => ?_) | (with_reducible exact ev_c) | ((with_reducible apply ev_var); rfl) | (with_reducible apply ev_op) | (with_reducible apply ev_un) | (with_reducible apply ev_cb) | (with_reducible apply ea_cons) | (with_reducible apply ev_andV) | (with_reducible apply ev_orV) | (with_reducible apply ev_notV) | (with_reducible apply ev_if) | (with_reducible apply eo_some) | (with_reducible apply el_lst) | (with_reducible exact ea_nil) | (with_reducible exact rv_I0) | (with_reducible exact ru_neg) | (with_reducible exact rv_ltS) | (with_reducible exact rv_inC) | (with_reducible exact rv_notInC) | (with_reducible exact rc_intI) | (with_reducible exact rc_intB) | (with_reducible exact rc_min2) | (with_reducible exact rc_isStr) | (with_reducible exact eo_none) | (with_reducible exact rv_inSS) | (with_reducible exact rv_notInSS) | (with_reducible exact rv_ltSS) | (with_reducible exact rv_eqSS) | (with_reducible exact rv_eqII) | (with_reducible exact rv_neII) | (with_reducible exact rv_neSS) | ((with_reducible refine rc_lenSS ?_); (first | assumption | omega | decide | (simp only [S_len] at *; omega))) | ((with_reducible refine rc_lenStr ?_); (first | assumption | omega | decide | (simp only [S_len] at *; omega))) | ((with_reducible refine rv_catSS ?_); (first | assumption | omega | decide | (simp only [S_len] at *; omega))) | (with_reducible exact rv_eq rfl) | (with_reducible exact rv_ne rfl) | ((with_reducible refine rc_lenS ?_); (first | assumption | omega | decide | (simp only [S_len] at *; omega))) | ((with_reducible refine rc_lenL ?_); assumption) | ((with_reducible apply rv_ixL); assumption; rfl) | ((with_reducible refine rv_catS ?_); (first | assumption | omega | decide | (simp only [S_len] at *; omega))) | ((with_reducible refine rv_I ?_); (first | (show (0 : Int) < _; (first | assumption | omega | decide | (simp only [S_len] at *; omega))) | exact .inr ⟨by decide, by decide⟩ | exact .inl ⟨by (first | assumption | omega | decide | (simp only [S_len] at *; omega)), by (first | assumption | omega | decide | (simp only [S_len] at *; omega))⟩ | exact .inr ⟨by (first | assumption | omega | decide | (simp only [S_len] at *; omega)), by (first | assumption | omega | decide | (simp only [S_len] at *; omega))⟩ | exact ⟨by decide, by decide, by decide⟩ | exact wide_div (b := 128) (by (first | assumption | omega | decide | (simp only [S_len] at *; omega))) (by (first | assumption | omega | decide | (simp only [S_len] at *; omega))) (by decide) (by decide))))) (by simp)) (fun p i σ' H' => Ex H H' ∧ H' p = some (.lst [V.int 0, V.int 1, V.int a, V.int b, V.int (a + b)]) ∧ ∃ kv, σ' = [some (.str (S l)), some (.int a), some (.int b), some (.str (S (bstL l l.length))), kv, kw]) (fun p H6 hp e6 h6 => ⟨e.trans e6, h6, _, rfl⟩) (fun p i σ' H' _ hP => SqL.of hP.2.1) ?_ ?_
      · rintro p i x σ' H' hx ⟨e, hp, kv, rfl⟩
        obtain ⟨k, rfl⟩ : ∃ k : Int, x = .int k := by
          have hm := List.mem_of_getElem? hx
          simp only [List.mem_cons, List.not_mem_nil, or_false] at hm
          rcases hm with rfl | rfl | rfl | rfl | rfl <;> exact ⟨_, rfl⟩
        refine s_when (b := !true) (et_not (et_test (ev_text (ev_least (hg.mv k) (by rw [mvL_len]; exact hl) (ev_moved hl (by exact ev_var rfl) (by exact ev_var rfl) rfl) (ltv_mv l k)) (by exact ev_var rfl) rfl))) (fun hc => by cases hc) (fun _ H7 e7 => ?_)
        exact ⟨e.trans e7, e7 _ _ hp, _, rfl⟩
      · rintro p σ' H' ⟨e, hp, kv, rfl⟩
        exact s_ret (by exact ev_c) fun H7 e7 => q H7 (e.trans e7)
end
end K01
namespace K01
open PySem PySem.Spec PyProof.Rows L2 Lc Evl
section
variable {P : Program} {w : World} {K : PySem.W.Frag} {mg : Str → Option Value} {base : Heap}
/-! ### the law -/
def sp_law (K : PySem.W.Frag) : Sp := fun vs H Q _ => ∃ (a : Addr) (ns : List Int), vs = [.ref a] ∧ SqL K H a (ns.map V.int) ∧ ∀ H1, Q (.bl true) H1
theorem new_seq {H H1 H2 : Hp} {a b : Addr} {xs : List V} (hs : SqL K H a xs) (hb : H b = none) (e : Ex H H1) (e2 : ExB b H1 H2) : SqL K H2 a xs := by
  have k : ∀ o, H a = some o → H2 a = some o := fun o h => e2 a o (fun z => by rw [z, hb] at h; cases h) (e a o h)
  rcases hs with (h | ⟨o, h⟩) | h
  · exact .inl (.inl (k _ h))
  · exact .inl (.inr ⟨o, k _ h⟩)
  · exact .inr h
theorem bx_other {H : Hp} {b c : Addr} {v w : V} (hb : Bx H b) (hc : H c = none) : b ≠ c := fun z => by
  obtain ⟨i, j, k, h⟩ := hb
  rw [z, hc] at h
  cases h
theorem refuses_at {σ : L2.St} {H : Hp} {tw tb : TE} {i : Nat} {l : List Nat} {w b : Int} (hr : Row l) (hg : ¬ Good l) (h1 : Ev tw σ H (.int w)) (h2 : σ[i]? = some (some (.str (S l)))) (h3 : Ev tb σ H (.int b)) : Ev (tCall sp_law_refuses [] E0 (tCons tw (tCons (tVar i) (tCons tb tNil)))) σ H (.bl true) :=
  ev_call (ea_cons h1 (ea_cons (ev_var h2) (ea_cons h3 ea_nil))) fun H1 e1 Q q E => ⟨w, l, b, rfl, hr, hg, q⟩
theorem ok_law (T : Tx K mg) : OkD P w K mg base 7 d_law ps_law (sp_law K) := by
  refine (h_law T).ok sc_law (fun vs H Q E h => ?_) (fun cdv A outer s H vs Q E hr h => ⟨_,
      (pss_cons (ps_set (i := 1) sc_law.nd rfl (Or.inl rfl) (pe_call (ok_law_box (P := P) (w := w) (base := base) T) (hr.mono (by decide)) (by rfl) (m_law_box T) (k_law_box T) (b_law_box T) .nil passN (pa_cons (pv 0) (pa_cons pe_int pa_nil))))
      (pss_cons (ps_set (i := 2) sc_law.nd rfl (Or.inl rfl) (pe_call (ok_law_row (P := P) (w := w) (base := base) T) (hr.mono (by decide)) (by rfl) (m_law_row T) (k_law_row T) (b_law_row T) .nil passN (pa_cons (pv 0) (pa_cons (pv 1) pa_nil))))
      (pss_cons (ps_set (i := 3) sc_law.nd rfl (Or.inl rfl) (pe_call (ok_law_shift (P := P) (w := w) (base := base) T) (hr.mono (by decide)) (by rfl) (m_law_shift T) (k_law_shift T) (b_law_shift T) .nil passN (pa_cons (pe_call (ok_law_box (P := P) (w := w) (base := base) T) (hr.mono (by decide)) (by rfl) (m_law_box T) (k_law_box T) (b_law_box T) .nil passN (pa_cons (pv 0) (pa_cons pe_int pa_nil))) (pa_cons (pe_callB call_len_str (by rfl) (m_len T) (by decide +kernel) (pa_cons (pv 2) pa_nil)) pa_nil))))
      (pss_cons (ps_set (i := 4) sc_law.nd rfl (Or.inl rfl) (pe_call (ok_law_shift (P := P) (w := w) (base := base) T) (hr.mono (by decide)) (by rfl) (m_law_shift T) (k_law_shift T) (b_law_shift T) .nil passN (pa_cons (pe_call (ok_law_box (P := P) (w := w) (base := base) T) (hr.mono (by decide)) (by rfl) (m_law_box T) (k_law_box T) (b_law_box T) .nil passN (pa_cons (pv 0) (pa_cons pe_int pa_nil))) (pa_cons (pe_callB call_len_str (by rfl) (m_len T) (by decide +kernel) (pa_cons (pv 2) pa_nil)) pa_nil))))
      (pss_cons (ps_if (PW.pt (pw_or (pt_not (pt_val (pe_call (ok_law_turns (P := P) (w := w) (base := base) T) (hr.mono (by decide)) (by rfl) (m_law_turns T) (k_law_turns T) (b_law_turns T) .nil passN (pa_cons (pv 2) (pa_cons (pv 3) (pa_cons (pv 4) pa_nil)))))) (pw_or1 (pt_not (pt_val (pe_call (ok_law_mirrors (P := P) (w := w) (base := base) T) (hr.mono (by decide)) (by rfl) (m_law_mirrors T) (k_law_mirrors T) (b_law_mirrors T) .nil passN (pa_cons (pv 2) (pa_cons (pv 3) pa_nil)))))))) (pss_one (ps_ret pe_bl)) pss_nil)
      (pss_cons (ps_if (pt_not (pt_val (pe_call (ok_law_least (P := P) (w := w) (base := base) T) (hr.mono (by decide)) (by rfl) (m_law_least T) (k_law_least T) (b_law_least T) .nil passN (pa_cons (pv 2) (pa_cons (pv 3) (pa_cons (pv 4) pa_nil)))))) (pss_one (ps_ret pe_bl)) pss_nil)
      (pss_cons (ps_set (i := 5) sc_law.nd rfl (Or.inl rfl) (pe_call (ok_law_bent (P := P) (w := w) (base := base) T) (hr.mono (by decide)) (by rfl) (m_law_bent T) (k_law_bent T) (b_law_bent T) .nil passN (pa_cons (pv 1) (pa_cons (pv 2) pa_nil))))
      (pss_cons (ps_for (passes_of rfl) rfl (pi_list (pe_lst (pa_cons pe_int (pa_cons pe_int (pa_cons (pe_callB call_len_str (by rfl) (m_len T) (by decide +kernel) (pa_cons (pv 5) pa_nil)) (pa_cons (pv 3) (pa_cons (pv 4) pa_nil))))))) (pg_name (i := 6) sc_law.nd rfl (Or.inl rfl)) (pss_one (ps_if (pt_not (pt_val (pe_call (ok_law_refuses (P := P) (w := w) (base := base) T) (hr.mono (by decide)) (by rfl) (m_law_refuses T) (k_law_refuses T) (b_law_refuses T) .nil passN (pa_cons pe_int (pa_cons (pv 5) (pa_cons (pv 6) pa_nil)))))) (pss_one (ps_ret pe_bl)) pss_nil)))
      (pss_one (ps_ret (pe_and (pe_call (ok_law_refuses (P := P) (w := w) (base := base) T) (hr.mono (by decide)) (by rfl) (m_law_refuses T) (k_law_refuses T) (b_law_refuses T) .nil passN (pa_cons pe_int (pa_cons (pv 5) (pa_cons pe_int pa_nil)))) (pe_one (pe_call (ok_law_refuses (P := P) (w := w) (base := base) T) (hr.mono (by decide)) (by rfl) (m_law_refuses T) (k_law_refuses T) (b_law_refuses T) .nil passN (pa_cons pe_int (pa_cons (pv 5) (pa_cons pe_int pa_nil)))))))))))))))), ?_⟩)
  · obtain ⟨a, ns, rfl, _⟩ := h
    rfl
  · obtain ⟨a, ns, rfl, hs, q⟩ := h
    refine ⟨_, rfl, a, ns, 0, rfl, hs, by decide, by decide, fun b H1 hb e1 bb => ?_⟩
    refine ⟨_, rfl, _, rfl, a, b, ns, rfl, new_seq hs hb e1 (ExB.refl _), fun H2 e2 => new_seq hs hb e1 e2, bb, fun l H2 hg hl e2 b2 => ?_⟩
    have hs2 := new_seq hs hb e1 e2
    dsimp only
    refine ⟨_, rfl, a, ns, 2, rfl, hs2, by decide, by decide, fun c H3 hc e3 bc => ?_⟩
    have hs3 := ex_l e3 hs2
    have b3 := b2.ex e3
    have hbc := bx_ne b2 hc
    refine ⟨_, rfl, S l, rfl, sz_of (by rw [S_len]; omega), ?_⟩
    refine ⟨c, _, rfl, bc, by omega, by rw [S_len]; omega, fun first H4 e4 bc4 => ?_⟩
    have hs4 : SqL K H4 a (ns.map V.int) := new_seq hs2 hc e3 e4
    have b4 := e4.bx hbc b3
    dsimp only
    refine ⟨_, rfl, a, ns, 3, rfl, hs4, by decide, by decide, fun d H5 hd e5 bd => ?_⟩
    have b5 := b4.ex e5
    have hbd := bx_ne b4 hd
    refine ⟨_, rfl, S l, rfl, sz_of (by rw [S_len]; omega), ?_⟩
    refine ⟨d, _, rfl, bd, by omega, by rw [S_len]; omega, fun second H6 e6 bd6 => ?_⟩
    have b6 := e6.bx hbd b5
    dsimp only
    clear hs2 hs3 hs4 hs b2 b3 b4 b5 bb bc bc4 bd bd6 e1 e2 e3 e4 e5 e6
    refine q_when (b := (!true || !true)) (et_or (et_not (et_test (ev_call (ea_cons (by exact ev_var rfl) (ea_cons (by exact ev_var rfl) (ea_cons (by exact ev_var rfl) ea_nil))) fun H1 e1 Q q E => ⟨l, first, second, rfl, hg, hl, q⟩))) fun _ => et_not (et_test (ev_call (ea_cons (by exact ev_var rfl) (ea_cons (by exact ev_var rfl) ea_nil)) fun H1 e1 Q q E => ⟨l, first, rfl, hg, hl, q⟩))) (fun hc => by cases hc) (fun _ H7 e7 => ?_)
    refine q_when (b := !true) (et_not (et_test (ev_call (ea_cons (by exact ev_var rfl) (ea_cons (by exact ev_var rfl) (ea_cons (by exact ev_var rfl) ea_nil))) fun H1 e1 Q q E => ⟨l, first, second, rfl, hg, hl, q⟩))) (fun hc => by cases hc) (fun _ H8 e8 => ?_)
    refine ⟨_, rfl, _, rfl, b, l, rfl, b6.ex (e7.trans e8), hg, by omega, fun m H9 hr hm e9 b9 => ?_⟩
    dsimp only
    have hml : m.length ≤ 1000 := hr.1
    refine q_forNLn (xs := [V.int 0, V.int 1, V.int m.length, V.int first, V.int second]) (el_lst (by repeat' (first | ((with_reducible refine ev_pow10 ?_ ?_ ?_) <;> first | rfl | decide) | (with_reducible refine fun (_ : _ = true) => ?_) | (with_reducible refine fun (_ : _ = false) => ?_) | (with_reducible exact ev_c) | ((with_reducible apply ev_var); rfl) | (with_reducible apply ev_op) | (with_reducible apply ev_un) | (with_reducible apply ev_cb) | (with_reducible apply ea_cons) | (with_reducible apply ev_andV) | (with_reducible apply ev_orV) | (with_reducible apply ev_notV) | (with_reducible apply ev_if) | (with_reducible apply eo_some) | (with_reducible apply el_lst) | (with_reducible exact ea_nil) | (with_reducible exact rv_I0) | (with_reducible exact ru_neg) | (with_reducible exact rv_ltS) | (with_reducible exact rv_inC) | (with_reducible exact rv_notInC) | (with_reducible exact rc_intI) | (with_reducible exact rc_intB) | (with_reducible exact rc_min2) | (with_reducible exact rc_isStr) | (with_reducible exact eo_none) | (with_reducible exact rv_inSS) | (with_reducible exact rv_notInSS) | (with_reducible exact rv_ltSS) | (with_reducible exact rv_eqSS) | (with_reducible exact rv_eqII) | (with_reducible exact rv_neII) | (with_reducible exact rv_neSS) | ((with_reducible refine rc_lenSS ?_); (first | assumption | omega | decide | (simp only [S_len] at *; omega))) | ((with_reducible refine rc_lenStr ?_); (first | assumption | omega | decide | (simp only [S_len] at *; omega))) | ((with_reducible refine rv_catSS ?_); (first | assumption | omega | decide | (simp only [S_len] at *; omega))) | (with_reducible exact rv_eq rfl) | (with_reducible exact rv_ne rfl) | ((with_reducible refine rc_lenS ?_); (first | assumption | omega | decide | (simp only [S_len] at *; omega))) | ((with_reducible refine rc_lenL ?_); assumption) | ((with_reducible apply rv_ixL); assumption; rfl) | ((with_reducible refine rv_catS ?_); (first | assumption | omega | decide | (simp only [S_len] at *; omega))) | ((with_reducible refine rv_I ?_); (first | (show (0 : Int) < _; (first | assumption | omega | decide | (simp only [S_len] at *; omega))) | exact .inr ⟨by decide, by decide⟩ | exact .inl ⟨by (first | assumption | omega | decide | (simp only [S_len] at *; omega)), by (first | assumption | omega | decide | (simp only [S_len] at *; omega))⟩ | exact .inr ⟨by (first | assumption | omega | decide | (simp only [S_len] at *; omega)), by (first | assumption | omega | decide | (simp only [S_len] at *; omega))⟩ | exact ⟨by decide, by decide, by decide⟩ | exact wide_div (b := 128) (by (first | assumption | omega | decide | (simp only [S_len] at *; omega))) (by (first | assumption | omega | decide | (simp only [S_len] at *; omega))) (by decide) (by decide))))) (by simp)) (fun p i σ' H' => H' p = some (.lst [V.int 0, V.int 1, V.int m.length, V.int first, V.int second]) ∧ ∃ kv, σ' = [some (.ref a), some (.ref b), some (.str (S l)), some (.int first), some (.int second), some (.str (S m)), kv]) (fun p H6 hp e6 h6 => ⟨h6, none, rfl⟩) (fun p i σ' H' _ hP => SqL.of hP.1) ?_ ?_
    · rintro p i x σ' H' hx ⟨hp, kv, rfl⟩
      obtain ⟨k, rfl⟩ : ∃ k : Int, x = .int k := by
        have hm := List.mem_of_getElem? hx
        simp only [List.mem_cons, List.not_mem_nil, or_false] at hm
        rcases hm with rfl | rfl | rfl | rfl | rfl <;> exact ⟨_, rfl⟩
      refine s_when (b := !true) (et_not (et_test (refuses_at hr hm ev_c rfl (by exact ev_var rfl)))) (fun hc => by cases hc) (fun _ H7 e7 => ?_)
      exact ⟨e7 _ _ hp, _, rfl⟩
    · rintro p σ' H' ⟨hp, kv, rfl⟩
      exact s_ret (v := .bl (true && true)) (ev_andV (refuses_at hr hm ev_c rfl ev_c) (fun _ => refuses_at hr hm ev_c rfl ev_c)) fun H7 e7 => q H7
end
end K01
namespace K01
open PySem PySem.Spec PyProof.Rows L2 Lc Evl
theorem walkX {l : PySem.W.OpenLaw} {m lev : Nat} {qp : Program} {los : List Str} {Xq : (Str → Option Value) → Heap → Prop} {Yq : World → Heap → Prop} {dr : DefRec} {z : Str}
    (h1 : l.most = some m) (h2 : m ≤ sizeLine) (h3 : dr.params.defaults = []) (h4 : Room lev callerA)
    (F : ∀ (w : World) (mg : Str → Option Value) (g : Addr) (hp : Heap), Yq w hp → hp.Ns mainGlobals mg → mg dr.name = some (.ref g) → ∃ (K : PySem.W.Frag) (fd : FuncData) (sp : Sp), K.In hp ∧
        (∀ (t : Shared) (v : Value), BindsTo t fd ⟨[v], []⟩ [(z, v)]) ∧ (∀ (H : Hp) (c : Addr) (is : List Int), SqL K H c (is.map V.int) → sp [.ref c] H (fun r _ => r = .bl true) fun _ _ _ => False) ∧
        ∀ b : Heap, K.In b → b.Ns mainGlobals mg → FnOk l.prog w K mg b (L2N.CX l.prog w) lev g fd [z] sp) : PySem.W.WalkO qp los Xq Yq l.row.toRowW dr [] (fun f vs => PySem.call f vs) := by
  refine Att.attach_call h1 h3 fun w _ _ mg _ g _ _ _ _ _ _ is G Y _ _ _ k1 ho hi hl hg => ?_
  obtain ⟨K, fd, sp, KX, hb, hsp, hF⟩ := F w mg g _ Y G.T.g k1
  refine law_call KX G.T.g G.T.b G.T.builtins G.T.nolimit hg ho hi (Nat.le_trans hl h2) h4 hF hb (fun H _ hS => hsp H _ is hS) ?_
  intro H e s' h
  obtain ⟨_, _, _, _, _, _, _, _, _, _, _, _, no⟩ := h
  exact no
theorem facts {P : Program} {w : World} {K : PySem.W.Frag} {h : Heap} {mg : Str → Option Value} {f : Addr} (X : K.In h) (G : h.Ns mainGlobals mg) (hfa : mg ("law" : Str) = some (.ref f)) (c : SaysM fa fn ex K) :
    ∃ fd : FuncData, (∀ (s : Shared) (v : Value), BindsTo s fd ⟨[v], []⟩ [("script", v)]) ∧ ∀ base : Heap, K.In base → base.Ns mainGlobals mg → FnOk P w K mg base (L2N.CX P w) 7 f fd ["script"] (sp_law K) := by
  have T : Tx K mg := ⟨⟨h, X, G⟩, c⟩
  have e := hfa.symm.trans (m_law T)
  cases e
  have b := FunD.bindsA (ps := ["script"]) (h_law T) fun _ _ _ _ _ _ us hl => match us, hl with | [_], _ => rfl
  exact ⟨_, fun s v => b s [v] rfl, fun base _ _ => ok_law T⟩
end K01
open PySem PySem.W PySem.Calls PyProof.Rows
theorem PySem.Challenge.cw_leapcard_k01_turns_and_mirrors_holds : PySem.Challenge.rw_leapcard_k01_turns_and_mirrors.Holds := by
  w_on; o_law
  refine HandSHeadRun.head_any (r := OpenLaw.row PySem.Challenge.rw_leapcard_k01_turns_and_mirrors) (q := view (OpenLaw.row PySem.Challenge.rw_leapcard_k01_turns_and_mirrors).prog [28]) (H := K01.hk) (ob := K01.ob) (M := 6000) (loose := K01.names) (d := HandSHeadRun.topDef (OpenLaw.row PySem.Challenge.rw_leapcard_k01_turns_and_mirrors).prog 28) (kwd := []) K01.ob_eq
    (by kernel_rfl) (fun s => by kernel_rfl) K01.run (by kernel_rfl) (by kernel_rfl) (by kernel_rfl) (by rfl) (by first | assumption | decide +kernel) (by decide +kernel) ⟨rfl, rfl, rfl, rfl, rfl, by decide +kernel⟩ ?hw ?hc
  case hw => w_witness2
  case hc =>
    refine K01.walkX (l := PySem.Challenge.rw_leapcard_k01_turns_and_mirrors) (m := 63) (lev := 7) (z := "script") rfl (by decide) (by kernel_rfl) ⟨rfl, by decide, by decide⟩ ?F
    intro w mg fa h Y G hmg0
    obtain ⟨K, KX, c⟩ := Y
    have hmg : mg ("law" : PySem.Str) = some (.ref fa) := by
      have e : (HandSHeadRun.topDef (OpenLaw.row PySem.Challenge.rw_leapcard_k01_turns_and_mirrors).prog 28).name = ("law" : PySem.Str) := by kernel_rfl
      rw [← e]
      exact hmg0
    obtain ⟨fd, hb, hF⟩ := K01.facts (P := (PySem.Challenge.rw_leapcard_k01_turns_and_mirrors).prog) (w := w) KX G hmg c
    exact ⟨K, fd, K01.sp_law K, KX, hb, fun H a ns hS => ⟨a, ns, rfl, hS, fun _ => rfl⟩, hF⟩
