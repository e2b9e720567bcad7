import PyProof.Rows.All
import Wide.All
import OpenK.AllK
import Wide.FinOn
import HandS.ForMost
import HandS.Exc
import HandS.ExcInit
import HandS.ExcCtx
import HandS.ExcField
import HandS.ExcIs
import HandS.TryOnly
import HandS.ExcOwn
import HandS.CallSlots
import HandS.WordsExc
import HandS.HotCalls
import HandS.SuiteRaise
import HandS.Defaults
import HandS.Wide
import HandS.FStr
import HandS.StrMore
import HandS.IsInst
import HandS.Evl
import HandS.Head0
import HandS.Head1
import HandS.Head2
import HandS.HeadEnd
import HandS.HeadHook1
import HandS.HeadHook2
import HandS.EndBits
import HandS.HeadHook3
import HandS.HeadNt
import HandS.More
import HandS.ClsMeth
import HandS.Style
import HandS.SortKw
import KE.KRevSl
import KE.DatumOrd
import KE.KCallOwn
import HandS.OwnEq
import HandS.ReplaceLit
import HandS.ReplaceDef
import HandS.FStrTup
import HandS.Conv
import PyProof.CollectStr
import HandS.ReplaceList
import PySem.Challenge.RW_leapcard_k00_sign_strings_and_marks
set_option Elab.async false
set_option linter.all false
set_option maxRecDepth 100000
set_option maxHeartbeats 2000000
namespace Lc
open PySem PySem.Spec PyProof.Rows L2

/-! ### an error class, whatever own classes stand between it and ValueError -/
def excC (K : PySem.W.Frag) (C : Addr) : Bool := match K.lookup C with
  | some ⟨.type "type", _, .cls cd, sl⟩ => (match cd.mro, sl.toList with
    | .ref C' :: bm, [_, _, _, _, some (.builtin n), _] => C' == C && (n == "ValueError.__new__" && (!cd.hasDel && (cd.hasDict && PySem.HandSPX.refsVE bm)))
    | _, _ => false)
  | _ => false
theorem excC_ok {K : PySem.W.Frag} {C : Addr} (q : excC K C = true) :
    ∃ nm q N bs bm sn sub ab col dd k0 k1 k2 k3 k5, K.lookup C = some (excClassObj nm q C N bs bm true sn sub ab col dd k0 k1 k2 k3 k5 "ValueError.__new__") ∧ PySem.HandSPX.refsVE bm = true := by
  unfold excC at q
  split at q
  · rename_i dd cd sl ho
    split at q
    · rename_i C' bm k0 k1 k2 k3 n k5 hm hs
      simp only [Bool.and_eq_true, beq_iff_eq, Bool.not_eq_true'] at q
      obtain ⟨rfl, rfl, hdel, hd, hv⟩ := q
      obtain ⟨nm, bs, mro, ns, qn, hdd, sn, sub, ab, col, del⟩ := cd
      dsimp only at hm hdel hd
      subst hm hdel hd
      have hsl : sl = #[k0, k1, k2, k3, some (.builtin "ValueError.__new__"), k5] := by
        obtain ⟨l⟩ := sl
        simp only at hs
        rw [hs]
      subst hsl
      exact ⟨nm, qn, ns, bs, bm, sn, sub, ab, col, dd, k0, k1, k2, k3, k5, ho, hv⟩
    · cases q
  · cases q
def oexB (K : PySem.W.Frag) (C : Addr) : Bool := excC K C && (decide (PySem.W.findIn K (.ref C) "__setattr__" = some (some (.builtin "object.__setattr__"))) && (decide (PySem.W.subIn K (.ref C) (.type "BaseException") = some true) &&
  (decide (PySem.W.typeIn K (.ref C) = some (.type "type")) && PySem.W.keepIn K (.ref C))))
theorem oexB_ok {K : PySem.W.Frag} {C : Addr} (h : oexB K C = true) : OexC K C := by
  obtain ⟨h1, h⟩ := Bool.and_eq_true_iff.mp h
  obtain ⟨h2, h⟩ := Bool.and_eq_true_iff.mp h
  obtain ⟨h3, h⟩ := Bool.and_eq_true_iff.mp h
  obtain ⟨h4, h5⟩ := Bool.and_eq_true_iff.mp h
  exact ⟨excC_ok h1, of_decide_eq_true h2, of_decide_eq_true h3, of_decide_eq_true h4, h5⟩

/-! ### the facts of a head: names, defs, tables with text keys, one more Bool -/
abbrev AlE : Type := He.AlD × (List (Option (List (Option (Str × Int)))) × Bool)
def asM (g : Addr → Option Obj) (n : Nat) : List Addr := He.asD g n ++ [cStatics]
def obsE (fa : List He.Fa) (fn : List He5.DefA) (ts : List He.Tab) (ex : PySem.W.Frag → Bool) (K : PySem.W.Frag) : AlE := (He5.obsA fa fn K, ts.map (fun t => He.dicW K (t.1 K)), ex K)
def obsEG (n : Nat) (fa : List He.Fa) (fn : List He5.DefA) (ts : List He.Tab) (ex : PySem.W.Frag → Bool) (g : Addr → Option Obj) : AlE := obsE fa fn ts ex (He.frG g (asM g n))
structure SaysM (fa : List He.Fa) (fn : List He5.DefA) (ts : List He.Tab) (ex : PySem.W.Frag → Bool) (w : World) (K : PySem.W.Frag) : Prop where
  a : He5.SaysA fa fn K
  t : ts.map (fun t => He.dicW K (t.1 K)) = ts.map fun t => some (He.keysIn w.params t.2)
  e : ex K = true
def hookM (n : Nat) (fa : List He.Fa) (fn : List He5.DefA) (ts : List He.Tab) (ex : PySem.W.Frag → Bool) : PySem.W.Hook where
  α := AlE
  obs := fun s => obsEG n fa fn ts ex s.heap.get?
  val := fun w => (He5.valA fn, ts.map (fun t : He.Tab => some (He.keysIn w.params t.2)), true)
  says := fun w h => ∃ K : PySem.W.Frag, K.In h ∧ SaysM fa fn ts ex w K
  of := fun _ _ e => ⟨_, He.frG_in, congrArg (fun z : AlE => z.1) e, congrArg (fun z : AlE => z.2.1) e, congrArg (fun z : AlE => z.2.2) e⟩
  keeps := fun _ _ _ ⟨K, hK, c⟩ k => ⟨K, PySem.W.Frag.In.keeps hK k, c⟩
theorem obsEG_eq {n : Nat} {fa : List He.Fa} {fn : List He5.DefA} {ts : List He.Tab} {ex : PySem.W.Frag → Bool} {g : Addr → Option Obj} {s : Shared} (h : ∀ a, g a = s.heap.get? a) : obsEG n fa fn ts ex g = (hookM n fa fn ts ex).obs s := by
  have e : g = s.heap.get? := funext h
  rw [e] <;> rfl
theorem SaysM.tab {fa : List He.Fa} {fn : List He5.DefA} {ts : List He.Tab} {ex : PySem.W.Frag → Bool} {w : World} {K : PySem.W.Frag} (c : SaysM fa fn ts ex w K) (i : Nat) {t : He.Tab} (h : ts[i]? = some t := by rfl) : ∃ es n, KDict K w (t.1 K) es n := by
  have e : (ts.map fun t => He.dicW K (t.1 K))[i]? = (ts.map fun t => some (He.keysIn w.params t.2))[i]? := by rw [c.t]
  rw [List.getElem?_map, List.getElem?_map, h] at e
  exact He.dicW_ok (Option.some.inj e)

/-! ### a def of the text, found by where it stands -/
instance : Inhabited FuncData := ⟨PySem.W.fnOf "" "" { posonlyargs := [], args := [], vararg := none, kwonlyargs := [], kw_defaults := [], kwarg := none, defaults := [] } [] { kind := .function, names := [], isGenerator := false, isCoroutine := false } .none .none .none .none none .none .none⟩
def fdOf (K : PySem.W.Frag) (f : Addr) : FuncData := match K.lookup f with
  | some ⟨_, _, .func fd, _⟩ => fd
  | _ => default
abbrev HasD (K : PySem.W.Frag) (d : He5.DefA) : Prop := FunD K d.name d.qual d.params d.body d.scope (d.dvs K) (d.kws K) (d.at_ K) (fdOf K (d.at_ K))
theorem fdOf_eq {K : PySem.W.Frag} {x qual : Str} {pa : Arguments} {bd : List Stmt} {sc : Scope} {dvs : List V} {kws : List (Str × V)} {f : Addr} {fd : FuncData} (F : FunD K x qual pa bd sc dvs kws f fd) : fdOf K f = fd := by
  obtain ⟨oc, od, dV, kV, doc, pm, an, cdv, ct, osl, rfl, lk, _⟩ := F.ex
  unfold fdOf
  rw [lk]
theorem has_of {fa : List He.Fa} {fn : List He5.DefA} {K : PySem.W.Frag} (c : He5.SaysA fa fn K) (i : Nat) {d : He5.DefA} (h : fn[i]? = some d) : HasD K d := by
  obtain ⟨fd, F⟩ := c.def_ i h
  show FunD K d.name d.qual d.params d.body d.scope (d.dvs K) (d.kws K) (d.at_ K) (fdOf K (d.at_ K))
  rw [fdOf_eq F]
  exact F
abbrev OkD (P : Program) (w : World) (K : PySem.W.Frag) (mg : Str → Option Value) (base : Heap) (k : Nat) (d : He5.DefA) (ps : List Str) (sp : Sp) : Prop := FnOk P w K mg base (L2N.CX P w) k (d.at_ K) (fdOf K (d.at_ K)) ps sp
end Lc
namespace Lc
open PySem PySem.Spec PyProof.Rows L2
section
variable {X : Cx}
/-! ### s[::-1] of a text -/
def revS (z : Str) : Str := ⟨z.cps.toList.reverse.toArray⟩
def tRevS (te : TE) : TE := fun σ H Q => te σ H fun x H1 => ∃ z, x = .str z ∧ z.length ≤ sizeLine ∧ Q (.str (revS z)) H1
theorem revS_picks (z : Str) : ((Builtin.Str.strSliceIndices none none (-1) z.length).filterMap (z.cps[·]?)).toArray = z.cps.toList.reverse.toArray := by
  have e : Builtin.Str.strSliceIndices none none (-1) z.length = sliceRange ((z.length : Int) - 1) (-1) (-1) := by
    first
      | rfl
      | simp [Builtin.Str.strSliceIndices]
  rw [e, PySem.W.krv_sliceRange, PySem.W.krv_range, List.filterMap_reverse]
  have h := PySem.W.krv_all z.cps
  exact congrArg (fun l : List Nat => l.reverse.toArray) h
theorem pe_revS {e : Expr} {te : TE} {k : Nat} {p1 p2 p3 pos : Pos} (he : PE X e te) : PE X (.Subscript e (.Slice none none (some (.UnaryOp .USub (.Constant (.int 1) k p1) p2)) p3) pos) (tRevS te) := by
  refine ⟨fun pins s σ H Q I h => ?_⟩
  refine Subscript_ (thn (he.run pins s σ H _ I h) fun v s1 ⟨x, H1, I1, r1, q1⟩ => ?_)
  obtain ⟨z, ex, hz, q⟩ := q1
  subst ex
  obtain ⟨t, rfl⟩ := r1
  have hst : PO X (some (.UnaryOp .USub (.Constant (.int 1) k p1) p2)) (tPart (tUn (rU fun i => .int (-i)) (tC (.int 1)))) := po_some (pe_un un_neg pe_int)
  refine wpAny_Slice (thn (po_none.run pins s1 σ H1 (fun o H2 => o = none ∧ H2 = H1) I1 ⟨rfl, rfl⟩) fun vl s2 ⟨l, H2, I2, pl, el, e2⟩ => ?_)
  subst el e2
  refine thn (po_none.run pins s2 σ H2 (fun o H3 => o = none ∧ H3 = H2) I2 ⟨rfl, rfl⟩) fun vu s3 ⟨u, H3, I3, pu, eu, e3⟩ => ?_
  subst eu e3
  refine thn (hst.run pins s3 σ H3 (fun o H4 => o = some (-1) ∧ H4 = H3) I3 ⟨1, rfl, -1, rfl, rfl, rfl⟩) fun vs s4 ⟨o, H4, I4, ps, eo, e4⟩ => ?_
  subst eo e4
  have I5 : Inv X pins σ H4 { s4 with heap := s4.heap.push { cls := .type "slice", data := .fields #[vl, vu, vs] } } := I4.kept (t' := s4.toks) fun b ob q => Heap.get?_push_of_some _ q
  cases pl
  cases pu
  cases ps with
  | int _ t5 =>
  show wpAny (model X.prog X.w) X.A (subscriptTail e (.Slice none none (some (.UnaryOp .USub (.Constant (.int 1) k p1) p2)) p3) (.str z t) (.ref s4.heap.objs.size)) (EP X pins σ Q) X.xe { s4 with heap := s4.heap.push { cls := .type "slice", data := .fields #[.none, .none, .int (-1) t5] } }
  refine tail_any (ops := [.str z t, .ref s4.heap.objs.size]) (typeIs_str _ _ _) F.slot_str_getitem.lookup ?_ (by with_unfolding_all rfl)
  refine wpAny_getItem_str_slice (l := none) (u := none) (st := some (-1, t5)) (Heap.IsSliceOf.new _ .none .none (.int (-1) t5)) (by rfl) ?_
  show Made.post (if ((-1 : Int) == 1 && (Builtin.Str.strSliceIndices none none (-1) z.length).length == z.length) = true then Made.val (.str z t)
    else Made.str ⟨((Builtin.Str.strSliceIndices none none (-1) z.length).filterMap (z.cps[·]?)).toArray⟩) (EP X pins σ Q) _
  rw [if_neg (by rw [show ((-1 : Int) == 1) = false by decide, Bool.false_and]; decide), revS_picks]
  refine ⟨?_, .str (revS z), H4, I5.tok _, ⟨_, rfl⟩, q⟩
  show z.cps.toList.reverse.toArray.size ≤ sizeLine
  have hz2 : z.cps.toList.length ≤ sizeLine := by
    have : z.length = z.cps.toList.length := by simp [Str.length]
    omega
  simpa using hz2

/-! ### min(xs, default=d) of a list of texts -/
def minS : Str → List Str → Str := PySem.W.minOf
def rMinSD (K : PySem.W.Frag) : List V → List V → Hp → VK → Prop := fun vs zs H Q => ∃ (a : Addr) (xs : List Str) (d : V), vs = [.ref a] ∧ zs = [d] ∧ SqL K H a (xs.map V.str) ∧ (xs = [] → Q d H) ∧ ∀ y ys, xs = y :: ys → Q (.str (minS y ys)) H
theorem holdAll_strs {h : Heap} : ∀ {xs : List Str} {its : List Value}, Vals (xs.map V.str) its → PySem.W.HoldAll h its xs
  | [], its, r => by
    cases r
    exact ⟨_, .nil⟩
  | x :: xs, its, r => by
    cases r with
    | cons r1 r2 =>
      obtain ⟨t, rfl⟩ := r1
      obtain ⟨as, q⟩ := holdAll_strs (h := h) r2
      exact ⟨_, .cons (.str x t) q⟩
theorem cr_minSD (hc : X.calm = true) (hu : X.A.units + 1 < cLine) : CallRK X (.builtin "min") [("default" : Str)] (rMinSD X.K) := by
  intro pins s σ H vs zs us ws Q I r rz h
  obtain ⟨a, xs, d, rfl, rfl, hs, q0, q1⟩ := h
  obtain ⟨its, rv, hl, _⟩ := I.list hs
  rw [Vals.ref1 r]
  cases rz with
  | cons rd rn =>
    cases rn
    rename_i dv
    show wpAny _ _ (call (.builtin "min") [.ref a] [(Str.ofString "default", dv)]) _ _ _
    refine PySem.W.min_list_datum_default (α := Str) (xs := xs) (I.ok.hd hc) hl.isList (by simpa using holdAll_strs rv) hu (fun e h' tk hk => ?_) fun y ys i v h' tk e hi hv hk => ?_
    · exact ⟨d, H, I.kept hk, rd, q0 e⟩
    · refine ⟨.str (minS y ys), H, I.kept hk, ?_, q1 y ys e⟩
      obtain ⟨as, rr⟩ := hv
      have rr' : Reads h' v (.str (minS y ys)) as := rr
      cases rr' with
      | str _ t => exact ⟨t, rfl⟩
/-- the call -/
theorem pe_minSD {e : Expr} {t : TA} {tk : TA} {p pos : Pos} {kw : Keyword} (hc : X.calm = true) (hu : X.A.units + 1 < cLine) (hg : Gl X "min") (hm : X.mg "min" = none) (ha : PA X [e] t) (hk : PK X [kw] tk)
    (he : backTo pos (starEach (e :: []) X.env) = (false, eval e X.env) :: backTo pos (starEach [] X.env) := by rfl) (hpl : (backTo pos (starEach (e :: []) X.env)).any (·.1) = false := by rfl)
    (hall : (backToKw pos (keywordEach [kw] X.env)).all (·.1.isSome) = true := by rfl) (hnone : (backToKw pos (keywordEach [kw] X.env)).any (·.1.isNone) = false := by rfl) (hks : (backToKw pos (keywordEach [kw] X.env)).filterMap (·.1) = [("default" : Str)] := by rfl) :
    PE X (.Call (.Name "min" p) [e] [kw] pos) (tCKw (rMinSD X.K) t tk) :=
  pe_callBK (cr_minSD hc hu) hg hm (by decide +kernel) ha hk (by decide) (by decide) he hpl hall hnone hks

/-! ### C.__init__(self, ..) of an own class C between the error's class and ValueError -/
theorem pe_ownInit {x : Str} {CL : Addr} {e : Expr} {es : List Expr} {ta : TA} {p1 p2 pos : Pos} {pl : Sem Bool} (hg : Gl X x) (hm : X.mg x = some (.ref CL)) (hdb : (x == ("__debug__" : Str)) = false := by decide)
    (sp : PySem.W.specialIn X.K (.ref CL) "__getattribute__" = some (some (.builtin "type.__getattribute__"))) (rd : PySem.W.readsIn X.K CL (.type "type") = true)
    (vV : PySem.W.findCls X.K (.ref CL) (.type "type") "__init__" = some (.val (.builtin "ValueError.__init__"))) (ha : PA X (e :: es) ta)
    (hc : eval (.Call (.Attribute (.Name x p1) "__init__" p2) (e :: es) [] pos) X.env = (do
      let ov ← eval (.Name x p1) X.env
      standAt p2.atName
      let (f, first) ← holding [ov] (getMethod ov "__init__" pl)
      callWith pos f first (backTo pos (starEach (e :: es) X.env)) (backToKw pos (keywordEach [] X.env))) := by rfl)
    (he : starEach (e :: es) X.env = (false, eval e X.env) :: starEach es X.env := by rfl) (hpl : (backTo pos (starEach es X.env)).any (·.1) = false := by rfl) :
    PE X (.Call (.Attribute (.Name x p1) "__init__" p2) (e :: es) [] pos) (tVeI X.K ta) := by
  refine ⟨fun pins s σ H Q I h => ?_⟩
  refine PySem.W.methodCall_KW (ld_glob I hg hm ?_ hdb) hc
  refine PySem.W.method_cls I.kIn sp (PySem.W.cls_value I.kIn rd vV (by decide +kernel) ?_)
  show wpAny _ _ (callWith pos (Value.builtin "ValueError.__init__") [] (backTo pos (starEach (e :: es) X.env)) []) _ _ _
  refine PyProof.Rows.callWith_method1 (thn (ha.run pos pins _ σ H _ (I.tok _) h) fun us s1 ⟨vs, H1, I1, r1, a, C, ws, ev, hl, T, ea, q⟩ => ?_) he hpl
  subst ev
  cases r1 with
  | @cons _ u0 _ ur ra rw' =>
    obtain rfl : u0 = Value.ref a := ra
    have hlen : ur.length ≤ sizeLine := by
      rw [← Paired.length rw', sizeLine_eq]
      omega
    exact oinit_ok T I1 ea hlen fun s' J => ⟨.non, H1, J, rfl, q⟩

/-! ### an error with its own __init__ made where nothing is handled: its context is None -/
theorem passN : Passes (L2N.CX X.prog X.w) X E0 := fun _ _ _ _ _ _ _ h => by
  obtain ⟨_, _, _, _, _, _, _, _, _, _, _, _, no⟩ := h
  exact absurd no id
theorem pmkN_oex {CY : CXT} {nm : Str} {C g : Addr} {lev : Nat} {fdI : FuncData} {prs : List Str} {pr : Sp} {xs : List Value} {ws : List V} {arg : Expr} {more : List Expr} {tA : TA} {q1 q2 : Pos}
    (ox : OexC X.K C) (at_ : PySem.W.findIn X.K (.ref C) "__init__" = some (some (.ref g))) (isf : PySem.W.typeIn X.K (.ref g) = some (.type "function"))
    (keeps : FnOk X.prog X.w X.K X.mg X.base CY lev g fdI prs pr) (room : Room (lev + 1) X.A) (bnd : Binds X.K fdI prs xs) (vls : Vals ws xs) (ps : Passes CY X E0) (gl : Gl X nm) (mgx : X.mg nm = some (.ref C)) (pa : PA X (arg :: more) tA)
    (ndb : (nm == ("__debug__" : Str)) = false := by decide) (plain1 : starEach (arg :: more) X.env = (false, eval arg X.env) :: starEach more X.env := by rfl) (plain2 : (backTo q2 (starEach more X.env)).any (·.1) = false := by rfl) :
    L2N.PMk X (.Call (.Name nm q1) (arg :: more) [] q2) (tMkO C pr ws tA) := by
  intro pins s σ H Q I goal
  obtain ⟨_, _, _, _, mro, _, _, _, _, _, _, _, _, _, _, lkC, ve⟩ := ox.cls
  refine wpAny_Call_Name_kw (ld_glob I gl mgx ?_ ndb)
  refine PySem.W.callWith_K (h₀ := X.base) I.ok.mod.kin ox.kC (thn (pa.run q2 pins s σ H _ I goal) ?_) plain1 plain2
  rintro us ⟨hp, gs, dr, tk, os⟩ ⟨vs, Ha, Ia, ra, small, each⟩
  refine ⟨Ia.kIn, ?_⟩
  show wpAny _ _ (call (.ref C) us) _ _ _
  have above : hp.objs.size ≤ hp.objs.size + 1 := by omega
  have free : Ha (hp.objs.size + 1) = none := Ia.hok.fresh above
  have pr1 := each (hp.objs.size + 1) free
  let hp2 := (hp.push (PySem.W.kdv_tup us)).push (PySem.HandSPX.excO C hp.objs.size)
  have kept : ∀ b o, hp.get? b = some o → hp2.get? b = some o := fun b o e => Heap.get?_push_of_some _ (Heap.get?_push_of_some _ e)
  have here : hp2.get? (hp.objs.size + 1) = some (PySem.HandSPX.excO C hp.objs.size) := by show ((hp.push (PySem.W.kdv_tup us)).push (PySem.HandSPX.excO C hp.objs.size)).get? _ = _; heap_get
  have Ib : Inv X pins σ (upd Ha (hp.objs.size + 1) (exo (hp.objs.size + 1) C none)) ⟨hp2, gs, dr, tk, os⟩ := Ia.laid (t' := tk) (a := hp.objs.size + 1) (o := exo (hp.objs.size + 1) C none) (h' := hp2) kept above (exo_ok here)
  have rb : Vals (V.ref (hp.objs.size + 1) :: (vs ++ ws)) (Value.ref (hp.objs.size + 1) :: (us ++ xs)) := .cons rfl (ra.append vls)
  have many : (Value.ref (hp.objs.size + 1) :: us ++ xs).length = prs.length := by rw [← keeps.len _ _ _ _ pr1]; exact rb.length.symm
  have fits : us.length ≤ sizeLine := by rw [← Paired.length ra, sizeLine_eq]; omega
  have body := keeps.run _ X.stack _ _ ⟨Value.ref (hp.objs.size + 1) :: us, []⟩ (Value.ref (hp.objs.size + 1) :: (us ++ xs)) _ _ E0 (room.make C us []) (Ib.env0.make C us []) (bnd _ (Value.ref (hp.objs.size + 1) :: us) Ib.kIn many) rb pr1
  refine wpAny_call (PySem.HandSPX.call_own F.excBase_ValueError (fun Y => PySem.HandSPX.refsVE_contains Y mro ve) (Ia.kIn _ _ lkC) (PySem.W.looks_findIn Ia.kIn at_) (fun self => PySem.W.bind_fn Ia.kIn self isf) fits (codeAny_mono body ?_))
  intro r s' after
  match r, after with
  | .error er, after => exact ps pins σ _ _ er s' Ib after
  | .ok (.ret u), after =>
    obtain ⟨v, Hb, os2, bare2, un2, hok2, rv, none_, d, fs, oa, od, newd, fin⟩ := after
    subst none_
    obtain ⟨h2, g2, d2, t2, os'⟩ := s'
    refine ⟨rv, ?_⟩
    obtain ⟨t0, G, J, kG, ge, hoe, na⟩ := mk_end0 (d2 := d2) (t2 := t2) Ia above kept un2 hok2 os2 bare2 oa od newd
    exact ⟨hp.objs.size + 1, _, _, ⟨G, g2, d2, t2, os'⟩, _, .ref C, some d, rfl, J, kG, ge, hoe, ⟨rfl, rfl, fun vs hv => by cases hv; rfl⟩, rfl, rfl, na, rfl, bare2, raises_own ox.exC ox.tyC, fin⟩
  | .ok .next, after => exact False.elim after
  | .ok .brk, after => exact False.elim after
  | .ok .cont, after => exact False.elim after

/-! ### isinstance(e, C), e the caught error, C its very class -/
theorem isi_same {x D : Addr} {ox : Obj} {od : Option Obj} {prog : Program} {w : World} {A : Around} {E : Value → Shared → Prop} {s : Shared} {Q : Value → Shared → Prop} (J : PySem.W.InstAt s.heap x ox D od) (h : ∀ tk, Q (.bool true) { s with toks := tk }) :
    wpAny (model prog w) A (call (.builtin "isinstance") [.ref x, .ref D]) Q E s := by
  refine call_isinstance (S := fun _ R s => PySem.W.InstAt s.heap x ox D od ∧ ∀ tk, R (.ok (.ret (.bool true))) { s with toks := tk }) (fun prog w A R s hs => isinstance_outer ?_ (fun z => nomatch z)) ⟨J, h⟩
  obtain ⟨hp, g, d, tt, os⟩ := s
  obtain ⟨J2, hq⟩ := hs
  have LT := J2.type (M := model prog w)
  unfold Builtin.«isinstance.nested»
  refine wpAny_bind (LT.at ?_)
  rw [if_pos (beq_self_eq_true _)]
  first
    | exact wpAny_bind (wpAny_rule (wpAny_pure (hq tt)))
    | exact wpAny_bind (wpAny_rule (hq tt))
def rIsX (D a : Addr) (cls : Value) (d : Option Addr) : List V → Hp → VK → Prop := fun xs H Q => ∃ (dd : Addr) (fs : List (Str × V)), xs = [.ref a, .ref D] ∧ cls = .ref D ∧ d = some dd ∧ H dd = some (.xd fs) ∧ Q (.bl true) H
theorem call_isX {a D : Addr} {oe : Obj} {cls : Value} {d : Option Addr} {pn : List (Addr × Obj)} (hz : Zc cls d oe) (hf : ∃ vs, oe.data = .fields vs) : CallR (X.suite a ((a, oe) :: pn)) (.builtin "isinstance") (rIsX D a cls d) := by
  intro pins s σ H xs us Q I r h
  obtain ⟨dd, fs, rfl, rfl, rfl, ha, q⟩ := h
  obtain ⟨u1, u2, rfl, r1, r2⟩ := vals2 r
  obtain rfl : u1 = Value.ref a := r1
  obtain rfl : u2 = Value.ref D := r2
  obtain ⟨hget, _⟩ := I.pin (a, oe) (List.mem_append.mpr (.inl List.mem_cons_self))
  obtain ⟨vs, hv⟩ := hf
  have hx : ObjOk X.prog X.w H s.heap dd (.xd fs) := I.hok dd _ ha
  obtain ⟨mA, hns, _⟩ := hx
  obtain ⟨od, ho, _⟩ := lookIn_ns hns
  have J : PySem.W.InstAt s.heap a oe D (some od) := ⟨hget, hz.1, by unfold PySem.W.notCls; rw [hv] <;> rfl, by rw [hz.2]; exact ho⟩
  exact isi_same J fun tk => ⟨.bl true, H, I.tok _, rfl, q⟩
theorem hot_suite {a : Addr} {oe : Obj} {cls : Value} {d : Option Addr} {pn : List (Addr × Obj)} (hz : L2N.Zn cls d oe) (hf : ∃ vs, oe.data = .fields vs) : L2H.HotC (X.suite a ((a, oe) :: pn)) := by
  obtain ⟨vs, hv⟩ := hf
  exact ⟨(a, oe), ⟨rfl, vs, hv, hz.2.2 vs hv⟩, List.mem_cons_self⟩
theorem takes0N : L2N.Takes X (fun _ _ _ _ => False) := fun _ _ x => by
  obtain ⟨_, _, _, _, _, _, _, _, _, _, _, _, _, _, _, _, no⟩ := x
  exact absurd no id
theorem passAtN {σ : L2.St} : PassesAt (L2N.CX X.prog X.w) X σ E0 := fun _ _ _ _ _ _ h => by
  obtain ⟨_, _, _, _, _, _, _, _, _, _, _, _, no⟩ := h
  exact absurd no id
end
end Lc
namespace Lc
open PySem PySem.Spec PyProof.Rows L2 Evl
section
variable {K : PySem.W.Frag} {σ : L2.St} {H H' : Hp} {ta tb te tx : TE} {t u : TT} {x y z v : V} {r : R2} {D : Ends}
theorem rv_catS {a b : Str} (h : a.length + b.length ≤ 100000) : RV (fun x y H Q => ∃ i j, x = .str i ∧ y = .str j ∧ i.length + j.length ≤ sizeLine ∧ Q (.str (i ++ j)) H) (.str a) (.str b) H (.str (a ++ b)) := fun H1 _ _ q => ⟨a, b, rfl, rfl, sz_of h, q H1 (Ex.refl H1)⟩
theorem rv_ltS {a b : Str} : RV (fun x y H Q => ∃ i j, x = .str i ∧ y = .str j ∧ Q (.bl (decide (i.cps.toList < j.cps.toList))) H) (.str a) (.str b) H (.bl (decide (a.cps.toList < b.cps.toList))) := fun H1 _ _ q => ⟨a, b, rfl, rfl, q H1 (Ex.refl H1)⟩
theorem rv_inC {c : Nat} {b : Str} : RV (fun x y H Q => ∃ (c : Nat) (z : Str), x = .str ⟨#[c]⟩ ∧ y = .str z ∧ Q (.bl (decide (c ∈ z.cps.toList))) H) (.str ⟨#[c]⟩) (.str b) H (.bl (decide (c ∈ b.cps.toList))) := fun H1 _ _ q => ⟨c, b, rfl, rfl, q H1 (Ex.refl H1)⟩
theorem rv_notInC {c : Nat} {b : Str} : RV (fun x y H Q => ∃ (c : Nat) (z : Str), x = .str ⟨#[c]⟩ ∧ y = .str z ∧ Q (.bl (!decide (c ∈ z.cps.toList))) H) (.str ⟨#[c]⟩) (.str b) H (.bl (!decide (c ∈ b.cps.toList))) := fun H1 _ _ q => ⟨c, b, rfl, rfl, q H1 (Ex.refl H1)⟩
theorem rc_lenS {w : Str} (h : w.length ≤ 100000) : RC (fun xs H Q => ∃ x n, xs = [x] ∧ LenV K x H n ∧ Q (.int n) H) [.str w] H (.int w.length) := fun H1 _ _ q => ⟨.str w, w.length, rfl, ⟨sz_of h, rfl⟩, q H1 (Ex.refl H1)⟩
theorem rc_lenL {p : Addr} {xs : List V} (h : SqL K H p xs) : RC (fun xs H Q => ∃ x n, xs = [x] ∧ LenV K x H n ∧ Q (.int n) H) [.ref p] H (.int xs.length) := fun H1 e _ q => ⟨.ref p, xs.length, rfl, .inl ⟨xs, ex_l e h, rfl⟩, q H1 (Ex.refl H1)⟩
theorem rc_lenT {p : Addr} {xs : List V} (h : SqT K H p xs) : RC (fun xs H Q => ∃ x n, xs = [x] ∧ LenV K x H n ∧ Q (.int n) H) [.ref p] H (.int xs.length) := fun H1 e _ q => ⟨.ref p, xs.length, rfl, .inr ⟨xs, ex_t e h, rfl⟩, q H1 (Ex.refl H1)⟩
theorem rc_intI {i : Int} : RC (fun xs H Q => (∃ i, xs = [V.int i] ∧ Q (V.int i) H) ∨ ∃ k, xs = [V.bl k] ∧ Q (V.int (if k = true then 1 else 0)) H) [.int i] H (.int i) := fun H1 _ _ q => .inl ⟨i, rfl, q H1 (Ex.refl H1)⟩
theorem rc_intB {k : Bool} : RC (fun xs H Q => (∃ i, xs = [V.int i] ∧ Q (V.int i) H) ∨ ∃ k, xs = [V.bl k] ∧ Q (V.int (if k = true then 1 else 0)) H) [.bl k] H (.int (if k = true then 1 else 0)) := fun H1 _ _ q => .inr ⟨k, rfl, q H1 (Ex.refl H1)⟩
theorem rc_sum {p : Addr} {ns : List Int} (h : SqL K H p (ns.map V.int)) : RC (rSum K) [.ref p] H (.int ns.sum) := fun H1 e _ q => ⟨p, ns, rfl, ex_l e h, q H1 (Ex.refl H1)⟩
theorem rc_min2 {i j : Int} : RC (fun xs H Q => ∃ i j, xs = [V.int i, V.int j] ∧ Q (.int (if j < i then j else i)) H) [.int i, .int j] H (.int (if j < i then j else i)) := fun H1 _ _ q => ⟨i, j, rfl, q H1 (Ex.refl H1)⟩
theorem rc_isStr {w : Str} : RC (rIsi K) [.str w, .ty "str"] H (.bl true) := fun H1 _ _ q => ⟨.str w, .ty "str", .type "str", .type "str", true, rfl, .ty _, .base (.str _), kit_ty (by decide +kernel), q H1 (Ex.refl H1)⟩
theorem ev_slS {tl th : TO} {w : Str} {lo hi : Option Int} (h : Ev te σ H (.str w)) (h1 : EvO tl σ H lo) (h2 : EvO th σ H hi) (hz : w.length ≤ 100000) : Ev (tSl rSlS te tl th) σ H (.str (cutS w lo hi)) := fun H1 e _ q =>
  h H1 e _ fun H2 e2 => h1 H2 (e.trans e2) _ fun H3 e3 => h2 H3 ((e.trans e2).trans e3) _ fun H4 e4 => ⟨w, rfl, sz_of hz, q H4 ((e2.trans e3).trans e4)⟩
theorem ev_revS {w : Str} (h : Ev te σ H (.str w)) (hz : w.length ≤ 100000) : Ev (tRevS te) σ H (.str (revS w)) := fun H1 e _ q => h H1 e _ fun H2 e2 => ⟨w, rfl, sz_of hz, q H2 e2⟩
theorem ev_join {a : Str} {ys : List Str} (h : Ev ta σ H (.str a)) (hl : EvL te σ H (ys.map V.str)) (hz : (ys.map (·.length)).sum + ys.length * a.length ≤ 16777216) :
    Ev (tM1 (fun x xs H Q => ∃ a p, ∃ ys : List Str, x = .str a ∧ xs = [.ref p] ∧ (SqL K H p (ys.map V.str) ∨ SqT K H p (ys.map V.str)) ∧ (ys.map (·.length)).sum + ys.length * a.length ≤ 16777216 ∧ Q (.str (Txt.join a ys)) H) ta te) σ H (.str (Txt.join a ys)) := fun H1 e _ q =>
  h H1 e _ fun H2 e2 => ⟨⟨a, rfl⟩, hl H2 (e.trans e2) _ fun p H3 _ e3 hp => ⟨a, p, ys, rfl, rfl, .inl (sq_of hp), hz, q H3 (e2.trans e3)⟩⟩
def minD (d : Str) : List Str → Str
  | [] => d
  | y :: ys => minS y ys
theorem ev_minSD {xs : List Str} {d : Str} (hl : EvL te σ H (xs.map V.str)) (hd : Ev ta σ H (.str d)) : Ev (tCKw (rMinSD K) (tCons te tNil) (tCons ta tNil)) σ H (.str (minD d xs)) := fun H1 e Q q =>
  hl H1 e _ fun p H2 _ e2 hp => hd H2 (e.trans e2) _ fun H3 e3 => ⟨p, xs, .str d, rfl, rfl, sq_of (e3 p _ hp), fun ex => by
    subst ex
    exact q H3 (e2.trans e3), fun y ys ex => by
    subst ex
    exact q H3 (e2.trans e3)⟩
end
end Lc
namespace Lc
open PySem PySem.Spec PyProof.Rows L2
section
variable {X : Cx} {CX : CXT} {k : Nat} {C f g p : Addr} {fd : FuncData} {ps : List Str} {sp : Sp} {E : XK} {pins : List (Addr × Obj)} {σ : L2.St} {H : Hp} {s : Shared}
/-! ### a def run where the room is another -/
theorem run_at {A : Around} {us : List Value} {vs : List V} {Q : VK} (hA : A.frames = X.A.frames) (F : FnOk X.prog X.w X.K X.mg X.base CX k f fd ps sp) (hr : Room k A) (hb : Binds X.K fd ps []) (hx : Passes CX X E)
    (I : Inv X pins σ H s) (r : Vals vs us) (h : sp vs H Q E) : wpAny (model X.prog X.w) A (call (.ref f) us) (EP X pins σ Q) X.xe s := by
  have e0 : Env0 X.prog X.w X.K X.mg X.base A X.stack s H := by
    have e := I.env0
    exact ⟨by rw [hA]; exact e.frames, e.mod, e.bs, e.bsz, e.funs, e.frf, e.hok, e.bare⟩
  have hl : us.length = ps.length := by rw [← r.length]; exact F.len _ _ _ _ h
  refine wpAny_call (codeAny_mono (F.run A X.stack s H ⟨us, []⟩ us vs Q E hr e0 (by
    have h2 := hb s us I.kIn (by simpa using hl)
    simpa using h2) r h) fun r s' hq => ?_)
  cases r with
  | error e => exact hx pins σ H s e s' I hq
  | ok fl =>
    cases fl with
    | ret u => exact I.after hq
    | next => exact False.elim hq
    | brk => exact False.elim hq
    | cont => exact False.elim hq
/-! ### str(o) by an own __str__ -/
def rStrOwn (C : Addr) (sp : Sp) (E : XK) : List V → Hp → VK → Prop := fun xs H Q => ∃ a dx fs, xs = [.ref a] ∧ H a = some (.ins C dx fs) ∧ sp [.ref a] H (fun v H' => ∃ z, v = .str z ∧ Q v H') E
theorem call_strOwn (F : FnOk X.prog X.w X.K X.mg X.base CX k f fd ps sp) (hr : Room (k + 2) X.A) (hs : PySem.W.findIn X.K (.ref C) "__str__" = some (some (.ref f))) (hf : PySem.W.isFn X.K (.ref f) = true) (hb : Binds X.K fd ps []) (hx : Passes CX X E) :
    CallR X (.type "str") (rStrOwn C sp E) := by
  intro pins s σ H xs us Q I r h
  obtain ⟨a, dx, fs, rfl, ha, hsp⟩ := h
  obtain ⟨u, rfl, r1⟩ := vals1 r
  obtain rfl : u = Value.ref a := r1
  obtain ⟨mA, J, _⟩ := ins_get I.hok ha
  obtain ⟨od, J, _⟩ := J.look
  refine PySem.W.kso_call hr.in1.in1.units0 I.kIn J hs hf (wpAny_mono (run_at (A := X.A.in1.in1) rfl F hr.in1.in1 hb hx I r hsp) (fun w s' hw => ?_) fun _ _ x => x)
  obtain ⟨v, H', I', rv, z, rfl, q⟩ := hw
  obtain ⟨t, rfl⟩ := rv
  exact ⟨.str z, H', I', ⟨t, rfl⟩, q⟩
/-! ### a == b by an own __eq__, both answers -/
def rEqOwn (C : Addr) (sp : Sp) (E : XK) : R2 := fun x y H Q => ∃ a dx fs b dy gs, x = .ref a ∧ H a = some (.ins C dx fs) ∧ y = .ref b ∧ H b = some (.ins C dy gs) ∧ sp [.ref a, .ref b] H (fun v H' => ∃ k, v = .bl k ∧ Q v H') E
theorem op_eqOwn (F : FnOk X.prog X.w X.K X.mg X.base CX k f fd ps sp) (hr : Room k X.A) (hs : PySem.W.findIn X.K (.ref C) "__eq__" = some (some (.ref f))) (hf : PySem.W.isFn X.K (.ref f) = true) (hb : Binds X.K fd ps []) (hx : Passes CX X E) :
    OpR X (compareOp .Eq) (rEqOwn C sp E) := by
  intro pins s σ H x y v u Q I rx ry h
  obtain ⟨a, dx, fs, b, dy, gs, rfl, ha, rfl, hb', hsp⟩ := h
  obtain rfl : v = Value.ref a := rx
  obtain rfl : u = Value.ref b := ry
  show wpAny (model X.prog X.w) X.A (richCompare .Eq (.ref a) (.ref b)) (EP X pins σ Q) X.xe s
  obtain ⟨mA, J, _⟩ := ins_get I.hok ha
  obtain ⟨mB, J', _⟩ := ins_get I.hok hb'
  obtain ⟨od, J, _⟩ := J.look
  obtain ⟨od', J', _⟩ := J'.look
  obtain ⟨m, hF⟩ := I.fr
  refine PySem.W.cmp_K (op := .Eq) (tb := .ref C) hr.units0 hF I.ok.mod.kin J J'.type (by simp [PySem.W.notFirst]) hs hf (wpAny_mono (run_at (A := X.A) (vs := [.ref a, .ref b]) rfl F hr hb hx I (.cons (show RelV (.ref a) (Value.ref a) from rfl) (.cons (show RelV (.ref b) (Value.ref b) from rfl) .nil)) hsp) (fun w s' hw => ?_) fun _ _ x => x)
  obtain ⟨v, H', I', rv, k, rfl, q⟩ := hw
  cases rv
  exact ⟨.bl k, H', I', rfl, q⟩
/-! ### C.m(..), m a static method -/
structure SMet (K : PySem.W.Frag) (C : Addr) (mc : Value) (m : Str) (p g : Addr) : Prop where
  at_ : PySem.W.findCls K (.ref C) mc m = some (.get (.builtin "staticmethod.__get__") (.ref p) .none (.ref C))
  rc : ∃ rest, PySem.W.recIn K p "staticmethod" = some (.ref g :: rest)
  kp : PySem.W.keepIn K (.ref g) = true
def tSMeth (C : Addr) (sp : Sp) (dvs : List V) (E : L2.St → XK) (ta : TE) (t : TA) : TE := fun σ H Q => ta σ H fun x H1 => x = .ref C ∧ t σ H1 fun vs H2 => sp (vs ++ dvs) H2 Q (E σ)
theorem pe_smeth {mc : Value} {m : Str} {dvs : List V} {ds : List Value} {E : L2.St → XK} {o e : Expr} {es : List Expr} {pos apos : Pos} {ta : TE} {t : TA} {pl : Sem Bool} (he : PE X o ta) (r : ClX.CRead X.K C mc) (c : SMet X.K C mc m p g)
    (F : FnOk X.prog X.w X.K X.mg X.base CX k g fd ps sp) (hr : Room k X.A) (hb : Binds X.K fd ps ds) (hd : Vals dvs ds) (hx : ∀ σ, PassesAt CX X σ (E σ)) (ha : PA X (e :: es) t)
    (hst : starEach (e :: es) X.env = (false, eval e X.env) :: starEach es X.env := by rfl) (hpl : (backTo pos (starEach es X.env)).any (·.1) = false := by rfl)
    (ht : eval (.Call (.Attribute o m apos) (e :: es) [] pos) X.env = (do
      let ov ← eval o X.env
      standAt apos.atName
      let (f, first) ← holding [ov] (getMethod ov m pl)
      callWith pos f first (backTo pos (starEach (e :: es) X.env)) (backToKw pos (keywordEach [] X.env))) := by rfl) :
    PE X (.Call (.Attribute o m apos) (e :: es) [] pos) (tSMeth C sp dvs E ta t) := by
  refine ⟨fun pins s σ H Q I h => ?_⟩
  refine PySem.W.methodCall_KW (pl := pl) (thn (he.run pins s σ H _ I h) fun u s1 ⟨x, H1, I1, rx, ex, q⟩ => ?_) ht
  subst ex
  obtain rfl : u = Value.ref C := rx
  obtain ⟨rest, hp⟩ := c.rc
  refine PySem.W.method_cls I1.kIn r.ga (PySem.W.cls_bind I1.kIn r.rd c.at_ (wpAny_call (PySem.W.sm_get (s := { s1 with toks := s1.toks + 1 }) I1.kIn hp (PySem.W.handed_on rfl ?_))))
  have I2 := I1.tok (s1.toks + 1)
  refine PySem.W.callWith_K (h₀ := X.base) (first := []) I2.ok.mod.kin c.kp (thn (ha.run pos pins _ σ H1 _ I2 q) fun us s3 ⟨vs, H2, I3, rv, q2⟩ => ⟨I3.kIn, ?_⟩) hst hpl
  exact run_fnSD F hr hb hd (hx σ) I3 rv q2
end
/-! ### d.get(k, x) of a written table -/
def tKGet (K : PySem.W.Frag) (d : Addr) (td ty tx : TE) : TE := fun σ H Q => td σ H fun x H1 => x = .ref d ∧ ty σ H1 fun y H2 => tx σ H2 fun z H3 => ∃ (n : Str) (r : Option Value) (o : Option V), y = .str n ∧ PySem.W.nsIn K d n = some r ∧
  (match o, r with
    | some v, some u => RelV v u
    | none, none => True
    | _, _ => False) ∧ Q (o.getD z) H3
section
variable {X : Cx} {o e f : Expr} {apos cpos : Pos} {td ty tx : TE} {d : Addr} {es : Array DictEntry} {n : Nat}
theorem pe_kget (D : KDict X.K X.w d es n) (ho : PE X o td) (he : PE X e ty) (hf : PE X f tx) (m : M2 X o "get" apos e f cpos) : PE X (.Call (.Attribute o "get" apos) [e, f] [] cpos) (tKGet X.K d td ty tx) := by
  refine ⟨fun pins s σ H Q I h => ?_⟩
  refine wpAny_Call_method m.base m.few m.line PySem.F.plainAttrs_dict PySem.F.slot_dict_get PySem.F.type_dict_get (thn (ho.run pins s σ H _ I h) fun u s1 ⟨x, H1, I1, rx, ex, q1⟩ => ?_)
  subst ex
  obtain rfl : u = Value.ref d := rx
  refine ⟨kd_type D I1, fun b q => ?_, ?_⟩
  · cases q
    exact ⟨_, I1.kIn _ _ D.at_, rfl⟩
  rw [m.trees]
  refine Calls.callWith_builtin rfl (Calls.evalArgs_plain (Calls.spliced_cons (thn (he.run pins s1 σ H1 _ I1 q1) fun iv s2 ⟨y, H2, I2, ry, q2⟩ =>
    Calls.spliced_cons (thn (hf.run pins s2 σ H2 _ I2 q2) fun fv s3 ⟨z, H3, I3, rz, nm, r, ov, ey, ns, rel, q3⟩ => Calls.spliced_nil ?_))))
  subst ey
  obtain ⟨t, rfl⟩ := ry
  refine call_meetsIn PySem.F.slot_dict_get (kd_type D I3) PySem.F.entry_dict_get (PySem.F.args_dict_get_3 _ _ _) (meets_dict_get_default (strKind X.prog X.w) d (strKind_is X.prog X.w nm t) D.low fv) ⟨_, PySem.W.mapOf_K (prog := X.prog) I3.kIn D.at_ D.lit, ?_⟩
  rw [PySem.W.find_K D.at_ ns]
  refine ⟨ov.getD z, H3, I3.tok _, ?_, q3⟩
  cases ov with
  | none =>
    cases r with
    | none => exact rz
    | some u => exact False.elim rel
  | some v =>
    cases r with
    | none => exact False.elim rel
    | some u => exact rel
end
end Lc
namespace Lc
open PySem PySem.Spec PyProof.Rows L2
/-! ### the facts of classes, as Bools -/
section
variable {K : PySem.W.Frag} {c c2 f m : Str} {b : Bool}
def topB (K : PySem.W.Frag) : Bool := decide (PySem.W.specialIn K (.ref (He.ga K "LeapError")) "__getattribute__" = some (some (.builtin "type.__getattribute__"))) && (PySem.W.readsIn K (He.ga K "LeapError") (.type "type") &&
  ((match PySem.W.findCls K (.ref (He.ga K "LeapError")) (.type "type") "__init__" with
    | some (.val (.builtin b)) => b == "ValueError.__init__"
    | _ => false) && PySem.W.keepIn K (.ref (He.ga K "LeapError"))))
def errB (K : PySem.W.Frag) (c f : Str) : Bool := oexB K (He.ga K c) && (xfB K (He.ga K c) && (decide (PySem.W.findIn K (.ref (He.ga K c)) "__init__" = some (some (.ref (He.ma K (He.ga K c) "__init__")))) &&
  (decide (PySem.W.typeIn K (.ref (He.ma K (He.ga K c) "__init__")) = some (.type "function")) && (decide (PySem.W.findIn K (.ref (He.ga K c)) f = some none) && decide (PySem.W.exmOne K (.ref (He.ga K c)) (.ref (He.ga K "LeapError")) = some true)))))
structure XF (K : PySem.W.Frag) (c f : Str) : Prop where
  oex : OexC K (He.ga K c)
  xf : XfC K (He.ga K c)
  iC : PySem.W.findIn K (.ref (He.ga K c)) "__init__" = some (some (.ref (He.ma K (He.ga K c) "__init__")))
  tI : PySem.W.typeIn K (.ref (He.ma K (He.ga K c) "__init__")) = some (.type "function")
  no : PySem.W.findIn K (.ref (He.ga K c)) f = some none
  exm : PySem.W.exmOne K (.ref (He.ga K c)) (.ref (He.ga K "LeapError")) = some true
  sp : PySem.W.specialIn K (.ref (He.ga K "LeapError")) "__getattribute__" = some (some (.builtin "type.__getattribute__"))
  rd : PySem.W.readsIn K (He.ga K "LeapError") (.type "type") = true
  vV : PySem.W.findCls K (.ref (He.ga K "LeapError")) (.type "type") "__init__" = some (.val (.builtin "ValueError.__init__"))
  kL : PySem.W.keepIn K (.ref (He.ga K "LeapError")) = true
theorem errB_ok (ht : topB K = true) (h : errB K c f = true) : XF K c f := by
  unfold topB at ht
  unfold errB at h
  simp only [Bool.and_eq_true, decide_eq_true_eq] at ht h
  obtain ⟨t1, t2, t3, t4⟩ := ht
  obtain ⟨h1, h2, h3, h4, h5, h6⟩ := h
  refine ⟨oexB_ok h1, xfB_ok h2, h3, h4, h5, h6, t1, t2, ?_, t4⟩
  split at t3
  · rename_i b hb
    rw [hb, beq_iff_eq.mp t3]
  · cases t3
def kitB (K : PySem.W.Frag) (c c2 : Str) (b : Bool) : Bool := decide (PySem.W.kitOne K (.ref (He.ga K c)) (.ref (He.ga K c2)) = some b)
theorem kitB_ok (h : kitB K c c2 b = true) : PySem.W.kitOne K (.ref (He.ga K c)) (.ref (He.ga K c2)) = some b := of_decide_eq_true h
def clsB (K : PySem.W.Frag) (c : Str) : Bool := PySem.W.readsIn K (He.ga K c) (.type "type") && decide (PySem.W.specialIn K (.ref (He.ga K c)) "__getattribute__" = some (some (.builtin "type.__getattribute__")))
theorem clsB_ok (h : clsB K c = true) : ClX.CRead K (He.ga K c) (.type "type") := by
  obtain ⟨h1, h2⟩ := Bool.and_eq_true_iff.mp h
  exact ⟨h1, of_decide_eq_true h2⟩
def smB (K : PySem.W.Frag) (c m : Str) : Bool := He5.wrapB K (He.ga K c) "staticmethod" "staticmethod.__get__" m && PySem.W.keepIn K (.ref (He5.wf K (He.ga K c) "staticmethod" m))
theorem smB_ok (h : smB K c m = true) : SMet K (He.ga K c) (.type "type") m (He.ma K (He.ga K c) m) (He5.wf K (He.ga K c) "staticmethod" m) := by
  obtain ⟨h1, h2⟩ := Bool.and_eq_true_iff.mp h
  obtain ⟨h3, h4⟩ := He5.wrapB_ok h1
  exact ⟨h3, h4, h2⟩
end
/-! ### a name that a table does not have -/
theorem dicW_no {K : PySem.W.Frag} {P : Params} {a : Addr} {ks : List Str} (h : He.dicW K a = some (He.keysIn P ks)) {z : Str} (hz : z ∉ ks) : PySem.W.nsIn K a z = some none := by
  unfold He.dicW at h
  unfold PySem.W.nsIn
  split at h
  · rename_i oc es n sl hk
    rw [hk]
    split at h
    · have e := Option.some.inj h
      have key : ∀ d ∈ es.toList, ∃ k ∈ ks, ∃ t, d.key = .str k t := fun d hd => by
        have hm : He.keyOf d ∈ es.toList.map He.keyOf := List.mem_map_of_mem hd
        rw [e] at hm
        unfold He.keysIn at hm
        obtain ⟨k, hk, ek⟩ := List.mem_map.mp hm
        unfold He.keyOf at ek
        split at ek
        · rename_i x t q
          have e2 := Option.some.inj ek
          have e3 : k = x := congrArg Prod.fst e2
          exact ⟨k, hk, t, by rw [q, e3]⟩
        · cases ek
      have hf : es.toList.find? (fun d => d.key.isStr z) = none := by
        rw [List.find?_eq_none]
        intro d hd
        obtain ⟨k, hk, t, ek⟩ := key d hd
        rw [ek]
        have hne : k ≠ z := fun q => hz (by rw [← q]; exact hk)
        show ¬ (Value.isStr (.str k t) z) = true
        simp [Value.isStr, hne]
      show (match es.toList.find? (fun d => d.key.isStr z) with
        | some e => some (some e.val)
        | none => if es.toList.any (·.refKey) then none else some none) = some none
      rw [hf]
      have ha : es.toList.any (·.refKey) = false := by
        rw [List.any_eq_false]
        intro d hd
        obtain ⟨k, hk, t, ek⟩ := key d hd
        unfold DictEntry.refKey
        rw [ek]
        simp
      simp only [ha]
      rfl
    · cases h
  · cases h
theorem SaysM.tab_no {fa : List He.Fa} {fn : List He5.DefA} {ts : List He.Tab} {ex : PySem.W.Frag → Bool} {w : World} {K : PySem.W.Frag} (c : SaysM fa fn ts ex w K) (i : Nat) {t : He.Tab} (h : ts[i]? = some t) {z : Str} (hz : z ∉ t.2) : PySem.W.nsIn K (t.1 K) z = some none := by
  have e : (ts.map fun t => He.dicW K (t.1 K))[i]? = (ts.map fun t => some (He.keysIn w.params t.2))[i]? := by rw [c.t]
  rw [List.getElem?_map, List.getElem?_map, h] at e
  exact dicW_no (Option.some.inj e) hz
theorem passX {X : Cx} {E : XK} (tk : L2N.Takes X fun cls d _ H' => E cls d H') : Passes (L2N.CX X.prog X.w) X E := fun pins σ H s e s' I c => L2N.passAt tk σ pins H s e s' I c
end Lc
namespace Lc
open PySem PySem.Spec PyProof.Rows L2
/-! ### isinstance(x, C) of an instance of C itself -/
def rIsOwn (C : Addr) : List V → Hp → VK → Prop := fun xs H Q => ∃ a dx fs, xs = [.ref a, .ref C] ∧ H a = some (.ins C dx fs) ∧ Q (.bl true) H
theorem call_isOwn {X : Cx} {C : Addr} : CallR X (.builtin "isinstance") (rIsOwn C) := by
  intro pins s σ H xs us Q I r h
  obtain ⟨a, dx, fs, rfl, ha, q⟩ := h
  obtain ⟨u1, u2, rfl, r1, r2⟩ := vals2 r
  obtain rfl : u1 = Value.ref a := r1
  obtain rfl : u2 = Value.ref C := r2
  obtain ⟨mA, J, _⟩ := ins_get I.hok ha
  obtain ⟨od, J, _⟩ := J.look
  exact isi_same J fun tk => ⟨.bl true, H, I.tok _, rfl, q⟩
end Lc
namespace Lc
open PySem PySem.Spec PyProof.Rows L2 Evl
/-- a text by its signs -/
def S (l : List Nat) : Str := ⟨l.toArray⟩
theorem tl_S (l : List Nat) : (S l).cps.toList = l := rfl
theorem S_tl (z : Str) : S z.cps.toList = z := by
  apply Str.ext'
  simp [S]
theorem S_len (l : List Nat) : (S l).length = l.length := by simp [S, Str.length]
theorem S_inj {a b : List Nat} (h : S a = S b) : a = b := by
  have := congrArg (fun z : Str => z.cps.toList) h
  exact this
theorem S_app (a b : List Nat) : S a ++ S b = S (a ++ b) := by
  have h := TL.tl_append (S a) (S b)
  rw [← S_tl (S a ++ S b)]
  exact congrArg S h
theorem join_S : ∀ l : List Nat, Txt.join (S []) (l.map fun c => S [c]) = S l := by
  intro l
  rw [TL.join_eq, ← S_tl (Str.join (S []) _)]
  refine congrArg S ?_
  have h := TL.tl_join (S []) (l.map fun c => S [c])
  refine Eq.trans h ?_
  rw [List.map_map]
  show TL.joinL [] (l.map fun c => [c]) = l
  induction l with
  | nil => rfl
  | cons a r ih =>
    cases r with
    | nil => rfl
    | cons b r =>
      show [a] ++ ([] ++ TL.joinL [] ((b :: r).map fun c => [c])) = a :: b :: r
      rw [ih (TL.tl_join _ _)]
      rfl
theorem join_sz (l : List Nat) (h : l.length ≤ 100000) : (((l.map fun c => S [c]).map (·.length)).sum + (l.map fun c => S [c]).length * (S []).length) ≤ 16777216 := by
  have e : ∀ l : List Nat, ((l.map fun c => S [c]).map (·.length)).sum = l.length := by
    intro l
    induction l with
    | nil => rfl
    | cons a r ih =>
      rw [List.map_cons, List.map_cons, List.sum_cons, ih, S_len]
      simp
      omega
  rw [e]
  have : (S []).length = 0 := rfl
  rw [this]
  omega
theorem cut_from (l : List Nat) (i : Nat) : cutS (S l) (some (i : Int)) none = S (l.drop i) := by
  unfold cutS
  rw [S_len, HT.sIx_nat, HT.sIx_none, tl_S]
  refine congrArg S ?_
  rw [List.take_of_length_le (by rw [List.length_drop]; omega)]
  by_cases h : i ≤ l.length
  · rw [Nat.min_eq_left h]
  · rw [Nat.min_eq_right (by omega), List.drop_of_length_le (Nat.le_refl _), List.drop_of_length_le (by omega)]
theorem cut_to (l : List Nat) (i : Nat) : cutS (S l) none (some (i : Int)) = S (l.take i) := by
  unfold cutS
  rw [S_len, HT.sIx_nat, HT.sIx_none, tl_S]
  refine congrArg S ?_
  rw [List.drop_zero, Nat.sub_zero]
  by_cases h : i ≤ l.length
  · rw [Nat.min_eq_left h]
  · rw [Nat.min_eq_right (by omega), List.take_of_length_le (Nat.le_refl _), List.take_of_length_le (by omega)]
theorem atI_i {α : Type} {xs : List α} {i : Int} (h0 : 0 ≤ i) (h1 : i < xs.length) (d : α) : atI xs i = some (xs.getD i.toNat d) := by
  have e : i = (i.toNat : Int) := by omega
  have hl : i.toNat < xs.length := by omega
  rw [e]
  refine atI_nat ?_
  rw [Int.toNat_natCast, List.getElem?_eq_getElem hl, List.getD_eq_getElem?_getD, List.getElem?_eq_getElem hl]
  rfl
theorem revS_S (l : List Nat) : revS (S l) = S l.reverse := rfl
section
variable {K : PySem.W.Frag} {σ : L2.St} {H H' : Hp} {ta tb te tx : TE} {t u : TT} {x y z v : V} {r : R2} {D : Ends}
theorem rv_ixSS {l : List Nat} {i : Int} (hl : l.length ≤ 100000) (h0 : 0 ≤ i) (h1 : i < l.length) : RV rIxS (.str (S l)) (.int i) H (.str (S [l.getD i.toNat 0])) := rv_ixS (by rw [S_len]; exact hl) (atI_i h0 h1 0)
theorem ev_cbL {r : List V → Hp → VK → Prop} {xs : List V} (h : EvL te σ H xs) (hr : ∀ p H1, H1 p = some (.lst xs) → Ex H H1 → RC r [.ref p] H1 z) : Ev (tCB r (tCons te tNil)) σ H z := fun H1 e Q q =>
  h H1 e _ fun p H2 _ e2 hp => hr p H2 hp (e.trans e2) H2 (Ex.refl H2) Q fun H3 e3 => q H3 (e2.trans e3)
theorem cutV_ints (ns : List Int) (lo hi : Option Int) : ∃ ms : List Int, cutV (ns.map V.int) lo hi = ms.map V.int := by
  unfold cutV
  exact ⟨_, by rw [← List.map_drop, ← List.map_take]⟩
end
/-! ### a box of three ints that a call changes -/
def Bx (H : Hp) (b : Addr) : Prop := ∃ i j k : Int, H b = some (.lst [.int i, .int j, .int k])
def ExB (b : Addr) (H H' : Hp) : Prop := ∀ c o, c ≠ b → H c = some o → H' c = some o
theorem ExB.refl {b : Addr} (H : Hp) : ExB b H H := fun _ _ _ h => h
theorem ExB.trans {b : Addr} {H H1 H2 : Hp} (h : ExB b H H1) (h2 : ExB b H1 H2) : ExB b H H2 := fun c o hc e => h2 c o hc (h c o hc e)
theorem ExB.of {b : Addr} {H H1 : Hp} (h : Ex H H1) : ExB b H H1 := fun c o _ e => h c o e
theorem Bx.ex {b : Addr} {H H1 : Hp} (h : Bx H b) (e : Ex H H1) : Bx H1 b := by
  obtain ⟨i, j, k, h⟩ := h
  exact ⟨i, j, k, e b _ h⟩
theorem ExB.upd {b : Addr} {H : Hp} {o : HO} : ExB b H (upd H b o) := fun c o hc e => by rw [upd_ne hc]; exact e
theorem Bx.put {b : Addr} {H : Hp} {i j k : Int} : Bx (upd H b (.lst [.int i, .int j, .int k])) b := ⟨i, j, k, upd_same⟩
theorem ExB.seq {K : PySem.W.Frag} {b a : Addr} {H H' : Hp} {xs : List V} (e : ExB b H H') (hab : a ≠ b) (h : SqL K H a xs) : SqL K H' a xs := by
  rcases h with (h | ⟨o, h⟩) | h
  · exact .inl (.inl (e _ _ hab h))
  · exact .inl (.inr ⟨o, e _ _ hab h⟩)
  · exact .inr h
theorem ExB.bx {b c : Addr} {H H' : Hp} (e : ExB b H H') (hcb : c ≠ b) (h : Bx H c) : Bx H' c := by
  obtain ⟨i, j, k, h⟩ := h
  exact ⟨i, j, k, e c _ hcb h⟩

section
variable {H : Hp}
theorem rv_inSS {c : Nat} {g : List Nat} : RV (fun x y H Q => ∃ (c : Nat) (z : Str), x = .str ⟨#[c]⟩ ∧ y = .str z ∧ Q (.bl (decide (c ∈ z.cps.toList))) H) (.str (S [c])) (.str (S g)) H (.bl (decide (c ∈ g))) := fun H1 _ _ q => ⟨c, S g, rfl, rfl, q H1 (Ex.refl H1)⟩
theorem rv_notInSS {c : Nat} {g : List Nat} : RV (fun x y H Q => ∃ (c : Nat) (z : Str), x = .str ⟨#[c]⟩ ∧ y = .str z ∧ Q (.bl (!decide (c ∈ z.cps.toList))) H) (.str (S [c])) (.str (S g)) H (.bl (!decide (c ∈ g))) := fun H1 _ _ q => ⟨c, S g, rfl, rfl, q H1 (Ex.refl H1)⟩
theorem rv_ltSS {a b : List Nat} : RV (fun x y H Q => ∃ i j, x = .str i ∧ y = .str j ∧ Q (.bl (decide (i.cps.toList < j.cps.toList))) H) (.str (S a)) (.str (S b)) H (.bl (decide (a < b))) := fun H1 _ _ q => ⟨S a, S b, rfl, rfl, q H1 (Ex.refl H1)⟩
theorem rv_catSS {a b : List Nat} (h : a.length + b.length ≤ 100000) : RV (fun x y H Q => ∃ i j, x = .str i ∧ y = .str j ∧ i.length + j.length ≤ sizeLine ∧ Q (.str (i ++ j)) H) (.str (S a)) (.str (S b)) H (.str (S (a ++ b))) := by
  have h2 := rv_catS (H := H) (a := S a) (b := S b) (by rw [S_len, S_len]; exact h)
  rw [S_app] at h2
  exact h2
theorem rc_lenSS {K : PySem.W.Frag} {l : List Nat} (h : l.length ≤ 100000) : RC (fun xs H Q => ∃ x n, xs = [x] ∧ LenV K x H n ∧ Q (.int n) H) [.str (S l)] H (.int l.length) := by
  have h2 := rc_lenS (K := K) (H := H) (w := S l) (by rw [S_len]; exact h)
  rw [S_len] at h2
  exact h2
theorem rc_lenStr {l : List Nat} (h : l.length ≤ 100000) : RC (fun xs H Q => ∃ z, xs = [V.str z] ∧ z.length ≤ sizeLine ∧ Q (.int z.length) H) [.str (S l)] H (.int l.length) := fun H1 _ _ q => ⟨S l, rfl, sz_of (by rw [S_len]; exact h), by rw [S_len]; exact q H1 (Ex.refl H1)⟩
theorem rv_eqII {a b : Int} : RV rEq (.int a) (.int b) H (.bl (decide (a = b))) := by
  have h2 := rv_eq (H := H) (x := .int a) (y := .int b) rfl
  have e : decide (V.int a = V.int b) = decide (a = b) := decide_eq_decide.mpr ⟨fun h => by injection h, fun h => by rw [h]⟩
  rw [e] at h2
  exact h2
theorem rv_neII {a b : Int} : RV rNe (.int a) (.int b) H (.bl (!decide (a = b))) := by
  have h2 := rv_ne (H := H) (x := .int a) (y := .int b) rfl
  have e : decide (V.int a = V.int b) = decide (a = b) := decide_eq_decide.mpr ⟨fun h => by injection h, fun h => by rw [h]⟩
  rw [e] at h2
  exact h2
theorem rv_neSS {a b : List Nat} : RV rNe (.str (S a)) (.str (S b)) H (.bl (!decide (a = b))) := by
  have h2 := rv_ne (H := H) (x := .str (S a)) (y := .str (S b)) rfl
  have e : decide (V.str (S a) = V.str (S b)) = decide (a = b) := decide_eq_decide.mpr ⟨fun h => S_inj (by injection h), fun h => by rw [h]⟩
  rw [e] at h2
  exact h2
theorem rv_eqSS {a b : List Nat} : RV rEq (.str (S a)) (.str (S b)) H (.bl (decide (a = b))) := by
  have h2 := rv_eq (H := H) (x := .str (S a)) (y := .str (S b)) rfl
  have e : decide (V.str (S a) = V.str (S b)) = decide (a = b) := by
    apply decide_eq_decide.mpr
    constructor
    · intro h
      exact S_inj (by injection h)
    · intro h
      rw [h]
  rw [e] at h2
  exact h2
end
/-! ### loops and comprehensions over a text -/
section
variable {K : PySem.W.Frag} {σ : L2.St} {H H' : Hp} {ta tb te tx : TE} {t : TT} {x y z v : V} {r : R2} {D : Ends} {tu tz : TS}
theorem its_at {l : List Nat} {i : Nat} {c : Nat} (h : (S l).cps[i]? = some c) : l[i]? = some c := by
  have h2 : l.toArray[i]? = some c := h
  simpa using h2
theorem its_sz (l : List Nat) : (S l).cps.size = l.length := by
  show l.toArray.size = l.length
  simp
theorem s_forS {l : List Nat} {j : Nat} (h : Ev te σ H (.str (S l))) (Pv : Nat → L2.St → Hp → Prop) (h0 : ∀ H1, Ex H H1 → Pv 0 σ H1)
    (hs : ∀ i c σ' H', l[i]? = some c → Pv i σ' H' → tu { D with nx := Pv (i + 1), ct := Pv (i + 1), bk := D.nx } (σ'.set j (some (.str (S [c])))) H') (hd : ∀ σ' H', Pv l.length σ' H' → D.nx σ' H') : tFor (iStr te) (gName j) tu D σ H :=
  h H (Ex.refl H) _ fun H1 e => ⟨S l, rfl, fun i m σ' H' => m = l.length - i ∧ i ≤ l.length ∧ Pv i σ' H', ⟨l.length, by simp, Nat.zero_le _, h0 H1 e⟩, fun i m σ' H' hw => by
    obtain ⟨rfl, hi, p⟩ := hw
    by_cases hlt : i < l.length
    · refine .inr ⟨by show i < (S l).cps.size; rw [its_sz]; exact hlt, Pv (i + 1), fun σ2 H2 p2 => ⟨l.length - (i + 1), by omega, rfl, hlt, p2⟩, fun x H2 hy => ?_⟩
      obtain ⟨e2, c, hc, ex⟩ := hy
      subst e2 ex
      exact hs i c σ' _ (its_at hc) p
    · have ei : i = l.length := by omega
      subst ei
      exact .inl ⟨by show (S l).cps.size ≤ l.length; rw [its_sz]; exact Nat.le_refl _, hd σ' H' p⟩⟩
theorem q_forS {l : List Nat} {j : Nat} (h : Ev te σ H (.str (S l))) (Pv : Nat → L2.St → Hp → Prop) (h0 : ∀ H1, Ex H H1 → Pv 0 σ H1)
    (hs : ∀ i c σ' H', l[i]? = some c → Pv i σ' H' → tu { D with nx := Pv (i + 1), ct := Pv (i + 1), bk := tz D } (σ'.set j (some (.str (S [c])))) H') (hd : ∀ σ' H', Pv l.length σ' H' → tz D σ' H') : tSeq (tFor (iStr te) (gName j) tu) tz D σ H :=
  s_forS (D := { D with nx := tz D }) h Pv h0 hs hd
theorem el_lcS {l : List Nat} {tl : TE} {j : Nat} {vs : List Nat} (f : Nat → Bool) (v : Nat → V) (h : Ev tl σ H (.str (S l))) (hz : l.length ≤ 40000) (hw : ∀ x, wipe ((wipe σ vs).set j (some x)) vs = wipe σ vs)
    (ht : ∀ (i : Nat) (c : Nat) H1, Ex H H1 → l[i]? = some c → EvT t ((wipe σ vs).set j (some (.str (S [c])))) H1 (f i)) (he : ∀ (i : Nat) (c : Nat) H1, Ex H H1 → l[i]? = some c → f i = true → Ev te ((wipe σ vs).set j (some (.str (S [c])))) H1 (v i)) :
    EvL (tLc (iStr tl) (gName j) t te vs) σ H (given l.length f v) := fun H0 e Q q => h H0 e _ fun H1 e1 => ⟨S l, rfl, fun Dl hD => by
  refine ⟨fun i m H' => m = l.length - i ∧ i ≤ l.length ∧ Cw H1 f v Dl i H', ⟨l.length, by simp, Nat.zero_le _, ⟨hD, Ex.new hD, upd_same⟩⟩, ?_⟩
  rintro i m H' ⟨rfl, hi, p⟩
  by_cases hlt : i < l.length
  · refine .inr ⟨by show i < (S l).cps.size; rw [its_sz]; exact hlt, Cw H1 f v Dl (i + 1), fun H2 p2 => ⟨l.length - (i + 1), by omega, rfl, hlt, p2⟩, fun x H2 hy => ?_⟩
    obtain ⟨e2, c, hc, ex⟩ := hy
    subst e2 ex
    have hc' := its_at hc
    exact ⟨hw _, cw_turn p (by omega) (ht i c H1 (e.trans e1) hc') (fun hf => he i c H1 (e.trans e1) hc' hf)⟩
  · have ei : i = l.length := by omega
    subst ei
    exact .inl ⟨by show (S l).cps.size ≤ l.length; rw [its_sz]; exact Nat.le_refl _, q Dl H' (fresh_back e1 p.1) (e1.trans p.2.1) p.2.2⟩⟩
end
theorem et_yes {σ : L2.St} {H : Hp} : EvT tYes σ H true := fun H1 _ _ q => q H1 (Ex.refl H1)
theorem given_all (n : Nat) (v : Nat → V) : given n (fun _ => true) v = (List.range n).map v := by
  unfold given
  rw [List.filter_eq_self.mpr (fun _ _ => rfl)]
theorem ev_index {K : PySem.W.Frag} {W : WX} {σ : L2.St} {H : Hp} {to : TE} {ta : TA} {z b : Str} {k : Nat} (ho : Ev to σ H (.str z)) (ha : EvA ta σ H [.str b]) (hk : Txt.index0 z b = some k) : Ev (tBMS K "str" (rIndexX W) to ta) σ H (.int (k : Int)) := fun H1 e _ q =>
  ho H1 e _ fun H2 e2 => ⟨rfl, ha H2 (e.trans e2) _ fun H3 e3 => ⟨z, b, rfl, rfl, fun j hj => by
    rw [hk] at hj
    cases hj
    exact q H3 (e2.trans e3), fun hn => by
    rw [hk] at hn
    cases hn⟩⟩
theorem given_filter {α : Type} (l : List α) (d : α) (p : α → Bool) (g : α → V) : given l.length (fun i => p (l.getD i d)) (fun i => g (l.getD i d)) = (l.filter p).map g := by
  unfold given
  have e : l = (List.range l.length).map fun i => l.getD i d := by
    apply List.ext_getElem
    · simp
    · intro i h1 h2
      simp [h1]
  conv => rhs; rw [e]
  rw [List.filter_map, List.map_map]
  rfl
theorem ev_pow10 {σ : L2.St} {H : Hp} {n v : Int} (h : (10 : Int) ^ n.toNat = v) (h0 : 0 ≤ n) (h1 : n ≤ 1000) : Ev (tOp (rI CPow fun i j => V.int (i ^ j.toNat)) (tC (V.int 10)) (tC (V.int n))) σ H (.int v) := by
  rw [← h]
  exact ev_op ev_c ev_c (rv_I ⟨h0, by omega, by decide⟩)
theorem getD_map_str (cs : List Nat) (k : Nat) : (cs.map fun c => V.str (S [c])).getD k (V.str (S [0])) = V.str (S [cs.getD k 0]) := by
  rw [List.getD_eq_getElem?_getD, List.getD_eq_getElem?_getD, List.getElem?_map]
  cases cs[k]? <;> rfl
theorem getD_in {l : List Nat} {k : Nat} (h : k < l.length) : l.getD k 0 ∈ l := by
  rw [List.getD_eq_getElem?_getD, List.getElem?_eq_getElem h]
  exact List.getElem_mem h
theorem emod_le_nat (i : Nat) {u : Int} (h : 0 < u) : (i : Int) % u ≤ i := by
  have h1 : (i : Int) % u + u * ((i : Int) / u) = i := by
    first
      | exact Int.emod_add_mul_ediv _ _
      | exact Int.emod_add_ediv _ _
  have h2 : 0 ≤ (i : Int) / u := Int.ediv_nonneg (by omega) (by omega)
  have h3 : 0 ≤ u * ((i : Int) / u) := Int.mul_nonneg (by omega) h2
  omega
theorem ev_to {σ : L2.St} {H : Hp} {te ti : TE} {l : List Nat} {k : Nat} (h : Ev te σ H (.str (S l))) (hi : Ev ti σ H (.int (k : Int))) (hl : l.length ≤ 100000) : Ev (tSl rSlS te tNoPart (tPart ti)) σ H (.str (S (l.take k))) := by
  have h := ev_slS h eo_none (eo_some hi) (by rw [S_len]; exact hl)
  rw [cut_to] at h
  exact h
theorem ev_from {σ : L2.St} {H : Hp} {te ti : TE} {l : List Nat} {k : Nat} (h : Ev te σ H (.str (S l))) (hi : Ev ti σ H (.int (k : Int))) (hl : l.length ≤ 100000) : Ev (tSl rSlS te (tPart ti) tNoPart) σ H (.str (S (l.drop k))) := by
  have h := ev_slS h (eo_some hi) eo_none (by rw [S_len]; exact hl)
  rw [cut_from] at h
  exact h
theorem op_first {σ : L2.St} {H : Hp} {r : R2} {ta tb : TE} {x : V} {Q : VK} (h : Ev ta σ H x) (k : ∀ H1, Ex H H1 → tb σ H1 fun y H2 => r x y H2 Q) : tOp r ta tb σ H Q := h H (Ex.refl H) _ k
theorem ret_op {σ : L2.St} {H : Hp} {r : R2} {ta tb : TE} {x : V} {D : Ends} (h : Ev ta σ H x) (k : ∀ H1, Ex H H1 → tb σ H1 fun y H2 => r x y H2 D.rt) : tRet (tOp r ta tb) D σ H := h H (Ex.refl H) _ k
end Lc
namespace Lc
open PySem PySem.Spec PyProof.Rows L2
/-! ### isinstance of an error with fields, both answers -/
section
open PySem.W
variable {prog : Program} {w : World} {A : Around} {E : Value → Shared → Prop} {s : Shared} {K : Frag} {x D : Addr} {ox : Obj} {od : Option Obj}
theorem findObj_dataX {C : Addr} {name : Str} {a g : Value} (hc : (clsIn K C).isSome = true) (ha : findIn K (.ref C) name = some (some a)) (hg : specialIn K a "__get__" = some (some g)) (ht : takesIn K a = some true) : findObj K C od name = some (.bind g a) := by
  obtain ⟨cd, hc⟩ := Option.isSome_iff_exists.mp hc
  unfold findObj
  rw [hc, Option.bind_some, ha, Option.bind_some]
  simp [hg, ht]
theorem kin_classX {Q : Option Value → Shared → Prop} (hga : findIn K (.ref D) "__getattribute__" = some (some (.builtin "BaseException.__getattribute__"))) (hgt : findIn K (.ref D) "__getattr__" = some none) (hsub : subIn K (.ref D) (.type "BaseException") = some true)
    (hdct : hasDictIn K D = true) (ha : findIn K (.ref D) "__class__" = some (some (.builtin "object.__class__")))
    (hn : specialIn K (.builtin "object.__class__") "__get__" = some (some (.builtin "getset_descriptor.__get__"))) (htk : takesIn K (.builtin "object.__class__") = some true) (hm : mroIn K D (.type "object") = some true)
    (X : K.In s.heap) (I : InstAt s.heap x ox D od) (h : Q (some (.ref D)) { s with toks := s.toks + 1 }) : wpAny (model prog w) A (getAttr? (.ref x) "__class__") Q E s := by
  have hf : findObj K D od "__class__" = some (.bind (.builtin "getset_descriptor.__get__") (.builtin "object.__class__")) := findObj_dataX (by obtain ⟨cd, hc, _⟩ := any_some hdct; rw [hc]; rfl) ha hn htk
  obtain ⟨hp, g, d, t, os⟩ := s
  have L0 := I.type (M := model prog w)
  have L1 := looks_findIn (M := model prog w) X hga
  have L2 := looks_findIn (M := model prog w) X hgt
  have L3 := looks_find (M := model prog w) X I hf
  have sub : Looks (model prog w) hp (isInstance (.ref x) (.type "BaseException")) true := L0.andThen (looks_subIn X hsub)
  have hx0 : (false && onTheHeap (Value.builtin "BaseException.__getattribute__")) = false := rfl
  have hx2 : (Value.builtin "BaseException.__getattribute__" == Value.builtin "object.__getattribute__") = false := by decide +kernel
  have hx1 : (onTheHeap (Value.ref D) && Value.builtin "BaseException.__getattribute__" == Value.builtin "object.__getattribute__") = false := by rw [hx2]; rfl
  unfold getAttr? getAttrBy? getAttrBy
  refine wpAny_bind (wpAny_mkText (wpAny_bind (wpAny_attempt (wpAny_holding (wpAny_bind (L0.at (wpAny_bind (L1.at ?_))))))))
  show wpAny _ _ (if (onTheHeap (Value.ref D) && Value.builtin "BaseException.__getattribute__" == Value.builtin "object.__getattribute__") = true then _ else _) _ _ _
  rw [hx1, if_neg Bool.false_ne_true]
  unfold getAttrByItsOwn hookBefore
  refine wpAny_bind ?_
  rw [if_pos (show onTheHeap (Value.ref D) = true from rfl)]
  refine L2.at ?_
  refine wpAny_bind (wpAny_attempt (wpAny_holding ?_))
  unfold callGetattribute
  rw [hx0, if_neg Bool.false_ne_true]
  unfold boundAndCalled
  rw [PySem.F.excAttr_ValueError.ga.bind (.ref x)]
  refine wpAny_bind (wpAny_pure ?_)
  show wpAny _ _ (call (.builtin "BaseException.__getattribute__") [.ref x, .str "__class__" t]) _ _ _
  refine wpAny_call (codeAny_call_builtin PySem.F.excAttr_ValueError.ga.plain PySem.F.entry_bexc_ga ?_)
  refine @check_slot (model prog w) _ _ ⟨hp, g, d, t + 1, os⟩ "BaseException.__getattribute__" "BaseException" "__getattribute__" (.ref x) [.str "__class__" t] [] _ (by decide +kernel) (by decide +kernel) sub (PySem.F.args_bexc_ga (.ref x) (.str "__class__" t)) ?_
  unfold Builtin.«object.__getattribute__»
  refine wpAny_bind (wpAny_of_eq (a := ((Value.ref x : Value), [Value.str "__class__" t])) (by first | rfl | (simp only [slotArgs]; rfl)) ?_)
  refine wpAny_bind (wpAny_pure (wpAny_bind (L0.at (wpAny_bind (L3.at ?_)))))
  show wpAny _ _ (holding [Value.builtin "object.__class__"] (call (.builtin "getset_descriptor.__get__") [.builtin "object.__class__", .ref x, .ref D]) >>= ret) _ _ _
  refine wpAny_bind (wpAny_holding (wpAny_call (class_get (s := ⟨hp, g, d, t + 1, os⟩) (ox := ox) (od := od) X I hm ?_)))
  refine wpAny_pure ?_
  show wpAny _ _ (handedOut (.ref D)) _ _ _
  rw [handedOut_of (v := .ref D) rfl]
  first
    | exact wpAny_pure (wpAny_pure h)
    | exact wpAny_pure h
    | exact wpAny_pure (wpAny_bind (wpAny_pure (wpAny_pure h)))
theorem kitx_excX (hga : findIn K (.ref D) "__getattribute__" = some (some (.builtin "BaseException.__getattribute__"))) (hgt : findIn K (.ref D) "__getattr__" = some none) (hsub : subIn K (.ref D) (.type "BaseException") = some true) (hdct : hasDictIn K D = true) (ha : findIn K (.ref D) "__class__" = some (some (.builtin "object.__class__")))
    (hn : specialIn K (.builtin "object.__class__") "__get__" = some (some (.builtin "getset_descriptor.__get__"))) (htk : takesIn K (.builtin "object.__class__") = some true) (hm : mroIn K D (.type "object") = some true) :
    KitX K (.ref x) (.ref D) (fun h => ∃ od, InstAt h x ox D od) where
  ty := fun _ _ _ I => by
    obtain ⟨od, I⟩ := I
    exact I.type
  it := fun _ _ X _ => by
    obtain ⟨cdD, hcD, _⟩ := any_some hdct
    unfold clsIn at hcD
    split at hcD
    · rename_i c' d' cd' sl' ho
      intro A' Q' E' s' k q
      unfold isType loadHead
      exact wpAny_bind (wpAny_loadPart (k _ _ (X _ _ ho)) (wpAny_pure q))
    · cases hcD
  ne := fun h tp dd its n sl X htp => by
    obtain ⟨cdD, hcD, _⟩ := any_some hdct
    refine Bool.eq_false_iff.mpr fun q => ?_
    have e : D = tp := Value.ref.inj (beq_iff_eq.mp q)
    subst e
    unfold clsIn at hcD
    split at hcD
    · rename_i c' d' cd' sl' ho
      have z := (X _ _ ho).symm.trans htp
      cases z
    · cases hcD
  ca := fun X I k => by
    obtain ⟨od, I⟩ := I
    exact kin_classX hga hgt hsub hdct ha hn htk hm X I k
end
def excB (K : PySem.W.Frag) (D : Addr) : Bool := decide (PySem.W.findIn K (.ref D) "__class__" = some (some (.builtin "object.__class__"))) && (decide (PySem.W.specialIn K (.builtin "object.__class__") "__get__" = some (some (.builtin "getset_descriptor.__get__"))) &&
  (decide (PySem.W.takesIn K (.builtin "object.__class__") = some true) && decide (PySem.W.mroIn K D (.type "object") = some true)))
theorem excB_ok {K : PySem.W.Frag} {D : Addr} (T : XfC K D) (h : excB K D = true) : ExcC K D := by
  unfold excB at h
  simp only [Bool.and_eq_true, decide_eq_true_eq] at h
  obtain ⟨h1, h2, h3, h4⟩ := h
  exact ⟨T.ga, T.gg, T.exC, T.hdC, h1, h2, h3, h4⟩
/-- isinstance(e, c), e a caught error with fields -/
def rIsG (K : PySem.W.Frag) (D a : Addr) (cls : Value) (d : Option Addr) : List V → Hp → VK → Prop := fun xs H Q => ∃ (c : V) (cv : Value) (b : Bool) (dd : Addr) (fs : List (Str × V)), xs = [.ref a, c] ∧ ClsV c cv ∧ cls = .ref D ∧ d = some dd ∧ H dd = some (.xd fs) ∧ PySem.W.kitOne K (.ref D) cv = some b ∧ Q (.bl b) H
theorem call_isG {X : Cx} {a D : Addr} {oe : Obj} {cls : Value} {d : Option Addr} {pn : List (Addr × Obj)} (C : ExcC X.K D) (hz : Zc cls d oe) (hf : ∃ vs, oe.data = .fields vs) : CallR (X.suite a ((a, oe) :: pn)) (.builtin "isinstance") (rIsG X.K D a cls d) := by
  intro pins s σ H xs us Q I r h
  obtain ⟨c, cv, b, dd, fs, rfl, k, rfl, rfl, hdd, e, q⟩ := h
  obtain ⟨u1, u2, rfl, r1, r2⟩ := vals2 r
  obtain rfl : u1 = Value.ref a := r1
  have e2 := k.eq r2
  subst e2
  obtain ⟨hget, _⟩ := I.pin (a, oe) (List.mem_append.mpr (.inl List.mem_cons_self))
  obtain ⟨vs, hv⟩ := hf
  have hx : ObjOk X.prog X.w H s.heap dd (.xd fs) := I.hok dd _ hdd
  obtain ⟨mA, hns, _⟩ := hx
  obtain ⟨od, ho, _⟩ := lookIn_ns hns
  have J : PySem.W.InstAt s.heap a oe D (some od) := ⟨hget, hz.1, by unfold PySem.W.notCls; rw [hv] <;> rfl, by rw [hz.2]; exact ho⟩
  exact PySem.W.kia_one (kitx_excX C.hg C.hk C.hs C.hd C.ha C.hn C.ht C.hm) I.kIn ⟨some od, J⟩ e (fun z => nomatch z) fun tk => ⟨.bl b, H, I.tok tk, rfl, q⟩
/-! ### e.replace(y, z).lower(), e.replace(y, z).upper() -/
section
variable {X : Cx} {o : Expr} {to : TE}
theorem pet_m0 {id : String} {name : Str} {apos pos : Pos} {r : V → List V → Hp → VK → Prop} (slot : Slot "str" name id) (ty : typeOf (.builtin id) = pure (.type "method_descriptor")) (rule : MtR X id r) (ho : PET X o to)
    (hbase : attributeBase o name X.env (eval o X.env) = eval o X.env := by rfl) (hline : (apos.endLine == pos.line) = true := by rfl) : PET X (.Call (.Attribute o name apos) [] [] pos) (tM0 r to) := by
  intro pins s σ H Q h0 I h
  refine PySem.Call_method0 hbase hline (thn (ho pins s σ H _ h0 I h) fun v s1 ⟨x, H1, I1, r1, q1⟩ => ?_)
  obtain ⟨⟨a, rfl⟩, q1⟩ := q1
  obtain ⟨t, rfl⟩ := _root_.id r1
  exact ⟨"str", _, F.plainAttrs_str, slot, ty, typeIs_str _ _ _, (fun _ e => nomatch e), Calls.callWith_builtin rfl (PySem.evalArgs_none (rule pins s1 σ H1 _ [] _ [] Q I1 r1 .nil q1))⟩
end
/-- a def's body, one token out at its beginning -/
theorem okT {P : Program} {w : World} {K : PySem.W.Frag} {mg : Str → Option Value} {base : Heap} {k : Nat} {d : He5.DefA} {N ps : List Str} {sp : Sp} (F : HasD K d) (S : FnScope N ps d.scope) (hnc : ∀ y ∈ d.scope.names, y.2 ≠ .cell) (hps : 1 ≤ ps.length) (len : ∀ vs H Q E, sp vs H Q E → vs.length = ps.length)
    (hbody : ∀ (cdv : Value) (A : Around) (outer : List Env) (s : Shared) (H : Hp) (vs : List V) (Q : VK) (E : XK), Room k (A.deeper (envOfC d.qual d.scope s.heap.objs.size (d.at_ K) cdv)) → sp vs H Q E →
      ∃ t, PSsT (cxOf (L2N.CX P w) P w K mg base N d.qual d.scope (d.at_ K) cdv A outer s H E) d.body t ∧ t { nx := fun _ H' => Q .non H', rt := Q } (start N vs) H) :
    OkD P w K mg base (k + 1) d ps sp := by
  obtain ⟨oc, od, dV, kV, doc, pm, an, cdv, ct, osl, e, lk, hcd, _, _⟩ := F.ex
  show FnOk P w K mg base (L2N.CX P w) (k + 1) (d.at_ K) (fdOf K (d.at_ K)) ps sp
  rw [e] at lk ⊢
  exact fn_ofT lk hcd S hnc hps len (fun A outer s H vs Q E hr h => hbody cdv A outer s H vs Q E hr h)
/-! ### enumerate(a text) -/
def Itn (z : Str) : It := ⟨fun i _ => i < z.cps.size, fun i H v H' => ∃ T c, v = .ref T ∧ H T = none ∧ H' = upd H T (.tup [.int (i : Nat), .str ⟨#[c]⟩]) ∧ z.cps[i]? = some c, fun i _ => z.cps.size ≤ i⟩
theorem turn_enumS {P : Program} {w : World} {K : PySem.W.Frag} {elts : List Expr} {kk : Nat} {tpos : Pos} (z : Str) (t : Tok) (e it : Addr) (ty : String) (hty : ty = "str_ascii_iterator" ∨ ty = "str_iterator") :
    Turn P w K (.Tuple elts kk tpos) (Itn z) [e, it] e (fun i h => (∃ old, IsEnum h e it ((i : Nat) : Int) old) ∧ h.IsStrIter it ty z t i ∧ e ≠ it) where
  mem := by simp
  obj := fun i h st b hb => by
    obtain ⟨⟨old, he⟩, ⟨o, ho, hc, hd⟩, _⟩ := st
    have e' : b = e ∨ b = it := by simpa using hb
    rcases e' with q | q
    · rw [q]; exact ⟨_, he, fun v q => nomatch q⟩
    · rw [q]; exact ⟨o, ho, fun v q => by rw [hd] at q; cases q⟩
  keep := fun i h h' st k => let ⟨⟨old, he⟩, ⟨o, ho, r⟩, hne⟩ := st; ⟨⟨old, k e (by simp) _ he⟩, ⟨o, k it (by simp) o ho, r⟩, hne⟩
  item := by
    intro X hP hw hK hc i pins s σ H E I hf st hg
    subst hP hw hK
    obtain ⟨⟨old, he⟩, hit, hne⟩ := st
    have hel : e < s.heap.objs.size := Heap.lt_size he
    have hil : it < s.heap.objs.size := by obtain ⟨_, q, _⟩ := hit; exact Heap.lt_size q
    have hh : X.A.in1.handled = none := I.ok.hd hc
    have D : Draws X.prog X.w X.A.in1 it [it] z.cps.size (fun i v => ∃ c u, z.cps[i]? = some c ∧ v = .str ⟨#[c]⟩ u) (fun i h => h.IsStrIter it ty z t i) := by
      rcases hty with q | q
      · rw [q]; exact Draws.strAscii hh it z t
      · rw [q]; exact Draws.strWide hh it z t
    refine wpAny_pyNext_enum_itemD D he hit hg hne (by simpa using hne) fun x h' tk hx ho hit' hT hsz hk => ?_
    obtain ⟨c, u, hcx, rfl⟩ := hx
    refine ⟨_, rfl, wpAny_letOwnedTupleGo_enum (s := { s with heap := h', toks := tk + 1 }) ho fun h'' he' sb => ?_⟩
    have hT2 : h''.get? s.heap.objs.size = some { cls := .type "tuple", data := .seq #[.int i tk, .str ⟨#[c]⟩ u] } := (sb.2 _ (Nat.ne_of_gt hel)).trans hT
    have new : ObjOk X.prog X.w (upd H s.heap.objs.size (.tup [.int (i : Nat), .str ⟨#[c]⟩])) h'' s.heap.objs.size (.tup [.int (i : Nat), .str ⟨#[c]⟩]) :=
      ⟨by show 2 ≤ sizeLine; decide, [.int i tk, .str ⟨#[c]⟩ u], .cons ⟨_, rfl⟩ (.cons ⟨_, rfl⟩ .nil), ⟨_, hT2, rfl, _, rfl⟩⟩
    have I1 : Inv X pins σ (upd H s.heap.objs.size (.tup [.int (i : Nat), .str ⟨#[c]⟩])) { s with heap := h'', toks := tk + 1 } :=
      I.turnedNew (ch := [e, it]) (fun b ob hb q => (sb.2 b (fun z => hb (by simp [z]))).trans (hk b ob (fun z => hb (by simp [z])) (fun z => hb (by simp [z])) q)) hf (Nat.le_refl _) new
    refine ⟨.ref s.heap.objs.size, _, I1, rfl, ⟨_, c, rfl, I.hok.fresh (Nat.le_refl _), rfl, hcx⟩, ⟨⟨.str ⟨#[c]⟩ u, ?_⟩, ?_, hne⟩, fun b hb => ?_⟩
    · have e1 : ((i + 1 : Nat) : Int) = (i : Int) + 1 := by omega
      rw [e1]; exact he'
    · obtain ⟨o, ho', r⟩ := hit'
      exact ⟨o, (sb.2 it (Ne.symm hne)).trans ho', r⟩
    · have hb' : b < s.heap.objs.size := by
        have e' : b = e ∨ b = it := by simpa using hb
        rcases e' with q | q
        · rw [q]; exact hel
        · rw [q]; exact hil
      rw [upd_ne (Nat.ne_of_lt hb')]
      exact (hf b hb).1
  done := by
    intro X hP hw hK hc i pins s σ H E I hf st hg
    subst hP hw hK
    obtain ⟨⟨old, he⟩, hit, hne⟩ := st
    obtain ⟨f0, f1, f2, f3, f4, f5⟩ := hf it (by simp)
    have hh : X.A.in1.handled = none := I.ok.hd hc
    have hx : z.cps[i]? = none := Array.getElem?_eq_none hg
    have hT : s.TypeIs (.ref e) "enumerate" := ⟨_, he, rfl⟩
    unfold pyNext
    refine wpAny_bind (wpAny_attempt (wpAny_callSpecial?_slot (name := Str.ofString "__next__") hT F.slot_enumerate_next
      (wpAny_call_entry F.slot_enumerate_next hT F.entry_enumerate_next ?_ (F.args_enumerate_next_1 _))))
    show wpAny _ _ (field (.ref e) 2 >>= _) _ _ _
    refine wpAny_bind (wpAny_field he rfl (x := .ref it) rfl ?_)
    rcases hty with q | q
    · rw [q] at hit
      refine wpAny_bind (wpAny_nextOf_ascii_end hh hit hx fun h' x eb hx' => ?_)
      obtain ⟨o, ho, hc'⟩ := hx'
      refine wpAny_bind (wpAny_isInstance (T := "StopIteration") (b := true) ⟨o, ho, hc'⟩ isSubtype_stop ?_)
      exact wpAny_pure ⟨rfl, I.turned (t' := s.toks) (fun b o hb e => eb b o hb e) f0 f1 f3 f4 f5⟩
    · rw [q] at hit
      refine wpAny_bind (wpAny_nextOf_wide_end hh hit hx fun h' x eb hx' => ?_)
      obtain ⟨o, ho, hc'⟩ := hx'
      refine wpAny_bind (wpAny_isInstance (T := "StopIteration") (b := true) ⟨o, ho, hc'⟩ isSubtype_stop ?_)
      exact wpAny_pure ⟨rfl, I.turned (t' := s.toks) (fun b o hb e => eb b o hb e) f0 f1 f3 f4 f5⟩
  self := fun A i s Q E st h => let ⟨⟨_, he⟩, _⟩ := st; wpAny_pyIter_enum he h
def iEnumS (ta : TA) : TI := fun σ H R => ta σ H fun vs H1 => ∃ z, vs = [.str z] ∧ R (Itn z) H1
theorem pi_enumS {X : Cx} {e : Expr} {ta : TA} {p pos tpos : Pos} {elts : List Expr} {kk : Nat} (hg : Gl X "enumerate") (hm : X.mg "enumerate" = none) (ha : PA X [e] ta) (hs : starEach [e] X.env = [(false, eval e X.env)] := by rfl) :
    PI X (.Tuple elts kk tpos) (.Call (.Name "enumerate" p) [e] [] pos) (iEnumS ta) := by
  refine ⟨fun pins s σ H R I h => ?_⟩
  refine Call_ (ld_blt I hg hm boot_enumerate (PyProof.Rows.callWith_type1 (thn (ha.run pos pins s σ H _ I h) fun us s1 ⟨vs, H1, I1, r1, q1⟩ => ?_) hs rfl))
  obtain ⟨z, ex, q⟩ := q1
  subst ex
  obtain ⟨u, rfl, r⟩ := vals1 r1
  obtain ⟨t, rfl⟩ := r
  refine call_enumerate_str fun h' he hit hsz hk => wpAny_pyIter_enum he ?_
  have I2 : Inv X pins σ H1 { s1 with heap := h' } := I1.kept (t' := s1.toks) hk
  have hty : strIterType z = "str_ascii_iterator" ∨ strIterType z = "str_iterator" := by
    unfold strIterType
    split
    · exact .inl rfl
    · exact .inr rfl
  refine ⟨s1.heap.objs.size + 1, [s1.heap.objs.size + 1, s1.heap.objs.size], _, _, H1, rfl, I2, turn_enumS z t (s1.heap.objs.size + 1) s1.heap.objs.size _ hty, ⟨⟨.none, he⟩, hit, Nat.succ_ne_self _⟩, fun b hb => ?_, q⟩
  have e' : b = s1.heap.objs.size + 1 ∨ b = s1.heap.objs.size := by simpa using hb
  have hle : s1.heap.objs.size ≤ b := by
    rcases e' with z | z
    · rw [z]; exact Nat.le_add_right _ _
    · rw [z]; exact Nat.le_refl _
  exact I1.fpOk hle (I1.hok.fresh hle)
end Lc
namespace Lc
open PySem PySem.Spec PyProof.Rows L2
/-! ### an own error as a value: made, its field read, asked for its class -/
def tMkV (C : Addr) (sp : Sp) (dvs : List V) (ta : TA) : TE := fun σ H Q => ta σ H fun vs H1 => vs.length ≤ 1000 ∧ ∀ a, H1 a = none → sp (.ref a :: (vs ++ dvs)) (upd H1 a (exo a C none)) (fun v H2 => v = .non ∧ Q (.ref a) H2) E0
section
variable {X : Cx}
theorem pe_mkV {CY : CXT} {nm : Str} {C g : Addr} {lev : Nat} {fdI : FuncData} {prs : List Str} {pr : Sp} {xs : List Value} {ws : List V} {arg : Expr} {more : List Expr} {tA : TA} {q1 q2 : Pos}
    (ox : OexC X.K C) (at_ : PySem.W.findIn X.K (.ref C) "__init__" = some (some (.ref g))) (isf : PySem.W.typeIn X.K (.ref g) = some (.type "function"))
    (keeps : FnOk X.prog X.w X.K X.mg X.base CY lev g fdI prs pr) (room : Room (lev + 1) X.A) (bnd : Binds X.K fdI prs xs) (vls : Vals ws xs) (ps : Passes CY X E0) (gl : Gl X nm) (mgx : X.mg nm = some (.ref C)) (pa : PA X (arg :: more) tA)
    (ndb : (nm == ("__debug__" : Str)) = false := by decide) (plain1 : starEach (arg :: more) X.env = (false, eval arg X.env) :: starEach more X.env := by rfl) (plain2 : (backTo q2 (starEach more X.env)).any (·.1) = false := by rfl) :
    PE X (.Call (.Name nm q1) (arg :: more) [] q2) (tMkV C pr ws tA) := by
  refine ⟨fun pins s σ H Q I goal => ?_⟩
  obtain ⟨_, _, _, _, mro, _, _, _, _, _, _, _, _, _, _, lkC, ve⟩ := ox.cls
  refine wpAny_Call_Name_kw (ld_glob I gl mgx ?_ ndb)
  refine PySem.W.callWith_K (h₀ := X.base) I.ok.mod.kin ox.kC (thn (pa.run q2 pins s σ H _ I goal) ?_) plain1 plain2
  rintro us ⟨hp, gs, dr, tk, os⟩ ⟨vs, Ha, Ia, ra, small, each⟩
  refine ⟨Ia.kIn, ?_⟩
  show wpAny _ _ (call (.ref C) us) _ _ _
  have above : hp.objs.size ≤ hp.objs.size + 1 := by omega
  have free : Ha (hp.objs.size + 1) = none := Ia.hok.fresh above
  have pr1 := each (hp.objs.size + 1) free
  let hp2 := (hp.push (PySem.W.kdv_tup us)).push (PySem.HandSPX.excO C hp.objs.size)
  have kept : ∀ b o, hp.get? b = some o → hp2.get? b = some o := fun b o e => Heap.get?_push_of_some _ (Heap.get?_push_of_some _ e)
  have here : hp2.get? (hp.objs.size + 1) = some (PySem.HandSPX.excO C hp.objs.size) := by show ((hp.push (PySem.W.kdv_tup us)).push (PySem.HandSPX.excO C hp.objs.size)).get? _ = _; heap_get
  have Ib : Inv X pins σ (upd Ha (hp.objs.size + 1) (exo (hp.objs.size + 1) C none)) ⟨hp2, gs, dr, tk, os⟩ := Ia.laid (t' := tk) (a := hp.objs.size + 1) (o := exo (hp.objs.size + 1) C none) (h' := hp2) kept above (exo_ok here)
  have rb : Vals (V.ref (hp.objs.size + 1) :: (vs ++ ws)) (Value.ref (hp.objs.size + 1) :: (us ++ xs)) := .cons rfl (ra.append vls)
  have many : (Value.ref (hp.objs.size + 1) :: us ++ xs).length = prs.length := by rw [← keeps.len _ _ _ _ pr1]; exact rb.length.symm
  have fits : us.length ≤ sizeLine := by rw [← Paired.length ra, sizeLine_eq]; omega
  have body := keeps.run _ X.stack _ _ ⟨Value.ref (hp.objs.size + 1) :: us, []⟩ (Value.ref (hp.objs.size + 1) :: (us ++ xs)) _ _ E0 (room.make C us []) (Ib.env0.make C us []) (bnd _ (Value.ref (hp.objs.size + 1) :: us) Ib.kIn many) rb pr1
  refine wpAny_call (PySem.HandSPX.call_own F.excBase_ValueError (fun Y => PySem.HandSPX.refsVE_contains Y mro ve) (Ia.kIn _ _ lkC) (PySem.W.looks_findIn Ia.kIn at_) (fun self => PySem.W.bind_fn Ia.kIn self isf) fits (codeAny_mono body ?_))
  intro r s' after
  match r, after with
  | .error er, after => exact ps pins σ _ _ er s' Ib after
  | .ok (.ret u), after =>
    obtain ⟨v, Hb, J, rv, none_, q⟩ := Ib.after after
    subst none_
    exact ⟨rv, .ref (hp.objs.size + 1), Hb, J, rfl, q⟩
  | .ok .next, after => exact False.elim after
  | .ok .brk, after => exact False.elim after
  | .ok .cont, after => exact False.elim after
/-- e.f, e an own error with its dict -/
def tXo (K : PySem.W.Frag) (f : Str) (te : TE) : TE := fun σ H Q => te σ H fun x H1 => ∃ (a C dx : Addr) (fs : List (Str × V)) (v : V), x = .ref a ∧ XfC K C ∧ PySem.W.findIn K (.ref C) f = some none ∧ H1 a = some (exo a C (some dx)) ∧ H1 dx = some (exd dx fs) ∧ fs.lookup f = some v ∧ Q v H1
theorem exo_inst {P : Program} {w : World} {H : Hp} {h : Heap} {a C dx : Addr} {fs : List (Str × V)} (hok : HOk P w H h) (ha : H a = some (exo a C (some dx))) (hd : H dx = some (exd dx fs)) :
    ∃ (ox : Obj) (od : Obj) (mA : Str → Option Value), PySem.W.InstAt h a ox C (some od) ∧ (∀ f, RelO (fs.lookup f) (mA f)) ∧ (∀ f, PySem.W.lookIn f od = some (mA f)) := by
  obtain ⟨t1, ho⟩ := exo_at hok ha
  obtain ⟨mA, hns, rel⟩ := exd_at hok hd
  obtain ⟨od, hod, hl⟩ := lookIn_ns hns
  exact ⟨_, od, mA, ⟨ho, rfl, rfl, hod⟩, rel, hl⟩
theorem pe_xo {e : Expr} {te : TE} {pos : Pos} {n : Str} (he : PE X e te) (hb : attributeBase e n X.env (eval e X.env) = eval e X.env := by rfl) : PE X (.Attribute e n pos) (tXo X.K n te) := by
  refine ⟨fun pins s σ H Q I h => ?_⟩
  refine attr_of hb (thn (he.run pins s σ H _ I h) fun u s1 hh => ?_)
  obtain ⟨x, H1, I1, rx, a, C, dx, fs, v, ex, T, hno, ha, hd, l, q⟩ := hh
  subst ex
  obtain rfl : u = Value.ref a := rx
  obtain ⟨ox, od, mA, J, rel, hl⟩ := exo_inst I1.hok ha hd
  obtain ⟨u, hu, ru⟩ := RelO.some_of (v := v) (o := mA n) (by rw [← l]; exact rel n)
  exact HandSPX.exc_get I1.kIn J T.ga T.gg T.exC (PySem.W.findObj_own T.hdC hno rfl (by rw [hl, hu])) (handed_of ru) ⟨v, H1, I1.tok _, ru, q⟩
/-- isinstance(e, c), e an own error with its dict -/
def rIsV (K : PySem.W.Frag) : List V → Hp → VK → Prop := fun xs H Q => ∃ (a D dx : Addr) (fs : List (Str × V)) (c : V) (cv : Value) (b : Bool), xs = [.ref a, c] ∧ ClsV c cv ∧ ExcC K D ∧ H a = some (exo a D (some dx)) ∧ H dx = some (exd dx fs) ∧ PySem.W.kitOne K (.ref D) cv = some b ∧ Q (.bl b) H
theorem call_isV : CallR X (.builtin "isinstance") (rIsV X.K) := by
  intro pins s σ H xs us Q I r h
  obtain ⟨a, D, dx, fs, c, cv, b, rfl, k, C, ha, hd, e, q⟩ := h
  obtain ⟨u1, u2, rfl, r1, r2⟩ := vals2 r
  obtain rfl : u1 = Value.ref a := r1
  have e2 := k.eq r2
  subst e2
  obtain ⟨ox, od, mA, J, _, _⟩ := exo_inst I.hok ha hd
  exact PySem.W.kia_one (kitx_excX C.hg C.hk C.hs C.hd C.ha C.hn C.ht C.hm) I.kIn ⟨some od, J⟩ e (fun z => nomatch z) fun tk => ⟨.bl b, H, I.tok tk, rfl, q⟩
/-- {t!r}, t a tuple of texts -/
theorem pe_fmtRT {e : Expr} {te : TE} {pos : Pos} {k : Nat} (hr : Room k X.A) (he : PE X e te) : PE X (.FormattedValue e 114 none pos) (tFmtT X.K te) := by
  refine ⟨fun pins s σ H Q I h => ?_⟩
  refine wpAny_FormattedValue_repr (thn (he.run pins s σ H _ I h) fun v s1 hv => ?_)
  obtain ⟨x, H1, I1, r1, a, l, rfl, ht, hc, hz, q⟩ := hv
  cases r1
  obtain ⟨its, rv, ⟨o, ho, hcl, n, hd⟩, _⟩ := I1.tuple ht
  have hp := fmt_piled l hc
  have htx := fmt_text (l.map reprText)
  have hu := hr.units
  refine wpAny_pyReprObj_slot (by omega) ⟨o, ho, hcl⟩ F.slot_tuple_repr (fmt_tuple_repr (ts := l.map reprText) ho hcl hd (repr_all rv fun y hy => ?_) (by omega) fun m u tk hm => ⟨m, u, rfl, ?_⟩)
  · have h1 := StrLaws.reprText_len y (hc y hy)
    have h2 := fmtCost_mem hy
    omega
  · exact wpAny_formatField_str ⟨.str m, H1, I1.tok _, ⟨_, rfl⟩, q m (by omega)⟩ ⟨.str m, H1, I1.tok _, ⟨_, rfl⟩, q m (by omega)⟩ (by omega)
/-- sorted(t), t a text below 64 signs -/
def sgs (z : Str) : List Str := z.cps.toList.map fun c => (⟨#[c]⟩ : Str)
def rSortS : List V → Hp → VK → Prop := fun xs H Q => ∃ z : Str, xs = [.str z] ∧ z.length < 64 ∧ ∀ ys p H', ys.Perm (sgs z) → sortedS ys = true → H p = none → H' = upd H p (.lst (ys.map V.str)) → Q (.ref p) H'
theorem call_sortedStr (hcalm : X.calm = true) : CallR X (.builtin "sorted") rSortS := by
  intro pins s σ H xs us Q I r q
  obtain ⟨z, ex, h64, q⟩ := q
  subst ex
  obtain ⟨u, eu, rx⟩ := vals1 r
  subst eu
  obtain ⟨t, rfl⟩ := rx
  have hzl : z.cps.size = z.length := rfl
  have hzs : (sgs z).length = z.length := by
    unfold sgs
    rw [List.length_map, Array.length_toList]
    rfl
  refine Calls.call_function_entry PyProof.Rows.kind_sorted PyProof.Rows.plain_sorted PyProof.Rows.entry_sorted (PyProof.Rows.args_sorted1 _) ?_
  unfold Builtin.«sorted»
  refine wpAny_bind (m := checkCount "sorted" 1 1 _) (wpAny_pure ?_)
  refine wpAny_bind (wpAny_collect_str (A := X.A.in1) (I.ok.hd hcalm) z t (fun s' acc hk hg hd ho hacc => ?_) (by rw [hzl, sizeLine_eq]; omega))
  obtain ⟨hp', g', d', tk, os'⟩ := s'
  dsimp only at hk hg hd ho
  subst hg hd ho
  have hal : acc.toList.length = (sgs z).length := by rw [Array.length_toList, hacc.1, hzs]; rfl
  have hS : StrsAre acc.toList (sgs z) := L2.strs_at hal fun j v e => by
    obtain ⟨c, u, e1, e2⟩ := hacc.2 j v (by rw [← Array.getElem?_toList]; exact e)
    refine ⟨⟨#[c]⟩, u, ?_, e2⟩
    unfold sgs
    rw [List.getElem?_map, Array.getElem?_toList, e1]
    rfl
  have I1 : Inv X pins σ H { s with heap := hp', toks := tk } := I.kept hk
  refine wpAny_bind (wpAny_newList ?_ (by rw [hal, hzs, sizeLine_eq]; omega))
  have hoL : (hp'.push (seqObj "list" acc.toList.toArray 0)).get? hp'.objs.size = some (seqObj "list" acc.toList.toArray 0) := Heap.get?_push_size _ rfl
  show wpAny _ _ _ _ _ { s with heap := hp'.push (seqObj "list" acc.toList.toArray 0), toks := tk }
  refine wpAny_bind (wpAny_holding (wpAny_call_entry PyProof.Rows.slot_list_sort ⟨_, hoL, rfl⟩ PyProof.Rows.entry_list_sort
    (list_sort_treeK strKind_oneLt (s := { s with heap := hp'.push (seqObj "list" acc.toList.toArray 0), toks := tk }) hoL hS.keysOf (fun v₁ v₂ rest e => keyKind_strs (by rw [← e]; exact hS)) (by rw [hal, hzs]; exact h64) fun st' hp hs => ⟨_, rfl, ?_⟩)
    (PyProof.Rows.args_list_sort _)))
  obtain ⟨ys, g1, g2, g3⟩ := sorted_out_str hS hp hs
  obtain ⟨e', he'⟩ := PyProof.Rows.sortedHeap_at (vs := acc.toList) (out := (arrOf st').map (·.2)) hoL
  have hlen : (ys.map V.str).length ≤ sizeLine := by
    rw [List.length_map, g2.length_eq, hzs]
    exact Nat.le_trans (Nat.le_of_lt h64) (by decide)
  refine wpAny_pure ⟨_, rfl, .ref hp'.objs.size, upd H hp'.objs.size (.lst (ys.map V.str)), I1.laid (t' := tk) (fun b u e => ?_) (Nat.le_refl _)
    (show ObjOk X.prog X.w _ _ _ (.lst (ys.map V.str)) from ⟨hlen, ((arrOf st').map (·.2)).toList, e', vals_of_strs g1, by rw [Array.toArray_toList]; exact he'⟩), rfl, q ys _ _ g2 g3 (I1.hok.fresh (Nat.le_refl _)) rfl⟩
  have hb : b < hp'.objs.size := Heap.lt_size e
  rw [PyProof.Rows.sortedHeap_old (Nat.ne_of_lt hb) (by rw [size_push']; exact Nat.lt_succ_of_lt hb)]
  exact Heap.get?_push_of_some _ e
end
end Lc
namespace Lc
open PySem PySem.Spec PyProof.Rows L2 Evl
section
variable {K : PySem.W.Frag} {σ : L2.St} {H H' : Hp} {ta tb te tx : TE} {t : TT} {x y z v : V} {r : R2} {D : Ends} {tu tz : TS} {tA : TA}
/-- the pair (i, sign) taken apart -/
theorem gpair {K : PySem.W.Frag} {p q : Nat} {Ta : Addr} {a b : V} {σ : L2.St} {H : Hp} {Q : L2.St → Hp → Prop} (h : H Ta = some (.tup [a, b])) (k : Q ((σ.set p (some a)).set q (some b)) H) : gTup K 2 (gCons (gName p) (gCons (gName q) gNil)) (.ref Ta) σ H Q :=
  ⟨Ta, [a, b], rfl, st_of h, rfl, _, _, rfl, _, _, rfl, rfl, k⟩
theorem el_lcE {l : List Nat} {p q : Nat} {vs : List Nat} (f : Nat → Bool) (v : Nat → V) (h : EvA tA σ H [.str (S l)]) (hz : l.length ≤ 40000) (hw : ∀ x y, wipe (((wipe σ vs).set p (some x)).set q (some y)) vs = wipe σ vs)
    (ht : ∀ (i : Nat) (c : Nat) H1, Ex H H1 → l[i]? = some c → EvT t (((wipe σ vs).set p (some (.int (i : Nat)))).set q (some (.str (S [c])))) H1 (f i))
    (he : ∀ (i : Nat) (c : Nat) H1, Ex H H1 → l[i]? = some c → f i = true → Ev te (((wipe σ vs).set p (some (.int (i : Nat)))).set q (some (.str (S [c])))) H1 (v i)) :
    EvL (tLc (iEnumS tA) (gTup K 2 (gCons (gName p) (gCons (gName q) gNil))) t te vs) σ H (given l.length f v) := fun H0 e Q qq => h H0 e _ fun H1 e1 => ⟨S l, rfl, fun Dl hD => by
  refine ⟨fun i m H' => m = l.length - i ∧ i ≤ l.length ∧ Cw H1 f v Dl i H', ⟨l.length, by simp, Nat.zero_le _, ⟨hD, Ex.new hD, upd_same⟩⟩, ?_⟩
  rintro i m H' ⟨rfl, hi, pc⟩
  by_cases hlt : i < l.length
  · refine .inr ⟨by show i < (S l).cps.size; rw [its_sz]; exact hlt, Cw H1 f v Dl (i + 1), fun H2 p2 => ⟨l.length - (i + 1), by omega, rfl, hlt, p2⟩, fun x H2 hy => ?_⟩
    obtain ⟨Ta, c, ex, hT, e2, hc⟩ := hy
    subst ex
    have hc' := its_at hc
    obtain ⟨c1, c2, c3⟩ := pc
    have pc2 : Cw H1 f v Dl i H2 := ⟨c1, by rw [e2]; exact c2.trans (Ex.new hT), by
      rw [e2, upd_ne (fun z => by rw [z, hT] at c3; cases c3)]
      exact c3⟩
    refine gpair (by rw [e2]; exact upd_same) ⟨hw _ _, ?_⟩
    exact cw_turn pc2 (by omega) (ht i c H1 (e.trans e1) hc') (fun hf => he i c H1 (e.trans e1) hc' hf)
  · have ei : i = l.length := by omega
    subst ei
    exact .inl ⟨by show (S l).cps.size ≤ l.length; rw [its_sz]; exact Nat.le_refl _, qq Dl H' (fresh_back e1 pc.1) (e1.trans pc.2.1) pc.2.2⟩⟩
theorem s_forE {l : List Nat} {p q : Nat} (h : EvA tA σ H [.str (S l)]) (Pv : Nat → L2.St → Hp → Prop) (h0 : ∀ H1, Ex H H1 → Pv 0 σ H1) (hx : ∀ i σ' H1 H2, Pv i σ' H1 → Ex H1 H2 → Pv i σ' H2)
    (hs : ∀ i c σ' H', l[i]? = some c → Pv i σ' H' → tu { D with nx := Pv (i + 1), ct := Pv (i + 1), bk := D.nx } ((σ'.set p (some (.int (i : Nat)))).set q (some (.str (S [c])))) H') (hd : ∀ σ' H', Pv l.length σ' H' → D.nx σ' H') :
    tFor (iEnumS tA) (gTup K 2 (gCons (gName p) (gCons (gName q) gNil))) tu D σ H :=
  h H (Ex.refl H) _ fun H1 e => ⟨S l, rfl, fun i m σ' H' => m = l.length - i ∧ i ≤ l.length ∧ Pv i σ' H', ⟨l.length, by simp, Nat.zero_le _, h0 H1 e⟩, fun i m σ' H' hw => by
    obtain ⟨rfl, hi, pv⟩ := hw
    by_cases hlt : i < l.length
    · refine .inr ⟨by show i < (S l).cps.size; rw [its_sz]; exact hlt, Pv (i + 1), fun σ2 H2 p2 => ⟨l.length - (i + 1), by omega, rfl, hlt, p2⟩, fun x H2 hy => ?_⟩
      obtain ⟨Ta, c, ex, hT, e2, hc⟩ := hy
      subst ex
      refine gpair (by rw [e2]; exact upd_same) ?_
      exact hs i c σ' _ (its_at hc) (hx _ _ _ _ pv (by rw [e2]; exact Ex.new hT))
    · have ei : i = l.length := by omega
      subst ei
      exact .inl ⟨by show (S l).cps.size ≤ l.length; rw [its_sz]; exact Nat.le_refl _, hd σ' H' pv⟩⟩
end
end Lc
namespace Lc
open PySem PySem.Spec PyProof.Rows L2 Evl
/-! ### keywords, no positional defaults -/
theorem kbinds0 {K : PySem.W.Frag} {x qual : Str} {params : Arguments} {body : List Stmt} {scope : Scope} {kws : List (Str × V)} {f : Addr} {fd : FuncData} {ps : List Str} (F : FunD K x qual params body scope [] kws f fd) (n : Nat) (ks : List Str) (ms : List (Str × V)) (g : {α : Type} → List α → List α → List α → List α) (hk : kws ≠ []) (hms : ∀ q ∈ ms, q ∈ kws)
    (hrel : ∀ {vs mz zs : List V} {us mv ws : List Value}, Vals vs us → Vals mz mv → Vals zs ws → mv.length = ms.length → Vals (g vs mz zs) (g us mv ws))
    (h : ∀ (D : Addr) (doc pm : Value) (an : Option Addr) (cdv ct : Value) (us mv ws : List Value), us.length = n → mv.length = ms.length → ws.length = ks.length →
      KwChain D ((ms.map (·.1)).zip mv) (bindArgs (PySem.W.fnOf x qual params body scope .none (.ref D) doc pm an cdv ct) ⟨us, ks.zip ws⟩) (ps.zip (g us mv ws))) :
    ∃ mv : List Value, KBn K fd ps n ks (fun us ws => g us mv ws) (fun vs zs => g vs (ms.map (·.2)) zs) := by
  obtain ⟨oc, od, dV, kV, doc, pm, an, cdv, ct, osl, rfl, lk, hcd, hD, hK⟩ := F.ex
  rcases hD with ⟨_, rfl⟩ | ⟨e, _⟩
  · rcases hK with e | ⟨D, rfl, hq⟩
    · exact absurd e hk
    · obtain ⟨mv, hl, rk, hks⟩ := kwd_vals (ms := ms) fun q hm => hq q (hms q hm)
      refine ⟨mv, ⟨fun s us ws X l1 l2 => ?_, fun r1 r2 => hrel r1 rk r2 hl⟩⟩
      exact BindsTo.of_looks fun M => KwChain.looks X hks (h D doc pm an cdv ct us mv ws l1 hl l2)
  · exact absurd rfl e
end Lc
namespace Lc
open PySem PySem.Spec PyProof.Rows L2 Evl
/-! ### a sign replaced, lower and upper case, over lists of signs below 128 -/
theorem repl1 (a b : Nat) : ∀ l : List Nat, StrLaws.replL [a] [b] l = l.map fun c => if c = a then b else c
  | [] => StrLaws.replL_nil
  | c :: r => by
    by_cases h : c = a
    · rw [StrLaws.replL_hit (by simp) (by simp [h]), List.map_cons, if_pos h]
      show [b] ++ StrLaws.replL [a] [b] r = _
      rw [repl1 a b r]
      rfl
    · rw [StrLaws.replL_miss (by simpa using h), List.map_cons, if_neg h, repl1 a b r]
theorem replace_S (a b : Nat) (l : List Nat) : Txt.replace (S l) (S [a]) (S [b]) = S (l.map fun c => if c = a then b else c) := by
  rw [← S_tl (Txt.replace _ _ _)]
  refine congrArg S ?_
  rw [StrLaws.replace_list (by rw [S_len]; simp)]
  exact repl1 a b l
theorem lower_S {l : List Nat} (h : ∀ c ∈ l, c < 128) : Txt.lower (S l) = S (l.map lo1) := by
  rw [lower_ascii (x := S l) h]
  exact congrArg Str.mk (by simp [S])
theorem upper_S {l : List Nat} (h : ∀ c ∈ l, c < 128) : Txt.upper (S l) = S (l.map up1) := by
  rw [upper_ascii (x := S l) h]
  exact congrArg Str.mk (by simp [S])
def um (c : Nat) : Nat := lo1 (if c = 58 then 46 else c)
def am (c : Nat) : Nat := up1 (if c = 46 then 58 else c)
theorem ev_unm {σ : L2.St} {H : Hp} {te : TE} {l : List Nat} (h : Ev te σ H (.str (S l))) (hl : l.length ≤ 1000) (hc : ∀ c ∈ l, c < 128) :
    Ev (tM0 (fun x xs H Q => ∃ a, x = .str a ∧ xs = [] ∧ a.length ≤ 5592405 ∧ Q (.str (Txt.lower a)) H) (CwR.tReplC te (S [58]) (S [46]))) σ H (.str (S (l.map um))) := fun H1 e Q q =>
  h H1 e _ fun H2 e2 => ⟨S l, rfl, by rw [S_len, S_len]; simp; omega, ⟨_, rfl⟩, _, rfl, rfl, by rw [replace_S, S_len, List.length_map]; omega, by
    rw [replace_S, lower_S (fun c hc' => ?_), List.map_map]
    · exact q H2 e2
    · obtain ⟨x, hx, rfl⟩ := List.mem_map.mp hc'
      split
      · decide
      · exact hc x hx⟩
theorem ev_alm {σ : L2.St} {H : Hp} {te : TE} {l : List Nat} (h : Ev te σ H (.str (S l))) (hl : l.length ≤ 1000) (hc : ∀ c ∈ l, c < 128) :
    Ev (tM0 (fun x xs H Q => ∃ a, x = .str a ∧ xs = [] ∧ a.length ≤ 5592405 ∧ Q (.str (Txt.upper a)) H) (CwR.tReplC te (S [46]) (S [58]))) σ H (.str (S (l.map am))) := fun H1 e Q q =>
  h H1 e _ fun H2 e2 => ⟨S l, rfl, by rw [S_len, S_len]; simp; omega, ⟨_, rfl⟩, _, rfl, rfl, by rw [replace_S, S_len, List.length_map]; omega, by
    rw [replace_S, upper_S (fun c hc' => ?_), List.map_map]
    · exact q H2 e2
    · obtain ⟨x, hx, rfl⟩ := List.mem_map.mp hc'
      split
      · decide
      · exact hc x hx⟩
/-! ### the signs of a text, sorted -/
theorem rising_pw : ∀ (r : List Nat) (p : Nat), risingS (S [p]) (r.map fun c => S [c]) = true → (∀ c ∈ r, p ≤ c) ∧ r.Pairwise (· ≤ ·)
  | [], _, _ => ⟨by simp, .nil⟩
  | c :: r, p, h => by
    have h' : (!ltCps (S [c]).cps.toList (S [p]).cps.toList && risingS (S [c]) (r.map fun c => S [c])) = true := h
    obtain ⟨h1, h2⟩ := Bool.and_eq_true_iff.mp h'
    obtain ⟨q1, q2⟩ := rising_pw r c h2
    have hpc : p ≤ c := by
      rw [ltCps_eq] at h1
      simp only [Bool.not_eq_true', decide_eq_false_iff_not] at h1
      apply Nat.le_of_not_lt
      intro hlt
      exact h1 (List.Lex.rel hlt)
    refine ⟨fun x hx => ?_, List.pairwise_cons.mpr ⟨q1, q2⟩⟩
    rcases List.mem_cons.mp hx with rfl | hx
    · exact hpc
    · exact Nat.le_trans hpc (q1 x hx)
theorem sorted_signs {ys : List Str} {l m : List Nat} (hp : ys.Perm (l.map fun c => S [c])) (hs : sortedS ys = true) (hm : m.Perm l) (hmp : m.Pairwise (· ≤ ·)) : ys = m.map fun c => S [c] := by
  have hh : ∀ y ∈ ys, S [y.cps.getD 0 0] = y := fun y hy => by
    obtain ⟨c, _, rfl⟩ := List.mem_map.mp (hp.mem_iff.mp hy)
    rfl
  have e : ys = (ys.map fun y => y.cps.getD 0 0).map fun c => S [c] := by
    rw [List.map_map]
    conv => lhs; rw [← List.map_id ys]
    exact List.map_congr_left fun y hy => (hh y hy).symm
  have hp2 : (ys.map fun y => y.cps.getD 0 0).Perm l := by
    have q := hp.map (fun y : Str => y.cps.getD 0 0)
    rw [List.map_map] at q
    have e2 : l.map ((fun y : Str => y.cps.getD 0 0) ∘ fun c => S [c]) = l := by
      conv => rhs; rw [← List.map_id l]
      exact List.map_congr_left fun c _ => rfl
    rw [e2] at q
    exact q
  generalize hcs : (ys.map fun y => y.cps.getD 0 0) = cs at e hp2
  have hpw : cs.Pairwise (· ≤ ·) := by
    rw [e] at hs
    cases cs with
    | nil => exact .nil
    | cons c r =>
      obtain ⟨q1, q2⟩ := rising_pw r c hs
      exact List.pairwise_cons.mpr ⟨q1, q2⟩
  rw [e, List.Perm.eq_of_pairwise (le := (· ≤ ·)) (fun a b _ _ h1 h2 => Nat.le_antisymm h1 h2) hpw hmp (hp2.trans hm.symm)]
end Lc
namespace Lc
open PySem PySem.Spec PyProof.Rows L2 Evl
/-! ### lists of ints and of Bools compared -/
section
variable {K : PySem.W.Frag} {H : Hp}
theorem dpAll_of {α : Type} {g : α → V} {d : α → PyData} (hg : ∀ x, Dp K H (g x) (d x)) : ∀ l : List α, DpAll K H (l.map g) (l.map d)
  | [] => .nil
  | x :: r => .cons (hg x) (dpAll_of hg r)
theorem lay_of {α : Type} {d : α → PyData} (hd : ∀ x, (d x).canLay0 = true) : ∀ l : List α, PyData.canLayAll0 (l.map d) = true
  | [] => rfl
  | x :: r => by
    show (PyData.canLay0 (d x) && PyData.canLayAll0 (r.map d)) = true
    rw [hd, lay_of hd r]
    rfl
theorem depth_of {α : Type} {d : α → PyData} {n : Nat} (hd : ∀ x, (d x).depth ≤ n) : ∀ l : List α, PyData.depthAll (l.map d) ≤ n
  | [] => by simp [PyData.depthAll]
  | x :: r => by
    have h1 := hd x
    have h2 := depth_of hd r
    simp only [List.map_cons, PyData.depthAll]
    omega
theorem shaped_of {α : Type} {d : α → PyData} (hd : ∀ x, (d x).canLay0 = true) (hn : ∀ x, (d x).depth ≤ 1) (l : List α) : SeqAt.shaped (.list (l.map d)) = true := by
  have h1 := depth_of hn l
  unfold SeqAt.shaped
  rw [Bool.and_eq_true]
  refine ⟨lay_of hd l, decide_eq_true ?_⟩
  simp only [PyData.depth]
  omega
theorem eqvAll_of {α : Type} [DecidableEq α] {d : α → PyData} (hd : ∀ x y, PyData.eqv (d x) (d y) = decide (x = y)) : ∀ l m : List α, PyData.eqvAll (l.map d) (m.map d) = decide (l = m)
  | [], [] => rfl
  | [], y :: m => by simp [PyData.eqvAll]
  | x :: l, [] => by simp [PyData.eqvAll]
  | x :: l, y :: m => by
    simp only [List.map_cons, PyData.eqvAll]
    rw [hd, eqvAll_of hd l m, Bool.eq_iff_iff]
    simp
theorem rv_neL {α : Type} [DecidableEq α] {g : α → V} {d : α → PyData} (hg : ∀ x H, Dp K H (g x) (d x)) (h1 : ∀ x, (d x).canLay0 = true) (h2 : ∀ x, (d x).depth ≤ 1) (h3 : ∀ x y, PyData.eqv (d x) (d y) = decide (x = y)) {p q : Addr} {l m : List α} (hp : SqL K H p (l.map g)) (hq : SqL K H q (m.map g)) :
    RV (rNeD K) (.ref p) (.ref q) H (.bl (!decide (l = m))) := fun H1 e Q k => by
  refine ⟨.list (l.map d), .list (m.map d), .lst (ex_l e hp) (dpAll_of (fun x => hg x H1) l), .lst (ex_l e hq) (dpAll_of (fun x => hg x H1) m), shaped_of h1 h2 l, shaped_of h1 h2 m, ?_⟩
  rw [show PyData.eqv (.list (l.map d)) (.list (m.map d)) = decide (l = m) by simp only [PyData.eqv]; exact eqvAll_of h3 l m]
  exact k H1 (Ex.refl H1)
theorem rv_eqL {α : Type} [DecidableEq α] {g : α → V} {d : α → PyData} (hg : ∀ x H, Dp K H (g x) (d x)) (h1 : ∀ x, (d x).canLay0 = true) (h2 : ∀ x, (d x).depth ≤ 1) (h3 : ∀ x y, PyData.eqv (d x) (d y) = decide (x = y)) {p q : Addr} {l m : List α} (hp : SqL K H p (l.map g)) (hq : SqL K H q (m.map g)) :
    RV (rEqD K) (.ref p) (.ref q) H (.bl (decide (l = m))) := fun H1 e Q k => by
  refine ⟨.list (l.map d), .list (m.map d), .lst (ex_l e hp) (dpAll_of (fun x => hg x H1) l), .lst (ex_l e hq) (dpAll_of (fun x => hg x H1) m), shaped_of h1 h2 l, shaped_of h1 h2 m, ?_⟩
  rw [show PyData.eqv (.list (l.map d)) (.list (m.map d)) = decide (l = m) by simp only [PyData.eqv]; exact eqvAll_of h3 l m]
  exact k H1 (Ex.refl H1)
theorem rv_neLI {p q : Addr} {l m : List Int} (hp : SqL K H p (l.map V.int)) (hq : SqL K H q (m.map V.int)) : RV (rNeD K) (.ref p) (.ref q) H (.bl (!decide (l = m))) :=
  rv_neL (d := PyData.int) (fun x _ => .int x) (fun _ => rfl) (fun _ => by simp [PyData.depth]) (fun x y => by simp only [PyData.eqv]; rw [Bool.eq_iff_iff]; simp) hp hq
theorem rv_neLB {p q : Addr} {l m : List Bool} (hp : SqL K H p (l.map V.bl)) (hq : SqL K H q (m.map V.bl)) : RV (rNeD K) (.ref p) (.ref q) H (.bl (!decide (l = m))) :=
  rv_neL (d := PyData.bool) (fun x _ => .bl x) (fun _ => rfl) (fun _ => by simp [PyData.depth]) (fun x y => by simp only [PyData.eqv]; rw [Bool.eq_iff_iff]; simp) hp hq
theorem rv_eqLI {p q : Addr} {l m : List Int} (hp : SqL K H p (l.map V.int)) (hq : SqL K H q (m.map V.int)) : RV (rEqD K) (.ref p) (.ref q) H (.bl (decide (l = m))) :=
  rv_eqL (d := PyData.int) (fun x _ => .int x) (fun _ => rfl) (fun _ => by simp [PyData.depth]) (fun x y => by simp only [PyData.eqv]; rw [Bool.eq_iff_iff]; simp) hp hq
theorem strOk_low {l : List Nat} (h : ∀ c ∈ l, c < 128) : PyData.strOk (S l) = true := by
  show l.toArray.all (fun x => decide (x < 1114112)) = true
  rw [List.all_toArray, List.all_eq_true]
  intro c hc
  have := h c hc
  exact decide_eq_true (by omega)
end
/-! ### a name set to a new tuple if a test says so -/
section
variable {σ : L2.St} {H : Hp} {te : TE} {t : TT} {D : Ends} {tz : TS}
theorem q_ifAsgU {b : Bool} {i : Nat} {xs : List V} {x0 : V} (h : EvT t σ H b) (h1 : b = true → EvU te σ H xs) (hs : σ.set i (some x0) = σ)
    (k : ∀ (x : V) H1, Ex H H1 → (b = true → ∃ p, x = .ref p ∧ H1 p = some (.tup xs)) → (b = false → x = x0) → tz D (σ.set i (some x)) H1) : tSeq (tIfS t (tAsg te (gName i)) tNext) tz D σ H := by
  refine q_when h (fun hb H1 e1 => ?_) (fun hb H1 e1 => ?_)
  · exact s_asgU (fun H2 e2 Q q => h1 hb H2 (e1.trans e2) Q q) fun p H2 hp e2 h2 => k (.ref p) H2 (e1.trans e2) (fun _ => ⟨p, rfl, h2⟩) (fun z => by rw [hb] at z; cases z)
  · have q := k x0 H1 e1 (fun z => by rw [hb] at z; cases z) (fun _ => rfl)
    rw [hs] at q
    exact q
end
end Lc
namespace K00
open PySem PySem.Spec PyProof.Rows L2 Lc
abbrev R : PySem.W.OpenRow := PySem.W.OpenLaw.row PySem.Challenge.rw_leapcard_k00_sign_strings_and_marks
def topS (i : Nat) : Stmt := PySem.Challenge.pw_leapcard_k00_sign_strings_and_marks.main.body.getD i (.Pass ⟨0, 0, 0, 0⟩)
abbrev st_InvalidRow_init : Stmt := inClass (topS 2) 0
abbrev ps_InvalidRow_init : List Str := ["self", "row"]
abbrev ns_InvalidRow_init : List Str := ["self", "row"]
theorem sc_InvalidRow_init : FnScope ns_InvalidRow_init ps_InvalidRow_init (defScope st_InvalidRow_init) := ⟨rfl, rfl, rfl, by decide +kernel, rfl, by decide +kernel, by decide +kernel⟩
abbrev st_InvalidPlace_init : Stmt := inClass (topS 3) 0
abbrev ps_InvalidPlace_init : List Str := ["self", "place"]
abbrev ns_InvalidPlace_init : List Str := ["self", "place"]
theorem sc_InvalidPlace_init : FnScope ns_InvalidPlace_init ps_InvalidPlace_init (defScope st_InvalidPlace_init) := ⟨rfl, rfl, rfl, by decide +kernel, rfl, by decide +kernel, by decide +kernel⟩
abbrev st_InvalidJump_init : Stmt := inClass (topS 4) 0
abbrev ps_InvalidJump_init : List Str := ["self", "text"]
abbrev ns_InvalidJump_init : List Str := ["self", "text"]
theorem sc_InvalidJump_init : FnScope ns_InvalidJump_init ps_InvalidJump_init (defScope st_InvalidJump_init) := ⟨rfl, rfl, rfl, by decide +kernel, rfl, by decide +kernel, by decide +kernel⟩
abbrev st_InvalidCard_init : Stmt := inClass (topS 5) 0
abbrev ps_InvalidCard_init : List Str := ["self", "part"]
abbrev ns_InvalidCard_init : List Str := ["self", "part"]
theorem sc_InvalidCard_init : FnScope ns_InvalidCard_init ps_InvalidCard_init (defScope st_InvalidCard_init) := ⟨rfl, rfl, rfl, by decide +kernel, rfl, by decide +kernel, by decide +kernel⟩
abbrev st_InvalidBoard_init : Stmt := inClass (topS 6) 0
abbrev ps_InvalidBoard_init : List Str := ["self", "board"]
abbrev ns_InvalidBoard_init : List Str := ["self", "board"]
theorem sc_InvalidBoard_init : FnScope ns_InvalidBoard_init ps_InvalidBoard_init (defScope st_InvalidBoard_init) := ⟨rfl, rfl, rfl, by decide +kernel, rfl, by decide +kernel, by decide +kernel⟩
abbrev st_NoJump_init : Stmt := inClass (topS 7) 0
abbrev ps_NoJump_init : List Str := ["self", "index"]
abbrev ns_NoJump_init : List Str := ["self", "index"]
theorem sc_NoJump_init : FnScope ns_NoJump_init ps_NoJump_init (defScope st_NoJump_init) := ⟨rfl, rfl, rfl, by decide +kernel, rfl, by decide +kernel, by decide +kernel⟩
abbrev st_TooMany_init : Stmt := inClass (topS 8) 0
abbrev ps_TooMany_init : List Str := ["self", "limit"]
abbrev ns_TooMany_init : List Str := ["self", "limit"]
theorem sc_TooMany_init : FnScope ns_TooMany_init ps_TooMany_init (defScope st_TooMany_init) := ⟨rfl, rfl, rfl, by decide +kernel, rfl, by decide +kernel, by decide +kernel⟩
abbrev st_InvalidMachine_init : Stmt := inClass (topS 9) 0
abbrev ps_InvalidMachine_init : List Str := ["self", "part"]
abbrev ns_InvalidMachine_init : List Str := ["self", "part"]
theorem sc_InvalidMachine_init : FnScope ns_InvalidMachine_init ps_InvalidMachine_init (defScope st_InvalidMachine_init) := ⟨rfl, rfl, rfl, by decide +kernel, rfl, by decide +kernel, by decide +kernel⟩
abbrev st_Unlike_init : Stmt := inClass (topS 10) 0
abbrev ps_Unlike_init : List Str := ["self", "signs"]
abbrev ns_Unlike_init : List Str := ["self", "signs"]
theorem sc_Unlike_init : FnScope ns_Unlike_init ps_Unlike_init (defScope st_Unlike_init) := ⟨rfl, rfl, rfl, by decide +kernel, rfl, by decide +kernel, by decide +kernel⟩
abbrev st_InvalidPattern_init : Stmt := inClass (topS 11) 0
abbrev ps_InvalidPattern_init : List Str := ["self", "index"]
abbrev ns_InvalidPattern_init : List Str := ["self", "index"]
theorem sc_InvalidPattern_init : FnScope ns_InvalidPattern_init ps_InvalidPattern_init (defScope st_InvalidPattern_init) := ⟨rfl, rfl, rfl, by decide +kernel, rfl, by decide +kernel, by decide +kernel⟩
abbrev st_InvalidTarget_init : Stmt := inClass (topS 12) 0
abbrev ps_InvalidTarget_init : List Str := ["self", "part"]
abbrev ns_InvalidTarget_init : List Str := ["self", "part"]
theorem sc_InvalidTarget_init : FnScope ns_InvalidTarget_init ps_InvalidTarget_init (defScope st_InvalidTarget_init) := ⟨rfl, rfl, rfl, by decide +kernel, rfl, by decide +kernel, by decide +kernel⟩
abbrev st_NotExact_init : Stmt := inClass (topS 13) 0
abbrev ps_NotExact_init : List Str := ["self", "row"]
abbrev ns_NotExact_init : List Str := ["self", "row"]
theorem sc_NotExact_init : FnScope ns_NotExact_init ps_NotExact_init (defScope st_NotExact_init) := ⟨rfl, rfl, rfl, by decide +kernel, rfl, by decide +kernel, by decide +kernel⟩
abbrev st_NoMachine_init : Stmt := inClass (topS 14) 0
abbrev ps_NoMachine_init : List Str := ["self", "most"]
abbrev ns_NoMachine_init : List Str := ["self", "most"]
theorem sc_NoMachine_init : FnScope ns_NoMachine_init ps_NoMachine_init (defScope st_NoMachine_init) := ⟨rfl, rfl, rfl, by decide +kernel, rfl, by decide +kernel, by decide +kernel⟩
abbrev st_InvalidMeasure_init : Stmt := inClass (topS 15) 0
abbrev ps_InvalidMeasure_init : List Str := ["self", "measure"]
abbrev ns_InvalidMeasure_init : List Str := ["self", "measure"]
theorem sc_InvalidMeasure_init : FnScope ns_InvalidMeasure_init ps_InvalidMeasure_init (defScope st_InvalidMeasure_init) := ⟨rfl, rfl, rfl, by decide +kernel, rfl, by decide +kernel, by decide +kernel⟩
abbrev st_InvalidWeight_init : Stmt := inClass (topS 16) 0
abbrev ps_InvalidWeight_init : List Str := ["self", "part"]
abbrev ns_InvalidWeight_init : List Str := ["self", "part"]
theorem sc_InvalidWeight_init : FnScope ns_InvalidWeight_init ps_InvalidWeight_init (defScope st_InvalidWeight_init) := ⟨rfl, rfl, rfl, by decide +kernel, rfl, by decide +kernel, by decide +kernel⟩
abbrev st_InvalidSight_init : Stmt := inClass (topS 17) 0
abbrev ps_InvalidSight_init : List Str := ["self", "sight"]
abbrev ns_InvalidSight_init : List Str := ["self", "sight"]
theorem sc_InvalidSight_init : FnScope ns_InvalidSight_init ps_InvalidSight_init (defScope st_InvalidSight_init) := ⟨rfl, rfl, rfl, by decide +kernel, rfl, by decide +kernel, by decide +kernel⟩
abbrev st_InvalidFact_init : Stmt := inClass (topS 18) 0
abbrev ps_InvalidFact_init : List Str := ["self", "fact"]
abbrev ns_InvalidFact_init : List Str := ["self", "fact"]
theorem sc_InvalidFact_init : FnScope ns_InvalidFact_init ps_InvalidFact_init (defScope st_InvalidFact_init) := ⟨rfl, rfl, rfl, by decide +kernel, rfl, by decide +kernel, by decide +kernel⟩
abbrev st_OverQuota_init : Stmt := inClass (topS 19) 0
abbrev ps_OverQuota_init : List Str := ["self", "number"]
abbrev ns_OverQuota_init : List Str := ["self", "number"]
theorem sc_OverQuota_init : FnScope ns_OverQuota_init ps_OverQuota_init (defScope st_OverQuota_init) := ⟨rfl, rfl, rfl, by decide +kernel, rfl, by decide +kernel, by decide +kernel⟩
abbrev st_NothingLeft_init : Stmt := inClass (topS 20) 0
abbrev ps_NothingLeft_init : List Str := ["self", "count"]
abbrev ns_NothingLeft_init : List Str := ["self", "count"]
theorem sc_NothingLeft_init : FnScope ns_NothingLeft_init ps_NothingLeft_init (defScope st_NothingLeft_init) := ⟨rfl, rfl, rfl, by decide +kernel, rfl, by decide +kernel, by decide +kernel⟩
abbrev st_InvalidOption_init : Stmt := inClass (topS 21) 0
abbrev ps_InvalidOption_init : List Str := ["self", "name"]
abbrev ns_InvalidOption_init : List Str := ["self", "name"]
theorem sc_InvalidOption_init : FnScope ns_InvalidOption_init ps_InvalidOption_init (defScope st_InvalidOption_init) := ⟨rfl, rfl, rfl, by decide +kernel, rfl, by decide +kernel, by decide +kernel⟩
abbrev st_signs_of : Stmt := topS 27
abbrev ps_signs_of : List Str := ["kinds", "walls", "marks"]
abbrev ns_signs_of : List Str := ["kinds", "walls", "marks", "plain_signs", "chosen"]
theorem sc_signs_of : FnScope ns_signs_of ps_signs_of (defScope st_signs_of) := ⟨rfl, rfl, rfl, by decide +kernel, rfl, by decide +kernel, by decide +kernel⟩
abbrev st_check_row : Stmt := topS 28
abbrev ps_check_row : List Str := ["row", "signs"]
abbrev ns_check_row : List Str := ["row", "signs", "sign"]
theorem sc_check_row : FnScope ns_check_row ps_check_row (defScope st_check_row) := ⟨rfl, rfl, rfl, by decide +kernel, rfl, by decide +kernel, by decide +kernel⟩
abbrev st_unmarked : Stmt := topS 29
abbrev ps_unmarked : List Str := ["row"]
abbrev ns_unmarked : List Str := ["row"]
theorem sc_unmarked : FnScope ns_unmarked ps_unmarked (defScope st_unmarked) := ⟨rfl, rfl, rfl, by decide +kernel, rfl, by decide +kernel, by decide +kernel⟩
abbrev st_all_marked : Stmt := topS 30
abbrev ps_all_marked : List Str := ["row"]
abbrev ns_all_marked : List Str := ["row"]
theorem sc_all_marked : FnScope ns_all_marked ps_all_marked (defScope st_all_marked) := ⟨rfl, rfl, rfl, by decide +kernel, rfl, by decide +kernel, by decide +kernel⟩
abbrev st_plain : Stmt := topS 31
abbrev ps_plain : List Str := ["row"]
abbrev ns_plain : List Str := ["row"]
theorem sc_plain : FnScope ns_plain ps_plain (defScope st_plain) := ⟨rfl, rfl, rfl, by decide +kernel, rfl, by decide +kernel, by decide +kernel⟩
abbrev st_marked_places : Stmt := topS 32
abbrev ps_marked_places : List Str := ["row"]
abbrev ns_marked_places : List Str := ["row", "place", "sign"]
theorem sc_marked_places : FnScope ns_marked_places ps_marked_places (defScope st_marked_places) := ⟨rfl, rfl, rfl, by decide +kernel, rfl, by decide +kernel, by decide +kernel⟩
abbrev st_marked : Stmt := topS 33
abbrev ps_marked : List Str := ["row", "place"]
abbrev ns_marked : List Str := ["row", "place"]
theorem sc_marked : FnScope ns_marked ps_marked (defScope st_marked) := ⟨rfl, rfl, rfl, by decide +kernel, rfl, by decide +kernel, by decide +kernel⟩
abbrev st_pegs : Stmt := topS 34
abbrev ps_pegs : List Str := ["row"]
abbrev ns_pegs : List Str := ["row", "sign"]
theorem sc_pegs : FnScope ns_pegs ps_pegs (defScope st_pegs) := ⟨rfl, rfl, rfl, by decide +kernel, rfl, by decide +kernel, by decide +kernel⟩
abbrev st_law_cell : Stmt := topS 36
abbrev ps_law_cell : List Str := ["_law_script", "_law_at"]
abbrev ns_law_cell : List Str := ["_law_script", "_law_at"]
theorem sc_law_cell : FnScope ns_law_cell ps_law_cell (defScope st_law_cell) := ⟨rfl, rfl, rfl, by decide +kernel, rfl, by decide +kernel, by decide +kernel⟩
abbrev st_law_box : Stmt := topS 37
abbrev ps_law_box : List Str := ["_law_script", "_law_at"]
abbrev ns_law_box : List Str := ["_law_script", "_law_at", "_law_cell_here", "_law_seed"]
theorem sc_law_box : FnScope ns_law_box ps_law_box (defScope st_law_box) := ⟨rfl, rfl, rfl, by decide +kernel, rfl, by decide +kernel, by decide +kernel⟩
abbrev st_law_take : Stmt := topS 38
abbrev ps_law_take : List Str := ["_law_box_here", "_law_many"]
abbrev ns_law_take : List Str := ["_law_box_here", "_law_many", "_law_mixed", "_law_drawn"]
theorem sc_law_take : FnScope ns_law_take ps_law_take (defScope st_law_take) := ⟨rfl, rfl, rfl, by decide +kernel, rfl, by decide +kernel, by decide +kernel⟩
abbrev st_law_text : Stmt := topS 39
abbrev ps_law_text : List Str := ["_law_told", "_law_due"]
abbrev ns_law_text : List Str := ["_law_told", "_law_due"]
theorem sc_law_text : FnScope ns_law_text ps_law_text (defScope st_law_text) := ⟨rfl, rfl, rfl, by decide +kernel, rfl, by decide +kernel, by decide +kernel⟩
abbrev st_law_whole : Stmt := topS 40
abbrev ps_law_whole : List Str := ["_law_told"]
abbrev ns_law_whole : List Str := ["_law_told"]
theorem sc_law_whole : FnScope ns_law_whole ps_law_whole (defScope st_law_whole) := ⟨rfl, rfl, rfl, by decide +kernel, rfl, by decide +kernel, by decide +kernel⟩
abbrev st_law_belongs : Stmt := topS 41
abbrev ps_law_belongs : List Str := ["_law_sign", "_law_kinds_here", "_law_shuted", "_law_dotted_here"]
abbrev ns_law_belongs : List Str := ["_law_sign", "_law_kinds_here", "_law_shuted", "_law_dotted_here"]
theorem sc_law_belongs : FnScope ns_law_belongs ps_law_belongs (defScope st_law_belongs) := ⟨rfl, rfl, rfl, by decide +kernel, rfl, by decide +kernel, by decide +kernel⟩
abbrev st_law_string : Stmt := topS 42
abbrev ps_law_string : List Str := ["_law_kinds_here", "_law_shuted", "_law_dotted_here"]
abbrev ns_law_string : List Str := ["_law_kinds_here", "_law_shuted", "_law_dotted_here", "_law_sign"]
theorem sc_law_string : FnScope ns_law_string ps_law_string (defScope st_law_string) := ⟨rfl, rfl, rfl, by decide +kernel, rfl, by decide +kernel, by decide +kernel⟩
abbrev st_law_alphabet : Stmt := topS 43
abbrev ps_law_alphabet : List Str := ["_law_box_here"]
abbrev ns_law_alphabet : List Str := ["_law_box_here", "_law_mode"]
theorem sc_law_alphabet : FnScope ns_law_alphabet ps_law_alphabet (defScope st_law_alphabet) := ⟨rfl, rfl, rfl, by decide +kernel, rfl, by decide +kernel, by decide +kernel⟩
abbrev st_law_size : Stmt := topS 44
abbrev ps_law_size : List Str := ["_law_box_here"]
abbrev ns_law_size : List Str := ["_law_box_here", "_law_mode"]
theorem sc_law_size : FnScope ns_law_size ps_law_size (defScope st_law_size) := ⟨rfl, rfl, rfl, by decide +kernel, rfl, by decide +kernel, by decide +kernel⟩
abbrev st_law_bent : Stmt := topS 45
abbrev ps_law_bent : List Str := ["_law_box_here", "_law_row"]
abbrev ns_law_bent : List Str := ["_law_box_here", "_law_row", "_law_strange", "_law_sign", "_law_short", "_law_at"]
theorem sc_law_bent : FnScope ns_law_bent ps_law_bent (defScope st_law_bent) := ⟨rfl, rfl, rfl, by decide +kernel, rfl, by decide +kernel, by decide +kernel⟩
abbrev st_law_bare : Stmt := topS 46
abbrev ps_law_bare : List Str := ["_law_sign"]
abbrev ns_law_bare : List Str := ["_law_sign"]
theorem sc_law_bare : FnScope ns_law_bare ps_law_bare (defScope st_law_bare) := ⟨rfl, rfl, rfl, by decide +kernel, rfl, by decide +kernel, by decide +kernel⟩
abbrev st_law_dotted : Stmt := topS 47
abbrev ps_law_dotted : List Str := ["_law_sign"]
abbrev ns_law_dotted : List Str := ["_law_sign"]
theorem sc_law_dotted : FnScope ns_law_dotted ps_law_dotted (defScope st_law_dotted) := ⟨rfl, rfl, rfl, by decide +kernel, rfl, by decide +kernel, by decide +kernel⟩
abbrev st_law_strings : Stmt := topS 48
abbrev ps_law_strings : List Str := []
abbrev ns_law_strings : List Str := ["_law_number", "_law_many", "_law_shuted", "_law_dotted_here", "_law_told"]
theorem sc_law_strings : FnScope ns_law_strings ps_law_strings (defScope st_law_strings) := ⟨rfl, rfl, rfl, by decide +kernel, rfl, by decide +kernel, by decide +kernel⟩
abbrev st_law_error : Stmt := topS 49
abbrev ps_law_error : List Str := ["_law_which", "_law_value"]
abbrev ns_law_error : List Str := ["_law_which", "_law_value"]
theorem sc_law_error : FnScope ns_law_error ps_law_error (defScope st_law_error) := ⟨rfl, rfl, rfl, by decide +kernel, rfl, by decide +kernel, by decide +kernel⟩
abbrev st_law_kinds : Stmt := topS 50
abbrev ps_law_kinds : List Str := ["_law_thing"]
abbrev ns_law_kinds : List Str := ["_law_thing", "_law_found"]
theorem sc_law_kinds : FnScope ns_law_kinds ps_law_kinds (defScope st_law_kinds) := ⟨rfl, rfl, rfl, by decide +kernel, rfl, by decide +kernel, by decide +kernel⟩
abbrev st_law_field : Stmt := topS 51
abbrev ps_law_field : List Str := ["_law_which", "_law_thing"]
abbrev ns_law_field : List Str := ["_law_which", "_law_thing"]
theorem sc_law_field : FnScope ns_law_field ps_law_field (defScope st_law_field) := ⟨rfl, rfl, rfl, by decide +kernel, rfl, by decide +kernel, by decide +kernel⟩
abbrev st_law_kept : Stmt := topS 52
abbrev ps_law_kept : List Str := ["_law_which", "_law_told", "_law_number", "_law_row"]
abbrev ns_law_kept : List Str := ["_law_which", "_law_told", "_law_number", "_law_row"]
theorem sc_law_kept : FnScope ns_law_kept ps_law_kept (defScope st_law_kept) := ⟨rfl, rfl, rfl, by decide +kernel, rfl, by decide +kernel, by decide +kernel⟩
abbrev st_law_errors : Stmt := topS 53
abbrev ps_law_errors : List Str := ["_law_number", "_law_row"]
abbrev ns_law_errors : List Str := ["_law_number", "_law_row", "_law_which", "_law_value", "_law_thing", "_law_at"]
theorem sc_law_errors : FnScope ns_law_errors ps_law_errors (defScope st_law_errors) := ⟨rfl, rfl, rfl, by decide +kernel, rfl, by decide +kernel, by decide +kernel⟩
abbrev st_law_looked : Stmt := topS 54
abbrev ps_law_looked : List Str := ["_law_row"]
abbrev ns_law_looked : List Str := ["_law_row", "_law_listed", "_law_due", "_law_many", "_law_at", "_law_sign"]
theorem sc_law_looked : FnScope ns_law_looked ps_law_looked (defScope st_law_looked) := ⟨rfl, rfl, rfl, by decide +kernel, rfl, by decide +kernel, by decide +kernel⟩
abbrev st_law_marks : Stmt := topS 55
abbrev ps_law_marks : List Str := ["_law_row", "_law_place"]
abbrev ns_law_marks : List Str := ["_law_row", "_law_place", "_law_good", "raised", "_law_told"]
theorem sc_law_marks : FnScope ns_law_marks ps_law_marks (defScope st_law_marks) := ⟨rfl, rfl, rfl, by decide +kernel, rfl, by decide +kernel, by decide +kernel⟩
abbrev st_law_places : Stmt := topS 56
abbrev ps_law_places : List Str := ["_law_box_here", "_law_row"]
abbrev ns_law_places : List Str := ["_law_box_here", "_law_row", "_law_far", "_law_place"]
theorem sc_law_places : FnScope ns_law_places ps_law_places (defScope st_law_places) := ⟨rfl, rfl, rfl, by decide +kernel, rfl, by decide +kernel, by decide +kernel⟩
abbrev st_law_together : Stmt := topS 57
abbrev ps_law_together : List Str := ["_law_box_here", "_law_row"]
abbrev ns_law_together : List Str := ["_law_box_here", "_law_row", "_law_free", "_law_own", "_law_told", "_law_turn", "_law_at", "_law_place"]
theorem sc_law_together : FnScope ns_law_together ps_law_together (defScope st_law_together) := ⟨rfl, rfl, rfl, by decide +kernel, rfl, by decide +kernel, by decide +kernel⟩
abbrev st_law_call : Stmt := topS 58
abbrev ps_law_call : List Str := ["_law_which", "_law_row", "_law_place"]
abbrev ns_law_call : List Str := ["_law_which", "_law_row", "_law_place"]
theorem sc_law_call : FnScope ns_law_call ps_law_call (defScope st_law_call) := ⟨rfl, rfl, rfl, by decide +kernel, rfl, by decide +kernel, by decide +kernel⟩
abbrev st_law_refuses : Stmt := topS 59
abbrev ps_law_refuses : List Str := ["_law_which", "_law_row", "_law_place"]
abbrev ns_law_refuses : List Str := ["_law_which", "_law_row", "_law_place", "raised"]
theorem sc_law_refuses : FnScope ns_law_refuses ps_law_refuses (defScope st_law_refuses) := ⟨rfl, rfl, rfl, by decide +kernel, rfl, by decide +kernel, by decide +kernel⟩
abbrev st_law : Stmt := topS 60
abbrev ps_law : List Str := ["_law_script"]
abbrev ns_law : List Str := ["_law_script", "_law_sizes", "_law_alphabet_here", "_law_size_here", "_law_letters", "_law_row", "_law_choices", "_law_bad", "_law_which", "_law_at"]
theorem sc_law : FnScope ns_law ps_law (defScope st_law) := ⟨rfl, rfl, rfl, by decide +kernel, rfl, by decide +kernel, by decide +kernel⟩
def d_InvalidRow_init : He5.DefA := ⟨fun K => He.ma K (He.ga K "InvalidRow") "__init__", "__init__", "InvalidRow.__init__", defArgs st_InvalidRow_init, defBody st_InvalidRow_init, defScope st_InvalidRow_init, [], []⟩
def d_InvalidPlace_init : He5.DefA := ⟨fun K => He.ma K (He.ga K "InvalidPlace") "__init__", "__init__", "InvalidPlace.__init__", defArgs st_InvalidPlace_init, defBody st_InvalidPlace_init, defScope st_InvalidPlace_init, [], []⟩
def d_InvalidJump_init : He5.DefA := ⟨fun K => He.ma K (He.ga K "InvalidJump") "__init__", "__init__", "InvalidJump.__init__", defArgs st_InvalidJump_init, defBody st_InvalidJump_init, defScope st_InvalidJump_init, [], []⟩
def d_InvalidCard_init : He5.DefA := ⟨fun K => He.ma K (He.ga K "InvalidCard") "__init__", "__init__", "InvalidCard.__init__", defArgs st_InvalidCard_init, defBody st_InvalidCard_init, defScope st_InvalidCard_init, [], []⟩
def d_InvalidBoard_init : He5.DefA := ⟨fun K => He.ma K (He.ga K "InvalidBoard") "__init__", "__init__", "InvalidBoard.__init__", defArgs st_InvalidBoard_init, defBody st_InvalidBoard_init, defScope st_InvalidBoard_init, [], []⟩
def d_NoJump_init : He5.DefA := ⟨fun K => He.ma K (He.ga K "NoJump") "__init__", "__init__", "NoJump.__init__", defArgs st_NoJump_init, defBody st_NoJump_init, defScope st_NoJump_init, [], []⟩
def d_TooMany_init : He5.DefA := ⟨fun K => He.ma K (He.ga K "TooMany") "__init__", "__init__", "TooMany.__init__", defArgs st_TooMany_init, defBody st_TooMany_init, defScope st_TooMany_init, [], []⟩
def d_InvalidMachine_init : He5.DefA := ⟨fun K => He.ma K (He.ga K "InvalidMachine") "__init__", "__init__", "InvalidMachine.__init__", defArgs st_InvalidMachine_init, defBody st_InvalidMachine_init, defScope st_InvalidMachine_init, [], []⟩
def d_Unlike_init : He5.DefA := ⟨fun K => He.ma K (He.ga K "Unlike") "__init__", "__init__", "Unlike.__init__", defArgs st_Unlike_init, defBody st_Unlike_init, defScope st_Unlike_init, [], []⟩
def d_InvalidPattern_init : He5.DefA := ⟨fun K => He.ma K (He.ga K "InvalidPattern") "__init__", "__init__", "InvalidPattern.__init__", defArgs st_InvalidPattern_init, defBody st_InvalidPattern_init, defScope st_InvalidPattern_init, [], []⟩
def d_InvalidTarget_init : He5.DefA := ⟨fun K => He.ma K (He.ga K "InvalidTarget") "__init__", "__init__", "InvalidTarget.__init__", defArgs st_InvalidTarget_init, defBody st_InvalidTarget_init, defScope st_InvalidTarget_init, [], []⟩
def d_NotExact_init : He5.DefA := ⟨fun K => He.ma K (He.ga K "NotExact") "__init__", "__init__", "NotExact.__init__", defArgs st_NotExact_init, defBody st_NotExact_init, defScope st_NotExact_init, [], []⟩
def d_NoMachine_init : He5.DefA := ⟨fun K => He.ma K (He.ga K "NoMachine") "__init__", "__init__", "NoMachine.__init__", defArgs st_NoMachine_init, defBody st_NoMachine_init, defScope st_NoMachine_init, [], []⟩
def d_InvalidMeasure_init : He5.DefA := ⟨fun K => He.ma K (He.ga K "InvalidMeasure") "__init__", "__init__", "InvalidMeasure.__init__", defArgs st_InvalidMeasure_init, defBody st_InvalidMeasure_init, defScope st_InvalidMeasure_init, [], []⟩
def d_InvalidWeight_init : He5.DefA := ⟨fun K => He.ma K (He.ga K "InvalidWeight") "__init__", "__init__", "InvalidWeight.__init__", defArgs st_InvalidWeight_init, defBody st_InvalidWeight_init, defScope st_InvalidWeight_init, [], []⟩
def d_InvalidSight_init : He5.DefA := ⟨fun K => He.ma K (He.ga K "InvalidSight") "__init__", "__init__", "InvalidSight.__init__", defArgs st_InvalidSight_init, defBody st_InvalidSight_init, defScope st_InvalidSight_init, [], []⟩
def d_InvalidFact_init : He5.DefA := ⟨fun K => He.ma K (He.ga K "InvalidFact") "__init__", "__init__", "InvalidFact.__init__", defArgs st_InvalidFact_init, defBody st_InvalidFact_init, defScope st_InvalidFact_init, [], []⟩
def d_OverQuota_init : He5.DefA := ⟨fun K => He.ma K (He.ga K "OverQuota") "__init__", "__init__", "OverQuota.__init__", defArgs st_OverQuota_init, defBody st_OverQuota_init, defScope st_OverQuota_init, [], []⟩
def d_NothingLeft_init : He5.DefA := ⟨fun K => He.ma K (He.ga K "NothingLeft") "__init__", "__init__", "NothingLeft.__init__", defArgs st_NothingLeft_init, defBody st_NothingLeft_init, defScope st_NothingLeft_init, [], []⟩
def d_InvalidOption_init : He5.DefA := ⟨fun K => He.ma K (He.ga K "InvalidOption") "__init__", "__init__", "InvalidOption.__init__", defArgs st_InvalidOption_init, defBody st_InvalidOption_init, defScope st_InvalidOption_init, [], []⟩
def d_signs_of : He5.DefA := ⟨fun K => He.ga K "signs_of", "signs_of", "signs_of", defArgs st_signs_of, defBody st_signs_of, defScope st_signs_of, [], [("walls", .bl false), ("marks", .bl false)]⟩
def d_check_row : He5.DefA := ⟨fun K => He.ga K "check_row", "check_row", "check_row", defArgs st_check_row, defBody st_check_row, defScope st_check_row, [.str "#.:ABCDabcd"], []⟩
def d_unmarked : He5.DefA := ⟨fun K => He.ga K "unmarked", "unmarked", "unmarked", defArgs st_unmarked, defBody st_unmarked, defScope st_unmarked, [], []⟩
def d_all_marked : He5.DefA := ⟨fun K => He.ga K "all_marked", "all_marked", "all_marked", defArgs st_all_marked, defBody st_all_marked, defScope st_all_marked, [], []⟩
def d_plain : He5.DefA := ⟨fun K => He.ga K "plain", "plain", "plain", defArgs st_plain, defBody st_plain, defScope st_plain, [], []⟩
def d_marked_places : He5.DefA := ⟨fun K => He.ga K "marked_places", "marked_places", "marked_places", defArgs st_marked_places, defBody st_marked_places, defScope st_marked_places, [], []⟩
def d_marked : He5.DefA := ⟨fun K => He.ga K "marked", "marked", "marked", defArgs st_marked, defBody st_marked, defScope st_marked, [], []⟩
def d_pegs : He5.DefA := ⟨fun K => He.ga K "pegs", "pegs", "pegs", defArgs st_pegs, defBody st_pegs, defScope st_pegs, [], []⟩
def d_law_cell : He5.DefA := ⟨fun K => He.ga K "_law_cell", "_law_cell", "_law_cell", defArgs st_law_cell, defBody st_law_cell, defScope st_law_cell, [], []⟩
def d_law_box : He5.DefA := ⟨fun K => He.ga K "_law_box", "_law_box", "_law_box", defArgs st_law_box, defBody st_law_box, defScope st_law_box, [], []⟩
def d_law_take : He5.DefA := ⟨fun K => He.ga K "_law_take", "_law_take", "_law_take", defArgs st_law_take, defBody st_law_take, defScope st_law_take, [], []⟩
def d_law_text : He5.DefA := ⟨fun K => He.ga K "_law_text", "_law_text", "_law_text", defArgs st_law_text, defBody st_law_text, defScope st_law_text, [], []⟩
def d_law_whole : He5.DefA := ⟨fun K => He.ga K "_law_whole", "_law_whole", "_law_whole", defArgs st_law_whole, defBody st_law_whole, defScope st_law_whole, [], []⟩
def d_law_belongs : He5.DefA := ⟨fun K => He.ga K "_law_belongs", "_law_belongs", "_law_belongs", defArgs st_law_belongs, defBody st_law_belongs, defScope st_law_belongs, [], []⟩
def d_law_string : He5.DefA := ⟨fun K => He.ga K "_law_string", "_law_string", "_law_string", defArgs st_law_string, defBody st_law_string, defScope st_law_string, [], []⟩
def d_law_alphabet : He5.DefA := ⟨fun K => He.ga K "_law_alphabet", "_law_alphabet", "_law_alphabet", defArgs st_law_alphabet, defBody st_law_alphabet, defScope st_law_alphabet, [], []⟩
def d_law_size : He5.DefA := ⟨fun K => He.ga K "_law_size", "_law_size", "_law_size", defArgs st_law_size, defBody st_law_size, defScope st_law_size, [], []⟩
def d_law_bent : He5.DefA := ⟨fun K => He.ga K "_law_bent", "_law_bent", "_law_bent", defArgs st_law_bent, defBody st_law_bent, defScope st_law_bent, [], []⟩
def d_law_bare : He5.DefA := ⟨fun K => He.ga K "_law_bare", "_law_bare", "_law_bare", defArgs st_law_bare, defBody st_law_bare, defScope st_law_bare, [], []⟩
def d_law_dotted : He5.DefA := ⟨fun K => He.ga K "_law_dotted", "_law_dotted", "_law_dotted", defArgs st_law_dotted, defBody st_law_dotted, defScope st_law_dotted, [], []⟩
def d_law_strings : He5.DefA := ⟨fun K => He.ga K "_law_strings", "_law_strings", "_law_strings", defArgs st_law_strings, defBody st_law_strings, defScope st_law_strings, [], []⟩
def d_law_error : He5.DefA := ⟨fun K => He.ga K "_law_error", "_law_error", "_law_error", defArgs st_law_error, defBody st_law_error, defScope st_law_error, [], []⟩
def d_law_kinds : He5.DefA := ⟨fun K => He.ga K "_law_kinds", "_law_kinds", "_law_kinds", defArgs st_law_kinds, defBody st_law_kinds, defScope st_law_kinds, [], []⟩
def d_law_field : He5.DefA := ⟨fun K => He.ga K "_law_field", "_law_field", "_law_field", defArgs st_law_field, defBody st_law_field, defScope st_law_field, [], []⟩
def d_law_kept : He5.DefA := ⟨fun K => He.ga K "_law_kept", "_law_kept", "_law_kept", defArgs st_law_kept, defBody st_law_kept, defScope st_law_kept, [], []⟩
def d_law_errors : He5.DefA := ⟨fun K => He.ga K "_law_errors", "_law_errors", "_law_errors", defArgs st_law_errors, defBody st_law_errors, defScope st_law_errors, [], []⟩
def d_law_looked : He5.DefA := ⟨fun K => He.ga K "_law_looked", "_law_looked", "_law_looked", defArgs st_law_looked, defBody st_law_looked, defScope st_law_looked, [], []⟩
def d_law_marks : He5.DefA := ⟨fun K => He.ga K "_law_marks", "_law_marks", "_law_marks", defArgs st_law_marks, defBody st_law_marks, defScope st_law_marks, [], []⟩
def d_law_places : He5.DefA := ⟨fun K => He.ga K "_law_places", "_law_places", "_law_places", defArgs st_law_places, defBody st_law_places, defScope st_law_places, [], []⟩
def d_law_together : He5.DefA := ⟨fun K => He.ga K "_law_together", "_law_together", "_law_together", defArgs st_law_together, defBody st_law_together, defScope st_law_together, [], []⟩
def d_law_call : He5.DefA := ⟨fun K => He.ga K "_law_call", "_law_call", "_law_call", defArgs st_law_call, defBody st_law_call, defScope st_law_call, [], []⟩
def d_law_refuses : He5.DefA := ⟨fun K => He.ga K "_law_refuses", "_law_refuses", "_law_refuses", defArgs st_law_refuses, defBody st_law_refuses, defScope st_law_refuses, [], []⟩
def d_law : He5.DefA := ⟨fun K => He.ga K "law", "law", "law", defArgs st_law, defBody st_law, defScope st_law, [], []⟩
def fn : List He5.DefA := [d_InvalidRow_init, d_InvalidPlace_init, d_InvalidJump_init, d_InvalidCard_init, d_InvalidBoard_init, d_NoJump_init, d_TooMany_init, d_InvalidMachine_init, d_Unlike_init, d_InvalidPattern_init, d_InvalidTarget_init, d_NotExact_init, d_NoMachine_init, d_InvalidMeasure_init, d_InvalidWeight_init, d_InvalidSight_init, d_InvalidFact_init, d_OverQuota_init, d_NothingLeft_init, d_InvalidOption_init, d_signs_of, d_check_row, d_unmarked, d_all_marked, d_plain, d_marked_places, d_marked, d_pegs, d_law_cell, d_law_box, d_law_take, d_law_text, d_law_whole, d_law_belongs, d_law_string, d_law_alphabet, d_law_size, d_law_bent, d_law_bare, d_law_dotted, d_law_strings, d_law_error, d_law_kinds, d_law_field, d_law_kept, d_law_errors, d_law_looked, d_law_marks, d_law_places, d_law_together, d_law_call, d_law_refuses, d_law]
def fa : List He.Fa := [.glo "LeapError", .glo "InvalidRow", .glo "InvalidPlace", .glo "InvalidJump", .glo "InvalidCard", .glo "InvalidBoard", .glo "NoJump", .glo "TooMany", .glo "InvalidMachine", .glo "Unlike", .glo "InvalidPattern", .glo "InvalidTarget", .glo "NotExact", .glo "NoMachine", .glo "InvalidMeasure", .glo "InvalidWeight", .glo "InvalidSight", .glo "InvalidFact", .glo "OverQuota", .glo "NothingLeft", .glo "InvalidOption", .str "SIGNS" "#.:ABCDabcd", .str "KINDS" "abcd", .str "MARKED" ":ABCD", .str "PEGS" "ABCDabcd", .glo "signs_of", .glo "check_row", .glo "unmarked", .glo "all_marked", .glo "plain", .glo "marked_places", .glo "marked", .glo "pegs", .glo "_law_cell", .glo "_law_box", .glo "_law_take", .glo "_law_text", .glo "_law_whole", .glo "_law_belongs", .glo "_law_string", .glo "_law_alphabet", .glo "_law_size", .glo "_law_bent", .glo "_law_bare", .glo "_law_dotted", .glo "_law_strings", .glo "_law_error", .glo "_law_kinds", .glo "_law_field", .glo "_law_kept", .glo "_law_errors", .glo "_law_looked", .glo "_law_marks", .glo "_law_places", .glo "_law_together", .glo "_law_call", .glo "_law_refuses", .glo "law", .free "len", .free "range", .free "enumerate", .free "min", .free "sum", .free "sorted", .free "int", .free "str", .free "bool", .free "list", .free "tuple", .free "isinstance", .free "ValueError"]
def ts : List He.Tab := []
def ec : List (Str × Str) := [("InvalidRow", "row"), ("InvalidPlace", "place"), ("InvalidJump", "text"), ("InvalidCard", "part"), ("InvalidBoard", "board"), ("NoJump", "index"), ("TooMany", "limit"), ("InvalidMachine", "part"), ("Unlike", "signs"), ("InvalidPattern", "index"), ("InvalidTarget", "part"), ("NotExact", "row"), ("NoMachine", "most"), ("InvalidMeasure", "measure"), ("InvalidWeight", "part"), ("InvalidSight", "sight"), ("InvalidFact", "fact"), ("OverQuota", "number"), ("NothingLeft", "count"), ("InvalidOption", "name")]
def mroB (K : PySem.W.Frag) (c : Str) : Bool := match PySem.W.clsIn K (He.ga K c) with
  | some cd => cd.mro == [.ref (He.ga K c), .ref (He.ga K "LeapError"), .type "ValueError", .type "Exception", .type "BaseException", .type "object"]
  | none => false
def exs (K : PySem.W.Frag) : List Bool := [topB K, ec.all fun p => errB K p.1 p.2, ec.all fun p => excB K (He.ga K p.1) && mroB K p.1, decide ((He.ga K "LeapError" :: ec.map fun p => He.ga K p.1).Nodup), (PySem.W.clsIn K (He.ga K "LeapError")).isSome && decide (PySem.W.typeIn K (.ref (He.ga K "LeapError")) = some (.type "type"))]
def ex (K : PySem.W.Frag) : Bool := (exs K).all id
def names0 : List PySem.Str := ["LeapError", "InvalidRow", "InvalidPlace", "InvalidJump", "InvalidCard", "InvalidBoard", "NoJump", "TooMany", "InvalidMachine", "Unlike", "InvalidPattern", "InvalidTarget", "NotExact", "NoMachine"]
def names1 : List PySem.Str := ["InvalidMeasure", "InvalidWeight", "InvalidSight", "InvalidFact", "OverQuota", "NothingLeft", "InvalidOption", "SIGNS", "KINDS", "MARKED", "PEGS", "signs_of", "check_row", "unmarked"]
def names2 : List PySem.Str := ["all_marked", "plain", "marked_places", "marked", "pegs", "_law_cell", "_law_box", "_law_take", "_law_text", "_law_whole", "_law_belongs", "_law_string", "_law_alphabet", "_law_size"]
def names3 : List PySem.Str := ["_law_bent", "_law_bare", "_law_dotted", "_law_strings", "_law_error", "_law_kinds", "_law_field", "_law_kept", "_law_errors", "_law_looked", "_law_marks", "_law_places", "_law_together", "_law_call"]
def names4 : List PySem.Str := ["_law_refuses"]
def names : List PySem.Str := names0 ++ names1 ++ names2 ++ names3 ++ names4
abbrev hk : PySem.W.Hook := hookM 5 fa fn ts ex
def ob (s : PySem.W.SharedT) : AlE := obsEG 5 fa fn ts ex (HandSHeadRun.getT s)
theorem ob_eq (s : PySem.W.SharedT) : ob s = hk.obs s.abs := obsEG_eq (HandSHeadRun.getT_eq s)
theorem run0 (w : World) : HandSHeadRun.RunEq R (PySem.W.view R.prog [60]) hk ob 24000 names (w.withFollow "special-get-raises" false) := by
  intro os
  kernel_rfl
theorem run1 (w : World) : HandSHeadRun.RunEq R (PySem.W.view R.prog [60]) hk ob 24000 names (w.withFollow "special-get-raises" true) := by
  intro os
  kernel_rfl
theorem run (w : World) : HandSHeadRun.RunEq R (PySem.W.view R.prog [60]) hk ob 24000 names w := PySem.W.byRow2 "special-get-raises" (P := fun w => HandSHeadRun.RunEq R (PySem.W.view R.prog [60]) hk ob 24000 names w) run0 run1 w
end K00
namespace K00
open PySem PySem.Spec PyProof.Rows L2 Lc
structure Tx (K : PySem.W.Frag) (mg : Str → Option Value) (w : World) : Prop where
  mk ::
  h : ∃ hp : Heap, K.In hp ∧ hp.Ns mainGlobals mg
  c : SaysM fa fn ts ex w K
section
variable {K : PySem.W.Frag} {mg : Str → Option Value} {w : World}
theorem m_LeapError (T : Tx K mg w) : mg "LeapError" = some (.ref (He.ga K "LeapError")) := by obtain ⟨⟨hp, X, G⟩, c⟩ := T; exact He.glo_ok X G (c.a.fact 0 (f := .glo "LeapError") rfl)
theorem m_InvalidRow (T : Tx K mg w) : mg "InvalidRow" = some (.ref (He.ga K "InvalidRow")) := by obtain ⟨⟨hp, X, G⟩, c⟩ := T; exact He.glo_ok X G (c.a.fact 1 (f := .glo "InvalidRow") rfl)
theorem m_InvalidPlace (T : Tx K mg w) : mg "InvalidPlace" = some (.ref (He.ga K "InvalidPlace")) := by obtain ⟨⟨hp, X, G⟩, c⟩ := T; exact He.glo_ok X G (c.a.fact 2 (f := .glo "InvalidPlace") rfl)
theorem m_InvalidJump (T : Tx K mg w) : mg "InvalidJump" = some (.ref (He.ga K "InvalidJump")) := by obtain ⟨⟨hp, X, G⟩, c⟩ := T; exact He.glo_ok X G (c.a.fact 3 (f := .glo "InvalidJump") rfl)
theorem m_InvalidCard (T : Tx K mg w) : mg "InvalidCard" = some (.ref (He.ga K "InvalidCard")) := by obtain ⟨⟨hp, X, G⟩, c⟩ := T; exact He.glo_ok X G (c.a.fact 4 (f := .glo "InvalidCard") rfl)
theorem m_InvalidBoard (T : Tx K mg w) : mg "InvalidBoard" = some (.ref (He.ga K "InvalidBoard")) := by obtain ⟨⟨hp, X, G⟩, c⟩ := T; exact He.glo_ok X G (c.a.fact 5 (f := .glo "InvalidBoard") rfl)
theorem m_NoJump (T : Tx K mg w) : mg "NoJump" = some (.ref (He.ga K "NoJump")) := by obtain ⟨⟨hp, X, G⟩, c⟩ := T; exact He.glo_ok X G (c.a.fact 6 (f := .glo "NoJump") rfl)
theorem m_TooMany (T : Tx K mg w) : mg "TooMany" = some (.ref (He.ga K "TooMany")) := by obtain ⟨⟨hp, X, G⟩, c⟩ := T; exact He.glo_ok X G (c.a.fact 7 (f := .glo "TooMany") rfl)
theorem m_InvalidMachine (T : Tx K mg w) : mg "InvalidMachine" = some (.ref (He.ga K "InvalidMachine")) := by obtain ⟨⟨hp, X, G⟩, c⟩ := T; exact He.glo_ok X G (c.a.fact 8 (f := .glo "InvalidMachine") rfl)
theorem m_Unlike (T : Tx K mg w) : mg "Unlike" = some (.ref (He.ga K "Unlike")) := by obtain ⟨⟨hp, X, G⟩, c⟩ := T; exact He.glo_ok X G (c.a.fact 9 (f := .glo "Unlike") rfl)
theorem m_InvalidPattern (T : Tx K mg w) : mg "InvalidPattern" = some (.ref (He.ga K "InvalidPattern")) := by obtain ⟨⟨hp, X, G⟩, c⟩ := T; exact He.glo_ok X G (c.a.fact 10 (f := .glo "InvalidPattern") rfl)
theorem m_InvalidTarget (T : Tx K mg w) : mg "InvalidTarget" = some (.ref (He.ga K "InvalidTarget")) := by obtain ⟨⟨hp, X, G⟩, c⟩ := T; exact He.glo_ok X G (c.a.fact 11 (f := .glo "InvalidTarget") rfl)
theorem m_NotExact (T : Tx K mg w) : mg "NotExact" = some (.ref (He.ga K "NotExact")) := by obtain ⟨⟨hp, X, G⟩, c⟩ := T; exact He.glo_ok X G (c.a.fact 12 (f := .glo "NotExact") rfl)
theorem m_NoMachine (T : Tx K mg w) : mg "NoMachine" = some (.ref (He.ga K "NoMachine")) := by obtain ⟨⟨hp, X, G⟩, c⟩ := T; exact He.glo_ok X G (c.a.fact 13 (f := .glo "NoMachine") rfl)
theorem m_InvalidMeasure (T : Tx K mg w) : mg "InvalidMeasure" = some (.ref (He.ga K "InvalidMeasure")) := by obtain ⟨⟨hp, X, G⟩, c⟩ := T; exact He.glo_ok X G (c.a.fact 14 (f := .glo "InvalidMeasure") rfl)
theorem m_InvalidWeight (T : Tx K mg w) : mg "InvalidWeight" = some (.ref (He.ga K "InvalidWeight")) := by obtain ⟨⟨hp, X, G⟩, c⟩ := T; exact He.glo_ok X G (c.a.fact 15 (f := .glo "InvalidWeight") rfl)
theorem m_InvalidSight (T : Tx K mg w) : mg "InvalidSight" = some (.ref (He.ga K "InvalidSight")) := by obtain ⟨⟨hp, X, G⟩, c⟩ := T; exact He.glo_ok X G (c.a.fact 16 (f := .glo "InvalidSight") rfl)
theorem m_InvalidFact (T : Tx K mg w) : mg "InvalidFact" = some (.ref (He.ga K "InvalidFact")) := by obtain ⟨⟨hp, X, G⟩, c⟩ := T; exact He.glo_ok X G (c.a.fact 17 (f := .glo "InvalidFact") rfl)
theorem m_OverQuota (T : Tx K mg w) : mg "OverQuota" = some (.ref (He.ga K "OverQuota")) := by obtain ⟨⟨hp, X, G⟩, c⟩ := T; exact He.glo_ok X G (c.a.fact 18 (f := .glo "OverQuota") rfl)
theorem m_NothingLeft (T : Tx K mg w) : mg "NothingLeft" = some (.ref (He.ga K "NothingLeft")) := by obtain ⟨⟨hp, X, G⟩, c⟩ := T; exact He.glo_ok X G (c.a.fact 19 (f := .glo "NothingLeft") rfl)
theorem m_InvalidOption (T : Tx K mg w) : mg "InvalidOption" = some (.ref (He.ga K "InvalidOption")) := by obtain ⟨⟨hp, X, G⟩, c⟩ := T; exact He.glo_ok X G (c.a.fact 20 (f := .glo "InvalidOption") rfl)
theorem m_SIGNS (T : Tx K mg w) : ∃ t, mg "SIGNS" = some (.str "#.:ABCDabcd" t) := by obtain ⟨⟨hp, X, G⟩, c⟩ := T; exact He.str_ok X G (c.a.fact 21 (f := .str "SIGNS" "#.:ABCDabcd") rfl)
theorem m_KINDS (T : Tx K mg w) : ∃ t, mg "KINDS" = some (.str "abcd" t) := by obtain ⟨⟨hp, X, G⟩, c⟩ := T; exact He.str_ok X G (c.a.fact 22 (f := .str "KINDS" "abcd") rfl)
theorem m_MARKED (T : Tx K mg w) : ∃ t, mg "MARKED" = some (.str ":ABCD" t) := by obtain ⟨⟨hp, X, G⟩, c⟩ := T; exact He.str_ok X G (c.a.fact 23 (f := .str "MARKED" ":ABCD") rfl)
theorem m_PEGS (T : Tx K mg w) : ∃ t, mg "PEGS" = some (.str "ABCDabcd" t) := by obtain ⟨⟨hp, X, G⟩, c⟩ := T; exact He.str_ok X G (c.a.fact 24 (f := .str "PEGS" "ABCDabcd") rfl)
theorem m_signs_of (T : Tx K mg w) : mg "signs_of" = some (.ref (He.ga K "signs_of")) := by obtain ⟨⟨hp, X, G⟩, c⟩ := T; exact He.glo_ok X G (c.a.fact 25 (f := .glo "signs_of") rfl)
theorem m_check_row (T : Tx K mg w) : mg "check_row" = some (.ref (He.ga K "check_row")) := by obtain ⟨⟨hp, X, G⟩, c⟩ := T; exact He.glo_ok X G (c.a.fact 26 (f := .glo "check_row") rfl)
theorem m_unmarked (T : Tx K mg w) : mg "unmarked" = some (.ref (He.ga K "unmarked")) := by obtain ⟨⟨hp, X, G⟩, c⟩ := T; exact He.glo_ok X G (c.a.fact 27 (f := .glo "unmarked") rfl)
theorem m_all_marked (T : Tx K mg w) : mg "all_marked" = some (.ref (He.ga K "all_marked")) := by obtain ⟨⟨hp, X, G⟩, c⟩ := T; exact He.glo_ok X G (c.a.fact 28 (f := .glo "all_marked") rfl)
theorem m_plain (T : Tx K mg w) : mg "plain" = some (.ref (He.ga K "plain")) := by obtain ⟨⟨hp, X, G⟩, c⟩ := T; exact He.glo_ok X G (c.a.fact 29 (f := .glo "plain") rfl)
theorem m_marked_places (T : Tx K mg w) : mg "marked_places" = some (.ref (He.ga K "marked_places")) := by obtain ⟨⟨hp, X, G⟩, c⟩ := T; exact He.glo_ok X G (c.a.fact 30 (f := .glo "marked_places") rfl)
theorem m_marked (T : Tx K mg w) : mg "marked" = some (.ref (He.ga K "marked")) := by obtain ⟨⟨hp, X, G⟩, c⟩ := T; exact He.glo_ok X G (c.a.fact 31 (f := .glo "marked") rfl)
theorem m_pegs (T : Tx K mg w) : mg "pegs" = some (.ref (He.ga K "pegs")) := by obtain ⟨⟨hp, X, G⟩, c⟩ := T; exact He.glo_ok X G (c.a.fact 32 (f := .glo "pegs") rfl)
theorem m_law_cell (T : Tx K mg w) : mg "_law_cell" = some (.ref (He.ga K "_law_cell")) := by obtain ⟨⟨hp, X, G⟩, c⟩ := T; exact He.glo_ok X G (c.a.fact 33 (f := .glo "_law_cell") rfl)
theorem m_law_box (T : Tx K mg w) : mg "_law_box" = some (.ref (He.ga K "_law_box")) := by obtain ⟨⟨hp, X, G⟩, c⟩ := T; exact He.glo_ok X G (c.a.fact 34 (f := .glo "_law_box") rfl)
theorem m_law_take (T : Tx K mg w) : mg "_law_take" = some (.ref (He.ga K "_law_take")) := by obtain ⟨⟨hp, X, G⟩, c⟩ := T; exact He.glo_ok X G (c.a.fact 35 (f := .glo "_law_take") rfl)
theorem m_law_text (T : Tx K mg w) : mg "_law_text" = some (.ref (He.ga K "_law_text")) := by obtain ⟨⟨hp, X, G⟩, c⟩ := T; exact He.glo_ok X G (c.a.fact 36 (f := .glo "_law_text") rfl)
theorem m_law_whole (T : Tx K mg w) : mg "_law_whole" = some (.ref (He.ga K "_law_whole")) := by obtain ⟨⟨hp, X, G⟩, c⟩ := T; exact He.glo_ok X G (c.a.fact 37 (f := .glo "_law_whole") rfl)
theorem m_law_belongs (T : Tx K mg w) : mg "_law_belongs" = some (.ref (He.ga K "_law_belongs")) := by obtain ⟨⟨hp, X, G⟩, c⟩ := T; exact He.glo_ok X G (c.a.fact 38 (f := .glo "_law_belongs") rfl)
theorem m_law_string (T : Tx K mg w) : mg "_law_string" = some (.ref (He.ga K "_law_string")) := by obtain ⟨⟨hp, X, G⟩, c⟩ := T; exact He.glo_ok X G (c.a.fact 39 (f := .glo "_law_string") rfl)
theorem m_law_alphabet (T : Tx K mg w) : mg "_law_alphabet" = some (.ref (He.ga K "_law_alphabet")) := by obtain ⟨⟨hp, X, G⟩, c⟩ := T; exact He.glo_ok X G (c.a.fact 40 (f := .glo "_law_alphabet") rfl)
theorem m_law_size (T : Tx K mg w) : mg "_law_size" = some (.ref (He.ga K "_law_size")) := by obtain ⟨⟨hp, X, G⟩, c⟩ := T; exact He.glo_ok X G (c.a.fact 41 (f := .glo "_law_size") rfl)
theorem m_law_bent (T : Tx K mg w) : mg "_law_bent" = some (.ref (He.ga K "_law_bent")) := by obtain ⟨⟨hp, X, G⟩, c⟩ := T; exact He.glo_ok X G (c.a.fact 42 (f := .glo "_law_bent") rfl)
theorem m_law_bare (T : Tx K mg w) : mg "_law_bare" = some (.ref (He.ga K "_law_bare")) := by obtain ⟨⟨hp, X, G⟩, c⟩ := T; exact He.glo_ok X G (c.a.fact 43 (f := .glo "_law_bare") rfl)
theorem m_law_dotted (T : Tx K mg w) : mg "_law_dotted" = some (.ref (He.ga K "_law_dotted")) := by obtain ⟨⟨hp, X, G⟩, c⟩ := T; exact He.glo_ok X G (c.a.fact 44 (f := .glo "_law_dotted") rfl)
theorem m_law_strings (T : Tx K mg w) : mg "_law_strings" = some (.ref (He.ga K "_law_strings")) := by obtain ⟨⟨hp, X, G⟩, c⟩ := T; exact He.glo_ok X G (c.a.fact 45 (f := .glo "_law_strings") rfl)
theorem m_law_error (T : Tx K mg w) : mg "_law_error" = some (.ref (He.ga K "_law_error")) := by obtain ⟨⟨hp, X, G⟩, c⟩ := T; exact He.glo_ok X G (c.a.fact 46 (f := .glo "_law_error") rfl)
theorem m_law_kinds (T : Tx K mg w) : mg "_law_kinds" = some (.ref (He.ga K "_law_kinds")) := by obtain ⟨⟨hp, X, G⟩, c⟩ := T; exact He.glo_ok X G (c.a.fact 47 (f := .glo "_law_kinds") rfl)
theorem m_law_field (T : Tx K mg w) : mg "_law_field" = some (.ref (He.ga K "_law_field")) := by obtain ⟨⟨hp, X, G⟩, c⟩ := T; exact He.glo_ok X G (c.a.fact 48 (f := .glo "_law_field") rfl)
theorem m_law_kept (T : Tx K mg w) : mg "_law_kept" = some (.ref (He.ga K "_law_kept")) := by obtain ⟨⟨hp, X, G⟩, c⟩ := T; exact He.glo_ok X G (c.a.fact 49 (f := .glo "_law_kept") rfl)
theorem m_law_errors (T : Tx K mg w) : mg "_law_errors" = some (.ref (He.ga K "_law_errors")) := by obtain ⟨⟨hp, X, G⟩, c⟩ := T; exact He.glo_ok X G (c.a.fact 50 (f := .glo "_law_errors") rfl)
theorem m_law_looked (T : Tx K mg w) : mg "_law_looked" = some (.ref (He.ga K "_law_looked")) := by obtain ⟨⟨hp, X, G⟩, c⟩ := T; exact He.glo_ok X G (c.a.fact 51 (f := .glo "_law_looked") rfl)
theorem m_law_marks (T : Tx K mg w) : mg "_law_marks" = some (.ref (He.ga K "_law_marks")) := by obtain ⟨⟨hp, X, G⟩, c⟩ := T; exact He.glo_ok X G (c.a.fact 52 (f := .glo "_law_marks") rfl)
theorem m_law_places (T : Tx K mg w) : mg "_law_places" = some (.ref (He.ga K "_law_places")) := by obtain ⟨⟨hp, X, G⟩, c⟩ := T; exact He.glo_ok X G (c.a.fact 53 (f := .glo "_law_places") rfl)
theorem m_law_together (T : Tx K mg w) : mg "_law_together" = some (.ref (He.ga K "_law_together")) := by obtain ⟨⟨hp, X, G⟩, c⟩ := T; exact He.glo_ok X G (c.a.fact 54 (f := .glo "_law_together") rfl)
theorem m_law_call (T : Tx K mg w) : mg "_law_call" = some (.ref (He.ga K "_law_call")) := by obtain ⟨⟨hp, X, G⟩, c⟩ := T; exact He.glo_ok X G (c.a.fact 55 (f := .glo "_law_call") rfl)
theorem m_law_refuses (T : Tx K mg w) : mg "_law_refuses" = some (.ref (He.ga K "_law_refuses")) := by obtain ⟨⟨hp, X, G⟩, c⟩ := T; exact He.glo_ok X G (c.a.fact 56 (f := .glo "_law_refuses") rfl)
theorem m_law (T : Tx K mg w) : mg "law" = some (.ref (He.ga K "law")) := by obtain ⟨⟨hp, X, G⟩, c⟩ := T; exact He.glo_ok X G (c.a.fact 57 (f := .glo "law") rfl)
theorem m_len (T : Tx K mg w) : mg "len" = none := by obtain ⟨⟨hp, X, G⟩, c⟩ := T; exact He.free_ok X G (c.a.fact 58 (f := .free "len") rfl)
theorem m_range (T : Tx K mg w) : mg "range" = none := by obtain ⟨⟨hp, X, G⟩, c⟩ := T; exact He.free_ok X G (c.a.fact 59 (f := .free "range") rfl)
theorem m_enumerate (T : Tx K mg w) : mg "enumerate" = none := by obtain ⟨⟨hp, X, G⟩, c⟩ := T; exact He.free_ok X G (c.a.fact 60 (f := .free "enumerate") rfl)
theorem m_min (T : Tx K mg w) : mg "min" = none := by obtain ⟨⟨hp, X, G⟩, c⟩ := T; exact He.free_ok X G (c.a.fact 61 (f := .free "min") rfl)
theorem m_sum (T : Tx K mg w) : mg "sum" = none := by obtain ⟨⟨hp, X, G⟩, c⟩ := T; exact He.free_ok X G (c.a.fact 62 (f := .free "sum") rfl)
theorem m_sorted (T : Tx K mg w) : mg "sorted" = none := by obtain ⟨⟨hp, X, G⟩, c⟩ := T; exact He.free_ok X G (c.a.fact 63 (f := .free "sorted") rfl)
theorem m_int (T : Tx K mg w) : mg "int" = none := by obtain ⟨⟨hp, X, G⟩, c⟩ := T; exact He.free_ok X G (c.a.fact 64 (f := .free "int") rfl)
theorem m_str (T : Tx K mg w) : mg "str" = none := by obtain ⟨⟨hp, X, G⟩, c⟩ := T; exact He.free_ok X G (c.a.fact 65 (f := .free "str") rfl)
theorem m_bool (T : Tx K mg w) : mg "bool" = none := by obtain ⟨⟨hp, X, G⟩, c⟩ := T; exact He.free_ok X G (c.a.fact 66 (f := .free "bool") rfl)
theorem m_list (T : Tx K mg w) : mg "list" = none := by obtain ⟨⟨hp, X, G⟩, c⟩ := T; exact He.free_ok X G (c.a.fact 67 (f := .free "list") rfl)
theorem m_tuple (T : Tx K mg w) : mg "tuple" = none := by obtain ⟨⟨hp, X, G⟩, c⟩ := T; exact He.free_ok X G (c.a.fact 68 (f := .free "tuple") rfl)
theorem m_isinstance (T : Tx K mg w) : mg "isinstance" = none := by obtain ⟨⟨hp, X, G⟩, c⟩ := T; exact He.free_ok X G (c.a.fact 69 (f := .free "isinstance") rfl)
theorem m_ValueError (T : Tx K mg w) : mg "ValueError" = none := by obtain ⟨⟨hp, X, G⟩, c⟩ := T; exact He.free_ok X G (c.a.fact 70 (f := .free "ValueError") rfl)
theorem exAt (T : Tx K mg w) (i : Nat) {b : Bool} (h : (exs K)[i]? = some b) : b = true := List.all_eq_true.mp T.c.e b (List.mem_of_getElem? h)
theorem h_InvalidRow_init (T : Tx K mg w) : HasD K d_InvalidRow_init := has_of T.c.a 0 rfl
theorem k_InvalidRow_init (T : Tx K mg w) : PySem.W.keepIn K (.ref (d_InvalidRow_init.at_ K)) = true := (h_InvalidRow_init T).kp
theorem b_InvalidRow_init (T : Tx K mg w) : Binds K (fdOf K (d_InvalidRow_init.at_ K)) ps_InvalidRow_init [] := FunD.bindsN (ps := ps_InvalidRow_init) (h_InvalidRow_init T) fun _ _ _ _ _ _ us hl => match us, hl with | [_, _], _ => rfl
theorem h_InvalidPlace_init (T : Tx K mg w) : HasD K d_InvalidPlace_init := has_of T.c.a 1 rfl
theorem k_InvalidPlace_init (T : Tx K mg w) : PySem.W.keepIn K (.ref (d_InvalidPlace_init.at_ K)) = true := (h_InvalidPlace_init T).kp
theorem b_InvalidPlace_init (T : Tx K mg w) : Binds K (fdOf K (d_InvalidPlace_init.at_ K)) ps_InvalidPlace_init [] := FunD.bindsN (ps := ps_InvalidPlace_init) (h_InvalidPlace_init T) fun _ _ _ _ _ _ us hl => match us, hl with | [_, _], _ => rfl
theorem h_InvalidJump_init (T : Tx K mg w) : HasD K d_InvalidJump_init := has_of T.c.a 2 rfl
theorem k_InvalidJump_init (T : Tx K mg w) : PySem.W.keepIn K (.ref (d_InvalidJump_init.at_ K)) = true := (h_InvalidJump_init T).kp
theorem b_InvalidJump_init (T : Tx K mg w) : Binds K (fdOf K (d_InvalidJump_init.at_ K)) ps_InvalidJump_init [] := FunD.bindsN (ps := ps_InvalidJump_init) (h_InvalidJump_init T) fun _ _ _ _ _ _ us hl => match us, hl with | [_, _], _ => rfl
theorem h_InvalidCard_init (T : Tx K mg w) : HasD K d_InvalidCard_init := has_of T.c.a 3 rfl
theorem k_InvalidCard_init (T : Tx K mg w) : PySem.W.keepIn K (.ref (d_InvalidCard_init.at_ K)) = true := (h_InvalidCard_init T).kp
theorem b_InvalidCard_init (T : Tx K mg w) : Binds K (fdOf K (d_InvalidCard_init.at_ K)) ps_InvalidCard_init [] := FunD.bindsN (ps := ps_InvalidCard_init) (h_InvalidCard_init T) fun _ _ _ _ _ _ us hl => match us, hl with | [_, _], _ => rfl
theorem h_InvalidBoard_init (T : Tx K mg w) : HasD K d_InvalidBoard_init := has_of T.c.a 4 rfl
theorem k_InvalidBoard_init (T : Tx K mg w) : PySem.W.keepIn K (.ref (d_InvalidBoard_init.at_ K)) = true := (h_InvalidBoard_init T).kp
theorem b_InvalidBoard_init (T : Tx K mg w) : Binds K (fdOf K (d_InvalidBoard_init.at_ K)) ps_InvalidBoard_init [] := FunD.bindsN (ps := ps_InvalidBoard_init) (h_InvalidBoard_init T) fun _ _ _ _ _ _ us hl => match us, hl with | [_, _], _ => rfl
theorem h_NoJump_init (T : Tx K mg w) : HasD K d_NoJump_init := has_of T.c.a 5 rfl
theorem k_NoJump_init (T : Tx K mg w) : PySem.W.keepIn K (.ref (d_NoJump_init.at_ K)) = true := (h_NoJump_init T).kp
theorem b_NoJump_init (T : Tx K mg w) : Binds K (fdOf K (d_NoJump_init.at_ K)) ps_NoJump_init [] := FunD.bindsN (ps := ps_NoJump_init) (h_NoJump_init T) fun _ _ _ _ _ _ us hl => match us, hl with | [_, _], _ => rfl
theorem h_TooMany_init (T : Tx K mg w) : HasD K d_TooMany_init := has_of T.c.a 6 rfl
theorem k_TooMany_init (T : Tx K mg w) : PySem.W.keepIn K (.ref (d_TooMany_init.at_ K)) = true := (h_TooMany_init T).kp
theorem b_TooMany_init (T : Tx K mg w) : Binds K (fdOf K (d_TooMany_init.at_ K)) ps_TooMany_init [] := FunD.bindsN (ps := ps_TooMany_init) (h_TooMany_init T) fun _ _ _ _ _ _ us hl => match us, hl with | [_, _], _ => rfl
theorem h_InvalidMachine_init (T : Tx K mg w) : HasD K d_InvalidMachine_init := has_of T.c.a 7 rfl
theorem k_InvalidMachine_init (T : Tx K mg w) : PySem.W.keepIn K (.ref (d_InvalidMachine_init.at_ K)) = true := (h_InvalidMachine_init T).kp
theorem b_InvalidMachine_init (T : Tx K mg w) : Binds K (fdOf K (d_InvalidMachine_init.at_ K)) ps_InvalidMachine_init [] := FunD.bindsN (ps := ps_InvalidMachine_init) (h_InvalidMachine_init T) fun _ _ _ _ _ _ us hl => match us, hl with | [_, _], _ => rfl
theorem h_Unlike_init (T : Tx K mg w) : HasD K d_Unlike_init := has_of T.c.a 8 rfl
theorem k_Unlike_init (T : Tx K mg w) : PySem.W.keepIn K (.ref (d_Unlike_init.at_ K)) = true := (h_Unlike_init T).kp
theorem b_Unlike_init (T : Tx K mg w) : Binds K (fdOf K (d_Unlike_init.at_ K)) ps_Unlike_init [] := FunD.bindsN (ps := ps_Unlike_init) (h_Unlike_init T) fun _ _ _ _ _ _ us hl => match us, hl with | [_, _], _ => rfl
theorem h_InvalidPattern_init (T : Tx K mg w) : HasD K d_InvalidPattern_init := has_of T.c.a 9 rfl
theorem k_InvalidPattern_init (T : Tx K mg w) : PySem.W.keepIn K (.ref (d_InvalidPattern_init.at_ K)) = true := (h_InvalidPattern_init T).kp
theorem b_InvalidPattern_init (T : Tx K mg w) : Binds K (fdOf K (d_InvalidPattern_init.at_ K)) ps_InvalidPattern_init [] := FunD.bindsN (ps := ps_InvalidPattern_init) (h_InvalidPattern_init T) fun _ _ _ _ _ _ us hl => match us, hl with | [_, _], _ => rfl
theorem h_InvalidTarget_init (T : Tx K mg w) : HasD K d_InvalidTarget_init := has_of T.c.a 10 rfl
theorem k_InvalidTarget_init (T : Tx K mg w) : PySem.W.keepIn K (.ref (d_InvalidTarget_init.at_ K)) = true := (h_InvalidTarget_init T).kp
theorem b_InvalidTarget_init (T : Tx K mg w) : Binds K (fdOf K (d_InvalidTarget_init.at_ K)) ps_InvalidTarget_init [] := FunD.bindsN (ps := ps_InvalidTarget_init) (h_InvalidTarget_init T) fun _ _ _ _ _ _ us hl => match us, hl with | [_, _], _ => rfl
theorem h_NotExact_init (T : Tx K mg w) : HasD K d_NotExact_init := has_of T.c.a 11 rfl
theorem k_NotExact_init (T : Tx K mg w) : PySem.W.keepIn K (.ref (d_NotExact_init.at_ K)) = true := (h_NotExact_init T).kp
theorem b_NotExact_init (T : Tx K mg w) : Binds K (fdOf K (d_NotExact_init.at_ K)) ps_NotExact_init [] := FunD.bindsN (ps := ps_NotExact_init) (h_NotExact_init T) fun _ _ _ _ _ _ us hl => match us, hl with | [_, _], _ => rfl
theorem h_NoMachine_init (T : Tx K mg w) : HasD K d_NoMachine_init := has_of T.c.a 12 rfl
theorem k_NoMachine_init (T : Tx K mg w) : PySem.W.keepIn K (.ref (d_NoMachine_init.at_ K)) = true := (h_NoMachine_init T).kp
theorem b_NoMachine_init (T : Tx K mg w) : Binds K (fdOf K (d_NoMachine_init.at_ K)) ps_NoMachine_init [] := FunD.bindsN (ps := ps_NoMachine_init) (h_NoMachine_init T) fun _ _ _ _ _ _ us hl => match us, hl with | [_, _], _ => rfl
theorem h_InvalidMeasure_init (T : Tx K mg w) : HasD K d_InvalidMeasure_init := has_of T.c.a 13 rfl
theorem k_InvalidMeasure_init (T : Tx K mg w) : PySem.W.keepIn K (.ref (d_InvalidMeasure_init.at_ K)) = true := (h_InvalidMeasure_init T).kp
theorem b_InvalidMeasure_init (T : Tx K mg w) : Binds K (fdOf K (d_InvalidMeasure_init.at_ K)) ps_InvalidMeasure_init [] := FunD.bindsN (ps := ps_InvalidMeasure_init) (h_InvalidMeasure_init T) fun _ _ _ _ _ _ us hl => match us, hl with | [_, _], _ => rfl
theorem h_InvalidWeight_init (T : Tx K mg w) : HasD K d_InvalidWeight_init := has_of T.c.a 14 rfl
theorem k_InvalidWeight_init (T : Tx K mg w) : PySem.W.keepIn K (.ref (d_InvalidWeight_init.at_ K)) = true := (h_InvalidWeight_init T).kp
theorem b_InvalidWeight_init (T : Tx K mg w) : Binds K (fdOf K (d_InvalidWeight_init.at_ K)) ps_InvalidWeight_init [] := FunD.bindsN (ps := ps_InvalidWeight_init) (h_InvalidWeight_init T) fun _ _ _ _ _ _ us hl => match us, hl with | [_, _], _ => rfl
theorem h_InvalidSight_init (T : Tx K mg w) : HasD K d_InvalidSight_init := has_of T.c.a 15 rfl
theorem k_InvalidSight_init (T : Tx K mg w) : PySem.W.keepIn K (.ref (d_InvalidSight_init.at_ K)) = true := (h_InvalidSight_init T).kp
theorem b_InvalidSight_init (T : Tx K mg w) : Binds K (fdOf K (d_InvalidSight_init.at_ K)) ps_InvalidSight_init [] := FunD.bindsN (ps := ps_InvalidSight_init) (h_InvalidSight_init T) fun _ _ _ _ _ _ us hl => match us, hl with | [_, _], _ => rfl
theorem h_InvalidFact_init (T : Tx K mg w) : HasD K d_InvalidFact_init := has_of T.c.a 16 rfl
theorem k_InvalidFact_init (T : Tx K mg w) : PySem.W.keepIn K (.ref (d_InvalidFact_init.at_ K)) = true := (h_InvalidFact_init T).kp
theorem b_InvalidFact_init (T : Tx K mg w) : Binds K (fdOf K (d_InvalidFact_init.at_ K)) ps_InvalidFact_init [] := FunD.bindsN (ps := ps_InvalidFact_init) (h_InvalidFact_init T) fun _ _ _ _ _ _ us hl => match us, hl with | [_, _], _ => rfl
theorem h_OverQuota_init (T : Tx K mg w) : HasD K d_OverQuota_init := has_of T.c.a 17 rfl
theorem k_OverQuota_init (T : Tx K mg w) : PySem.W.keepIn K (.ref (d_OverQuota_init.at_ K)) = true := (h_OverQuota_init T).kp
theorem b_OverQuota_init (T : Tx K mg w) : Binds K (fdOf K (d_OverQuota_init.at_ K)) ps_OverQuota_init [] := FunD.bindsN (ps := ps_OverQuota_init) (h_OverQuota_init T) fun _ _ _ _ _ _ us hl => match us, hl with | [_, _], _ => rfl
theorem h_NothingLeft_init (T : Tx K mg w) : HasD K d_NothingLeft_init := has_of T.c.a 18 rfl
theorem k_NothingLeft_init (T : Tx K mg w) : PySem.W.keepIn K (.ref (d_NothingLeft_init.at_ K)) = true := (h_NothingLeft_init T).kp
theorem b_NothingLeft_init (T : Tx K mg w) : Binds K (fdOf K (d_NothingLeft_init.at_ K)) ps_NothingLeft_init [] := FunD.bindsN (ps := ps_NothingLeft_init) (h_NothingLeft_init T) fun _ _ _ _ _ _ us hl => match us, hl with | [_, _], _ => rfl
theorem h_InvalidOption_init (T : Tx K mg w) : HasD K d_InvalidOption_init := has_of T.c.a 19 rfl
theorem k_InvalidOption_init (T : Tx K mg w) : PySem.W.keepIn K (.ref (d_InvalidOption_init.at_ K)) = true := (h_InvalidOption_init T).kp
theorem b_InvalidOption_init (T : Tx K mg w) : Binds K (fdOf K (d_InvalidOption_init.at_ K)) ps_InvalidOption_init [] := FunD.bindsN (ps := ps_InvalidOption_init) (h_InvalidOption_init T) fun _ _ _ _ _ _ us hl => match us, hl with | [_, _], _ => rfl
theorem h_signs_of (T : Tx K mg w) : HasD K d_signs_of := has_of T.c.a 20 rfl
theorem k_signs_of (T : Tx K mg w) : PySem.W.keepIn K (.ref (d_signs_of.at_ K)) = true := (h_signs_of T).kp
-- b_signs_of: by hand
theorem h_check_row (T : Tx K mg w) : HasD K d_check_row := has_of T.c.a 21 rfl
theorem k_check_row (T : Tx K mg w) : PySem.W.keepIn K (.ref (d_check_row.at_ K)) = true := (h_check_row T).kp
-- b_check_row: by hand
theorem h_unmarked (T : Tx K mg w) : HasD K d_unmarked := has_of T.c.a 22 rfl
theorem k_unmarked (T : Tx K mg w) : PySem.W.keepIn K (.ref (d_unmarked.at_ K)) = true := (h_unmarked T).kp
theorem b_unmarked (T : Tx K mg w) : Binds K (fdOf K (d_unmarked.at_ K)) ps_unmarked [] := FunD.bindsN (ps := ps_unmarked) (h_unmarked T) fun _ _ _ _ _ _ us hl => match us, hl with | [_], _ => rfl
theorem h_all_marked (T : Tx K mg w) : HasD K d_all_marked := has_of T.c.a 23 rfl
theorem k_all_marked (T : Tx K mg w) : PySem.W.keepIn K (.ref (d_all_marked.at_ K)) = true := (h_all_marked T).kp
theorem b_all_marked (T : Tx K mg w) : Binds K (fdOf K (d_all_marked.at_ K)) ps_all_marked [] := FunD.bindsN (ps := ps_all_marked) (h_all_marked T) fun _ _ _ _ _ _ us hl => match us, hl with | [_], _ => rfl
theorem h_plain (T : Tx K mg w) : HasD K d_plain := has_of T.c.a 24 rfl
theorem k_plain (T : Tx K mg w) : PySem.W.keepIn K (.ref (d_plain.at_ K)) = true := (h_plain T).kp
theorem b_plain (T : Tx K mg w) : Binds K (fdOf K (d_plain.at_ K)) ps_plain [] := FunD.bindsN (ps := ps_plain) (h_plain T) fun _ _ _ _ _ _ us hl => match us, hl with | [_], _ => rfl
theorem h_marked_places (T : Tx K mg w) : HasD K d_marked_places := has_of T.c.a 25 rfl
theorem k_marked_places (T : Tx K mg w) : PySem.W.keepIn K (.ref (d_marked_places.at_ K)) = true := (h_marked_places T).kp
theorem b_marked_places (T : Tx K mg w) : Binds K (fdOf K (d_marked_places.at_ K)) ps_marked_places [] := FunD.bindsN (ps := ps_marked_places) (h_marked_places T) fun _ _ _ _ _ _ us hl => match us, hl with | [_], _ => rfl
theorem h_marked (T : Tx K mg w) : HasD K d_marked := has_of T.c.a 26 rfl
theorem k_marked (T : Tx K mg w) : PySem.W.keepIn K (.ref (d_marked.at_ K)) = true := (h_marked T).kp
theorem b_marked (T : Tx K mg w) : Binds K (fdOf K (d_marked.at_ K)) ps_marked [] := FunD.bindsN (ps := ps_marked) (h_marked T) fun _ _ _ _ _ _ us hl => match us, hl with | [_, _], _ => rfl
theorem h_pegs (T : Tx K mg w) : HasD K d_pegs := has_of T.c.a 27 rfl
theorem k_pegs (T : Tx K mg w) : PySem.W.keepIn K (.ref (d_pegs.at_ K)) = true := (h_pegs T).kp
theorem b_pegs (T : Tx K mg w) : Binds K (fdOf K (d_pegs.at_ K)) ps_pegs [] := FunD.bindsN (ps := ps_pegs) (h_pegs T) fun _ _ _ _ _ _ us hl => match us, hl with | [_], _ => rfl
theorem h_law_cell (T : Tx K mg w) : HasD K d_law_cell := has_of T.c.a 28 rfl
theorem k_law_cell (T : Tx K mg w) : PySem.W.keepIn K (.ref (d_law_cell.at_ K)) = true := (h_law_cell T).kp
theorem b_law_cell (T : Tx K mg w) : Binds K (fdOf K (d_law_cell.at_ K)) ps_law_cell [] := FunD.bindsN (ps := ps_law_cell) (h_law_cell T) fun _ _ _ _ _ _ us hl => match us, hl with | [_, _], _ => rfl
theorem h_law_box (T : Tx K mg w) : HasD K d_law_box := has_of T.c.a 29 rfl
theorem k_law_box (T : Tx K mg w) : PySem.W.keepIn K (.ref (d_law_box.at_ K)) = true := (h_law_box T).kp
theorem b_law_box (T : Tx K mg w) : Binds K (fdOf K (d_law_box.at_ K)) ps_law_box [] := FunD.bindsN (ps := ps_law_box) (h_law_box T) fun _ _ _ _ _ _ us hl => match us, hl with | [_, _], _ => rfl
theorem h_law_take (T : Tx K mg w) : HasD K d_law_take := has_of T.c.a 30 rfl
theorem k_law_take (T : Tx K mg w) : PySem.W.keepIn K (.ref (d_law_take.at_ K)) = true := (h_law_take T).kp
theorem b_law_take (T : Tx K mg w) : Binds K (fdOf K (d_law_take.at_ K)) ps_law_take [] := FunD.bindsN (ps := ps_law_take) (h_law_take T) fun _ _ _ _ _ _ us hl => match us, hl with | [_, _], _ => rfl
theorem h_law_text (T : Tx K mg w) : HasD K d_law_text := has_of T.c.a 31 rfl
theorem k_law_text (T : Tx K mg w) : PySem.W.keepIn K (.ref (d_law_text.at_ K)) = true := (h_law_text T).kp
theorem b_law_text (T : Tx K mg w) : Binds K (fdOf K (d_law_text.at_ K)) ps_law_text [] := FunD.bindsN (ps := ps_law_text) (h_law_text T) fun _ _ _ _ _ _ us hl => match us, hl with | [_, _], _ => rfl
theorem h_law_whole (T : Tx K mg w) : HasD K d_law_whole := has_of T.c.a 32 rfl
theorem k_law_whole (T : Tx K mg w) : PySem.W.keepIn K (.ref (d_law_whole.at_ K)) = true := (h_law_whole T).kp
theorem b_law_whole (T : Tx K mg w) : Binds K (fdOf K (d_law_whole.at_ K)) ps_law_whole [] := FunD.bindsN (ps := ps_law_whole) (h_law_whole T) fun _ _ _ _ _ _ us hl => match us, hl with | [_], _ => rfl
theorem h_law_belongs (T : Tx K mg w) : HasD K d_law_belongs := has_of T.c.a 33 rfl
theorem k_law_belongs (T : Tx K mg w) : PySem.W.keepIn K (.ref (d_law_belongs.at_ K)) = true := (h_law_belongs T).kp
theorem b_law_belongs (T : Tx K mg w) : Binds K (fdOf K (d_law_belongs.at_ K)) ps_law_belongs [] := FunD.bindsN (ps := ps_law_belongs) (h_law_belongs T) fun _ _ _ _ _ _ us hl => match us, hl with | [_, _, _, _], _ => rfl
theorem h_law_string (T : Tx K mg w) : HasD K d_law_string := has_of T.c.a 34 rfl
theorem k_law_string (T : Tx K mg w) : PySem.W.keepIn K (.ref (d_law_string.at_ K)) = true := (h_law_string T).kp
theorem b_law_string (T : Tx K mg w) : Binds K (fdOf K (d_law_string.at_ K)) ps_law_string [] := FunD.bindsN (ps := ps_law_string) (h_law_string T) fun _ _ _ _ _ _ us hl => match us, hl with | [_, _, _], _ => rfl
theorem h_law_alphabet (T : Tx K mg w) : HasD K d_law_alphabet := has_of T.c.a 35 rfl
theorem k_law_alphabet (T : Tx K mg w) : PySem.W.keepIn K (.ref (d_law_alphabet.at_ K)) = true := (h_law_alphabet T).kp
theorem b_law_alphabet (T : Tx K mg w) : Binds K (fdOf K (d_law_alphabet.at_ K)) ps_law_alphabet [] := FunD.bindsN (ps := ps_law_alphabet) (h_law_alphabet T) fun _ _ _ _ _ _ us hl => match us, hl with | [_], _ => rfl
theorem h_law_size (T : Tx K mg w) : HasD K d_law_size := has_of T.c.a 36 rfl
theorem k_law_size (T : Tx K mg w) : PySem.W.keepIn K (.ref (d_law_size.at_ K)) = true := (h_law_size T).kp
theorem b_law_size (T : Tx K mg w) : Binds K (fdOf K (d_law_size.at_ K)) ps_law_size [] := FunD.bindsN (ps := ps_law_size) (h_law_size T) fun _ _ _ _ _ _ us hl => match us, hl with | [_], _ => rfl
theorem h_law_bent (T : Tx K mg w) : HasD K d_law_bent := has_of T.c.a 37 rfl
theorem k_law_bent (T : Tx K mg w) : PySem.W.keepIn K (.ref (d_law_bent.at_ K)) = true := (h_law_bent T).kp
theorem b_law_bent (T : Tx K mg w) : Binds K (fdOf K (d_law_bent.at_ K)) ps_law_bent [] := FunD.bindsN (ps := ps_law_bent) (h_law_bent T) fun _ _ _ _ _ _ us hl => match us, hl with | [_, _], _ => rfl
theorem h_law_bare (T : Tx K mg w) : HasD K d_law_bare := has_of T.c.a 38 rfl
theorem k_law_bare (T : Tx K mg w) : PySem.W.keepIn K (.ref (d_law_bare.at_ K)) = true := (h_law_bare T).kp
theorem b_law_bare (T : Tx K mg w) : Binds K (fdOf K (d_law_bare.at_ K)) ps_law_bare [] := FunD.bindsN (ps := ps_law_bare) (h_law_bare T) fun _ _ _ _ _ _ us hl => match us, hl with | [_], _ => rfl
theorem h_law_dotted (T : Tx K mg w) : HasD K d_law_dotted := has_of T.c.a 39 rfl
theorem k_law_dotted (T : Tx K mg w) : PySem.W.keepIn K (.ref (d_law_dotted.at_ K)) = true := (h_law_dotted T).kp
theorem b_law_dotted (T : Tx K mg w) : Binds K (fdOf K (d_law_dotted.at_ K)) ps_law_dotted [] := FunD.bindsN (ps := ps_law_dotted) (h_law_dotted T) fun _ _ _ _ _ _ us hl => match us, hl with | [_], _ => rfl
theorem h_law_strings (T : Tx K mg w) : HasD K d_law_strings := has_of T.c.a 40 rfl
theorem k_law_strings (T : Tx K mg w) : PySem.W.keepIn K (.ref (d_law_strings.at_ K)) = true := (h_law_strings T).kp
theorem b_law_strings (T : Tx K mg w) : Binds K (fdOf K (d_law_strings.at_ K)) ps_law_strings [] := FunD.bindsN (ps := ps_law_strings) (h_law_strings T) fun _ _ _ _ _ _ us hl => match us, hl with | [], _ => rfl
theorem h_law_error (T : Tx K mg w) : HasD K d_law_error := has_of T.c.a 41 rfl
theorem k_law_error (T : Tx K mg w) : PySem.W.keepIn K (.ref (d_law_error.at_ K)) = true := (h_law_error T).kp
theorem b_law_error (T : Tx K mg w) : Binds K (fdOf K (d_law_error.at_ K)) ps_law_error [] := FunD.bindsN (ps := ps_law_error) (h_law_error T) fun _ _ _ _ _ _ us hl => match us, hl with | [_, _], _ => rfl
theorem h_law_kinds (T : Tx K mg w) : HasD K d_law_kinds := has_of T.c.a 42 rfl
theorem k_law_kinds (T : Tx K mg w) : PySem.W.keepIn K (.ref (d_law_kinds.at_ K)) = true := (h_law_kinds T).kp
theorem b_law_kinds (T : Tx K mg w) : Binds K (fdOf K (d_law_kinds.at_ K)) ps_law_kinds [] := FunD.bindsN (ps := ps_law_kinds) (h_law_kinds T) fun _ _ _ _ _ _ us hl => match us, hl with | [_], _ => rfl
theorem h_law_field (T : Tx K mg w) : HasD K d_law_field := has_of T.c.a 43 rfl
theorem k_law_field (T : Tx K mg w) : PySem.W.keepIn K (.ref (d_law_field.at_ K)) = true := (h_law_field T).kp
theorem b_law_field (T : Tx K mg w) : Binds K (fdOf K (d_law_field.at_ K)) ps_law_field [] := FunD.bindsN (ps := ps_law_field) (h_law_field T) fun _ _ _ _ _ _ us hl => match us, hl with | [_, _], _ => rfl
theorem h_law_kept (T : Tx K mg w) : HasD K d_law_kept := has_of T.c.a 44 rfl
theorem k_law_kept (T : Tx K mg w) : PySem.W.keepIn K (.ref (d_law_kept.at_ K)) = true := (h_law_kept T).kp
theorem b_law_kept (T : Tx K mg w) : Binds K (fdOf K (d_law_kept.at_ K)) ps_law_kept [] := FunD.bindsN (ps := ps_law_kept) (h_law_kept T) fun _ _ _ _ _ _ us hl => match us, hl with | [_, _, _, _], _ => rfl
theorem h_law_errors (T : Tx K mg w) : HasD K d_law_errors := has_of T.c.a 45 rfl
theorem k_law_errors (T : Tx K mg w) : PySem.W.keepIn K (.ref (d_law_errors.at_ K)) = true := (h_law_errors T).kp
theorem b_law_errors (T : Tx K mg w) : Binds K (fdOf K (d_law_errors.at_ K)) ps_law_errors [] := FunD.bindsN (ps := ps_law_errors) (h_law_errors T) fun _ _ _ _ _ _ us hl => match us, hl with | [_, _], _ => rfl
theorem h_law_looked (T : Tx K mg w) : HasD K d_law_looked := has_of T.c.a 46 rfl
theorem k_law_looked (T : Tx K mg w) : PySem.W.keepIn K (.ref (d_law_looked.at_ K)) = true := (h_law_looked T).kp
theorem b_law_looked (T : Tx K mg w) : Binds K (fdOf K (d_law_looked.at_ K)) ps_law_looked [] := FunD.bindsN (ps := ps_law_looked) (h_law_looked T) fun _ _ _ _ _ _ us hl => match us, hl with | [_], _ => rfl
theorem h_law_marks (T : Tx K mg w) : HasD K d_law_marks := has_of T.c.a 47 rfl
theorem k_law_marks (T : Tx K mg w) : PySem.W.keepIn K (.ref (d_law_marks.at_ K)) = true := (h_law_marks T).kp
theorem b_law_marks (T : Tx K mg w) : Binds K (fdOf K (d_law_marks.at_ K)) ps_law_marks [] := FunD.bindsN (ps := ps_law_marks) (h_law_marks T) fun _ _ _ _ _ _ us hl => match us, hl with | [_, _], _ => rfl
theorem h_law_places (T : Tx K mg w) : HasD K d_law_places := has_of T.c.a 48 rfl
theorem k_law_places (T : Tx K mg w) : PySem.W.keepIn K (.ref (d_law_places.at_ K)) = true := (h_law_places T).kp
theorem b_law_places (T : Tx K mg w) : Binds K (fdOf K (d_law_places.at_ K)) ps_law_places [] := FunD.bindsN (ps := ps_law_places) (h_law_places T) fun _ _ _ _ _ _ us hl => match us, hl with | [_, _], _ => rfl
theorem h_law_together (T : Tx K mg w) : HasD K d_law_together := has_of T.c.a 49 rfl
theorem k_law_together (T : Tx K mg w) : PySem.W.keepIn K (.ref (d_law_together.at_ K)) = true := (h_law_together T).kp
theorem b_law_together (T : Tx K mg w) : Binds K (fdOf K (d_law_together.at_ K)) ps_law_together [] := FunD.bindsN (ps := ps_law_together) (h_law_together T) fun _ _ _ _ _ _ us hl => match us, hl with | [_, _], _ => rfl
theorem h_law_call (T : Tx K mg w) : HasD K d_law_call := has_of T.c.a 50 rfl
theorem k_law_call (T : Tx K mg w) : PySem.W.keepIn K (.ref (d_law_call.at_ K)) = true := (h_law_call T).kp
theorem b_law_call (T : Tx K mg w) : Binds K (fdOf K (d_law_call.at_ K)) ps_law_call [] := FunD.bindsN (ps := ps_law_call) (h_law_call T) fun _ _ _ _ _ _ us hl => match us, hl with | [_, _, _], _ => rfl
theorem h_law_refuses (T : Tx K mg w) : HasD K d_law_refuses := has_of T.c.a 51 rfl
theorem k_law_refuses (T : Tx K mg w) : PySem.W.keepIn K (.ref (d_law_refuses.at_ K)) = true := (h_law_refuses T).kp
theorem b_law_refuses (T : Tx K mg w) : Binds K (fdOf K (d_law_refuses.at_ K)) ps_law_refuses [] := FunD.bindsN (ps := ps_law_refuses) (h_law_refuses T) fun _ _ _ _ _ _ us hl => match us, hl with | [_, _, _], _ => rfl
theorem h_law (T : Tx K mg w) : HasD K d_law := has_of T.c.a 52 rfl
theorem k_law (T : Tx K mg w) : PySem.W.keepIn K (.ref (d_law.at_ K)) = true := (h_law T).kp
theorem b_law (T : Tx K mg w) : Binds K (fdOf K (d_law.at_ K)) ps_law [] := FunD.bindsN (ps := ps_law) (h_law T) fun _ _ _ _ _ _ us hl => match us, hl with | [_], _ => rfl
theorem xE (T : Tx K mg w) {c f : Str} (h : (c, f) ∈ ec) : XF K c f := errB_ok (exAt T 0 rfl) (List.all_eq_true.mp (exAt T 1 rfl) _ h)
theorem xC (T : Tx K mg w) {c f : Str} (h : (c, f) ∈ ec) : ExcC K (He.ga K c) := excB_ok (xE T h).xf (Bool.and_eq_true_iff.mp (List.all_eq_true.mp (exAt T 2 rfl) _ h)).1
theorem mroE (T : Tx K mg w) {c f : Str} (h : (c, f) ∈ ec) : ∃ cd, PySem.W.clsIn K (He.ga K c) = some cd ∧ cd.mro = [.ref (He.ga K c), .ref (He.ga K "LeapError"), .type "ValueError", .type "Exception", .type "BaseException", .type "object"] := by
  have q := (Bool.and_eq_true_iff.mp (List.all_eq_true.mp (exAt T 2 rfl) _ h)).2
  unfold mroB at q
  dsimp only at q
  split at q
  · rename_i cd e
    exact ⟨cd, e, beq_iff_eq.mp q⟩
  · cases q
theorem addrs (T : Tx K mg w) : (He.ga K "LeapError" :: ec.map fun p => He.ga K p.1).Nodup := of_decide_eq_true (exAt T 3 rfl)
theorem ga_LE (T : Tx K mg w) {c f : Str} (h : (c, f) ∈ ec) : He.ga K c ≠ He.ga K "LeapError" := fun z => (List.nodup_cons.mp (addrs T)).1 (by rw [← z]; exact List.mem_map.mpr ⟨(c, f), h, rfl⟩)
theorem nd_inj {α β : Type} {g : α → β} : ∀ {l : List α}, (l.map g).Nodup → ∀ {a b : α}, a ∈ l → b ∈ l → g a = g b → a = b
  | [], _, _, _, h, _, _ => absurd h (by simp)
  | x :: l, hn, a, b, ha, hb, e => by
    obtain ⟨h1, h2⟩ := List.nodup_cons.mp hn
    rcases List.mem_cons.mp ha with ea | ha'
    · rcases List.mem_cons.mp hb with eb | hb'
      · rw [ea, eb]
      · exact (h1 (List.mem_map.mpr ⟨b, hb', by rw [← ea]; exact e.symm⟩)).elim
    · rcases List.mem_cons.mp hb with eb | hb'
      · exact (h1 (List.mem_map.mpr ⟨a, ha', by rw [← eb]; exact e⟩)).elim
      · exact nd_inj h2 ha' hb' e
theorem ga_inj (T : Tx K mg w) {c f d g : Str} (h : (c, f) ∈ ec) (h2 : (d, g) ∈ ec) (e : He.ga K c = He.ga K d) : c = d := by
  have q := nd_inj (g := fun p : Str × Str => He.ga K p.1) (List.nodup_cons.mp (addrs T)).2 h h2 e
  exact congrArg Prod.fst q
theorem kitE (T : Tx K mg w) {c f d g : Str} (h : (c, f) ∈ ec) (h2 : (d, g) ∈ ec) : PySem.W.kitOne K (.ref (He.ga K c)) (.ref (He.ga K d)) = some (decide (c = d)) := by
  unfold PySem.W.kitOne
  by_cases e : c = d
  · subst e
    rw [if_pos (beq_self_eq_true _), decide_eq_true rfl]
  · have ne : He.ga K c ≠ He.ga K d := fun z => e (ga_inj T h h2 z)
    have nv : (Value.ref (He.ga K c) == Value.ref (He.ga K d)) = false := by rw [beq_eq_false_iff_ne]; exact fun z => ne (Value.ref.inj z)
    have nv2 : (Value.ref (He.ga K d) == Value.ref (He.ga K c)) = false := by rw [beq_eq_false_iff_ne]; exact fun z => ne (Value.ref.inj z).symm
    have nl : (Value.ref (He.ga K d) == Value.ref (He.ga K "LeapError")) = false := by rw [beq_eq_false_iff_ne]; exact fun z => ga_LE T h2 (Value.ref.inj z)
    rw [nv, if_neg (by decide), decide_eq_false e]
    obtain ⟨cd, hc, hm⟩ := mroE T h
    obtain ⟨cd2, hc2, _⟩ := mroE T h2
    unfold PySem.W.kitCls
    dsimp only
    rw [hc2, (xE T h2).oex.tyC]
    unfold PySem.W.subIn PySem.W.mroIn
    dsimp only
    rw [hc, Option.bind_some, hm]
    simp only [Option.isSome_some, beq_self_eq_true, Bool.and_self, if_true, List.isEmpty_cons, Bool.false_eq_true, if_false, List.contains_cons, nv2, nl, Bool.false_or]
    rfl
theorem kitL (T : Tx K mg w) {c f : Str} (h : (c, f) ∈ ec) : PySem.W.kitOne K (.ref (He.ga K c)) (.ref (He.ga K "LeapError")) = some true := by
  unfold PySem.W.kitOne
  have nv : (Value.ref (He.ga K c) == Value.ref (He.ga K "LeapError")) = false := by rw [beq_eq_false_iff_ne]; exact fun z => ga_LE T h (Value.ref.inj z)
  rw [nv, if_neg (by decide)]
  obtain ⟨cd, hc, hm⟩ := mroE T h
  obtain ⟨q1, q2⟩ := Bool.and_eq_true_iff.mp (exAt T 4 rfl)
  unfold PySem.W.kitCls
  dsimp only
  rw [q1, of_decide_eq_true q2]
  unfold PySem.W.subIn PySem.W.mroIn
  dsimp only
  rw [hc, Option.bind_some, hm]
  simp only [beq_self_eq_true, Bool.and_self, if_true, List.isEmpty_cons, Bool.false_eq_true, if_false, List.contains_cons, Bool.true_or, Bool.or_true]
theorem kitV (T : Tx K mg w) {c f : Str} (h : (c, f) ∈ ec) : PySem.W.kitOne K (.ref (He.ga K c)) (.type "ValueError") = some true := by
  unfold PySem.W.kitOne
  rw [show (Value.ref (He.ga K c) == Value.type "ValueError") = false from rfl, if_neg (by decide)]
  obtain ⟨cd, hc, hm⟩ := mroE T h
  unfold PySem.W.kitCls
  dsimp only
  rw [show PySem.W.kitMeta "ValueError" = true by decide +kernel]
  unfold PySem.W.subIn PySem.W.mroIn
  dsimp only
  rw [hc, Option.bind_some, hm]
  simp only [if_true, List.isEmpty_cons, Bool.false_eq_true, if_false, List.contains_cons, beq_self_eq_true, Bool.true_or, Bool.or_true]

end
theorem kc_2 : Str.ofString "#.:ABCDabcd" = S [35, 46, 58, 65, 66, 67, 68, 97, 98, 99, 100] := by decide +kernel
theorem kc_3 : Str.ofString "abcd" = S [97, 98, 99, 100] := by decide +kernel
theorem kc_4 : Str.ofString ":ABCD" = S [58, 65, 66, 67, 68] := by decide +kernel
theorem kc_5 : Str.ofString "ABCDabcd" = S [65, 66, 67, 68, 97, 98, 99, 100] := by decide +kernel
theorem kc_7 : Str.ofString " !\"$&'()*+,-/0123456789;<=>?@EFGHIJKLMNOPQRSTUVWXYZ[\\]^_`" = S [32, 33, 34, 36, 38, 39, 40, 41, 42, 43, 44, 45, 47, 48, 49, 50, 51, 52, 53, 54, 55, 56, 57, 59, 60, 61, 62, 63, 64, 69, 70, 71, 72, 73, 74, 75, 76, 77, 78, 79, 80, 81, 82, 83, 84, 85, 86, 87, 88, 89, 90, 91, 92, 93, 94, 95, 96] := by decide +kernel
theorem kc_8 : Str.ofString "." = S [46] := by decide +kernel
theorem kc_9 : Str.ofString "#" = S [35] := by decide +kernel
theorem kc_10 : Str.ofString ":" = S [58] := by decide +kernel
theorem kc_11 : Str.ofString "ABCD" = S [65, 66, 67, 68] := by decide +kernel
theorem kc_12 : Str.ofString "efghijklmnopqrstuvwxyz{|}~\n\t" = S [101, 102, 103, 104, 105, 106, 107, 108, 109, 110, 111, 112, 113, 114, 115, 116, 117, 118, 119, 120, 121, 122, 123, 124, 125, 126, 10, 9] := by decide +kernel
theorem kc_13 : Str.ofString "#..abcdabcd" = S [35, 46, 46, 97, 98, 99, 100, 97, 98, 99, 100] := by decide +kernel
theorem kc_14 : Str.ofString "::ABCDABCD" = S [58, 58, 65, 66, 67, 68, 65, 66, 67, 68] := by decide +kernel
theorem kc_15 : Str.ofString "" = S [] := by decide +kernel
theorem kc_16 : Str.ofString "a sign is not allowed in this row: " = S [97, 32, 115, 105, 103, 110, 32, 105, 115, 32, 110, 111, 116, 32, 97, 108, 108, 111, 119, 101, 100, 32, 105, 110, 32, 116, 104, 105, 115, 32, 114, 111, 119, 58, 32] := by decide +kernel
theorem kc_17 : Str.ofString "no such place: " = S [110, 111, 32, 115, 117, 99, 104, 32, 112, 108, 97, 99, 101, 58, 32] := by decide +kernel
theorem kc_18 : Str.ofString "not a jump: " = S [110, 111, 116, 32, 97, 32, 106, 117, 109, 112, 58, 32] := by decide +kernel
theorem kc_19 : Str.ofString "wrong part of a card: " = S [119, 114, 111, 110, 103, 32, 112, 97, 114, 116, 32, 111, 102, 32, 97, 32, 99, 97, 114, 100, 58, 32] := by decide +kernel
theorem kc_20 : Str.ofString "not a board: " = S [110, 111, 116, 32, 97, 32, 98, 111, 97, 114, 100, 58, 32] := by decide +kernel
theorem kc_21 : Str.ofString "this move cannot be made: " = S [116, 104, 105, 115, 32, 109, 111, 118, 101, 32, 99, 97, 110, 110, 111, 116, 32, 98, 101, 32, 109, 97, 100, 101, 58, 32] := by decide +kernel
theorem kc_22 : Str.ofString "more than the limit: " = S [109, 111, 114, 101, 32, 116, 104, 97, 110, 32, 116, 104, 101, 32, 108, 105, 109, 105, 116, 58, 32] := by decide +kernel
theorem kc_23 : Str.ofString "wrong part of a machine: " = S [119, 114, 111, 110, 103, 32, 112, 97, 114, 116, 32, 111, 102, 32, 97, 32, 109, 97, 99, 104, 105, 110, 101, 58, 32] := by decide +kernel
theorem kc_24 : Str.ofString "signs that do not go together: " = S [115, 105, 103, 110, 115, 32, 116, 104, 97, 116, 32, 100, 111, 32, 110, 111, 116, 32, 103, 111, 32, 116, 111, 103, 101, 116, 104, 101, 114, 58, 32] := by decide +kernel
theorem kc_25 : Str.ofString "wrong character of a pattern at index: " = S [119, 114, 111, 110, 103, 32, 99, 104, 97, 114, 97, 99, 116, 101, 114, 32, 111, 102, 32, 97, 32, 112, 97, 116, 116, 101, 114, 110, 32, 97, 116, 32, 105, 110, 100, 101, 120, 58, 32] := by decide +kernel
theorem kc_26 : Str.ofString "wrong part of a target: " = S [119, 114, 111, 110, 103, 32, 112, 97, 114, 116, 32, 111, 102, 32, 97, 32, 116, 97, 114, 103, 101, 116, 58, 32] := by decide +kernel
theorem kc_27 : Str.ofString "the machine is not exact at this row: " = S [116, 104, 101, 32, 109, 97, 99, 104, 105, 110, 101, 32, 105, 115, 32, 110, 111, 116, 32, 101, 120, 97, 99, 116, 32, 97, 116, 32, 116, 104, 105, 115, 32, 114, 111, 119, 58, 32] := by decide +kernel
theorem kc_28 : Str.ofString "no exact machine with at most this many states: " = S [110, 111, 32, 101, 120, 97, 99, 116, 32, 109, 97, 99, 104, 105, 110, 101, 32, 119, 105, 116, 104, 32, 97, 116, 32, 109, 111, 115, 116, 32, 116, 104, 105, 115, 32, 109, 97, 110, 121, 32, 115, 116, 97, 116, 101, 115, 58, 32] := by decide +kernel
theorem kc_29 : Str.ofString "not a measure: " = S [110, 111, 116, 32, 97, 32, 109, 101, 97, 115, 117, 114, 101, 58, 32] := by decide +kernel
theorem kc_30 : Str.ofString "wrong part of a weight: " = S [119, 114, 111, 110, 103, 32, 112, 97, 114, 116, 32, 111, 102, 32, 97, 32, 119, 101, 105, 103, 104, 116, 58, 32] := by decide +kernel
theorem kc_31 : Str.ofString "not a sight: " = S [110, 111, 116, 32, 97, 32, 115, 105, 103, 104, 116, 58, 32] := by decide +kernel
theorem kc_32 : Str.ofString "not such a fact: " = S [110, 111, 116, 32, 115, 117, 99, 104, 32, 97, 32, 102, 97, 99, 116, 58, 32] := by decide +kernel
theorem kc_33 : Str.ofString "the quota does not allow this: " = S [116, 104, 101, 32, 113, 117, 111, 116, 97, 32, 100, 111, 101, 115, 32, 110, 111, 116, 32, 97, 108, 108, 111, 119, 32, 116, 104, 105, 115, 58, 32] := by decide +kernel
theorem kc_34 : Str.ofString "there are fewer such moves: " = S [116, 104, 101, 114, 101, 32, 97, 114, 101, 32, 102, 101, 119, 101, 114, 32, 115, 117, 99, 104, 32, 109, 111, 118, 101, 115, 58, 32] := by decide +kernel
theorem kc_35 : Str.ofString "not an option: " = S [110, 111, 116, 32, 97, 110, 32, 111, 112, 116, 105, 111, 110, 58, 32] := by decide +kernel
theorem kc_36 : Str.ofString ".:ABCDabcd" = S [46, 58, 65, 66, 67, 68, 97, 98, 99, 100] := by decide +kernel
theorem kc_37 : Str.ofString "stuck" = S [115, 116, 117, 99, 107] := by decide +kernel
end K00
namespace K00
open PySem PySem.Spec PyProof.Rows L2 Lc Evl
section
variable {P : Program} {w : World} {K : PySem.W.Frag} {mg : Str → Option Value} {base : Heap}
/-! ### the draws -/
def sp_law_take : Sp := fun vs H Q _ => ∃ (b : Addr) (many : Int), vs = [.ref b, .int many] ∧ Bx H b ∧ 0 < many ∧ many.natAbs < 2 ^ 128 ∧ ∀ d H', 0 ≤ d → d < many → ExB b H H' → Bx H' b → Q (.int d) H'
theorem ok_law_take (T : Tx K mg w) : OkD P w K mg base 1 d_law_take ps_law_take sp_law_take := by
  refine (h_law_take T).ok sc_law_take (fun vs H Q E h => ?_) (fun cdv A outer s H vs Q E hr h => ⟨_,
      (pss_cons (ps_if (pt_cmpR op_gt (pe_ix ix_list (pv 0) pe_int (fun _ _ => rfl)) pe_int (nomark _)) (pss_cons (ps_set (i := 3) sc_law_take.nd rfl (Or.inl rfl) (pe_op op_mod (pe_callTy call_int1 (by rfl) (m_int T) (by decide +kernel) (pa_cons (pe_ix ix_list (pv 0) pe_int (fun _ _ => rfl)) pa_nil)) (pv 1)))
      (pss_cons (ps_asg (pe_op op_fdivW (pe_ix ix_list (pv 0) pe_int (fun _ _ => rfl)) (pv 1)) (pg_sub (pv 0) pe_int set_list))
      (pss_one (ps_ret (pv 3))))) pss_nil)
      (pss_cons (ps_asg (pe_op op_add (pe_ix ix_list (pv 0) pe_int (fun _ _ => rfl)) pe_int) (pg_sub (pv 0) pe_int set_list))
      (pss_cons (ps_set (i := 2) sc_law_take.nd rfl (Or.inl rfl) (pe_op op_mod (pe_callTy call_int1 (by rfl) (m_int T) (by decide +kernel) (pa_cons (pe_op op_add (pe_op op_add (pe_op op_mul (pe_ix ix_list (pv 0) pe_int (fun _ _ => rfl)) pe_int) (pe_op op_mul (pe_ix ix_list (pv 0) pe_int (fun _ _ => rfl)) pe_int)) pe_int) pa_nil)) pe_int))
      (pss_cons (ps_set (i := 2) sc_law_take.nd rfl (Or.inl rfl) (pe_op op_mod (pe_callTy call_int1 (by rfl) (m_int T) (by decide +kernel) (pa_cons (pe_op op_add (pe_op op_mul (pv 2) (pv 2)) (pe_op op_mul (pe_ix ix_list (pv 0) pe_int (fun _ _ => rfl)) pe_int)) pa_nil)) pe_int))
      (pss_cons (ps_set (i := 2) sc_law_take.nd rfl (Or.inl rfl) (pe_op op_mod (pe_callTy call_int1 (by rfl) (m_int T) (by decide +kernel) (pa_cons (pe_op op_add (pe_op op_add (pe_op op_mul (pv 2) (pv 2)) (pe_op op_mul (pe_ix ix_list (pv 0) pe_int (fun _ _ => rfl)) pe_int)) pe_int) pa_nil)) pe_int))
      (pss_one (ps_ret (pe_op op_mod (pe_callTy call_int1 (by rfl) (m_int T) (by decide +kernel) (pa_cons (pe_op op_fdivW (pv 2) pe_int) pa_nil)) (pv 1))))))))), ?_⟩)
  · obtain ⟨b, many, rfl, _⟩ := h
    rfl
  · obtain ⟨b, many, rfl, ⟨i, j, k, hb⟩, hm, hm2, q⟩ := h
    have hs := SqL.of (K := K) hb
    refine q_when (by first | ((with_reducible apply et_test); (repeat' (first | ((with_reducible refine ev_pow10 ?_ ?_ ?_) <;> first | rfl | decide) | (with_reducible refine fun (_ : _ = true) => ?_) | (with_reducible refine fun (_ : _ = false) => ?_) | (with_reducible exact ev_c) | ((with_reducible apply ev_var); rfl) | (with_reducible apply ev_op) | (with_reducible apply ev_un) | (with_reducible apply ev_cb) | (with_reducible apply ea_cons) | (with_reducible apply ev_andV) | (with_reducible apply ev_orV) | (with_reducible apply ev_notV) | (with_reducible apply ev_if) | (with_reducible apply eo_some) | (with_reducible apply el_lst) | (with_reducible exact ea_nil) | (with_reducible exact rv_I0) | (with_reducible exact ru_neg) | (with_reducible exact rv_ltS) | (with_reducible exact rv_inC) | (with_reducible exact rv_notInC) | (with_reducible exact rc_intI) | (with_reducible exact rc_intB) | (with_reducible exact rc_min2) | (with_reducible exact rc_isStr) | (with_reducible exact eo_none) | (with_reducible exact rv_inSS) | (with_reducible exact rv_notInSS) | (with_reducible exact rv_ltSS) | (with_reducible exact rv_eqSS) | (with_reducible exact rv_eqII) | (with_reducible exact rv_neII) | (with_reducible exact rv_neSS) | ((with_reducible refine rc_lenSS ?_); (first | assumption | omega | decide | (simp only [S_len] at *; omega))) | ((with_reducible refine rc_lenStr ?_); (first | assumption | omega | decide | (simp only [S_len] at *; omega))) | ((with_reducible refine rv_catSS ?_); (first | assumption | omega | decide | (simp only [S_len] at *; omega))) | (with_reducible exact rv_eq rfl) | (with_reducible exact rv_ne rfl) | ((with_reducible refine rc_lenS ?_); (first | assumption | omega | decide | (simp only [S_len] at *; omega))) | ((with_reducible refine rc_lenL ?_); assumption) | ((with_reducible apply rv_ixL); assumption; rfl) | ((with_reducible refine rv_catS ?_); (first | assumption | omega | decide | (simp only [S_len] at *; omega))) | ((with_reducible refine rv_I ?_); (first | (show (0 : Int) < _; (first | assumption | omega | decide | (simp only [S_len] at *; omega))) | exact .inr ⟨by decide, by decide⟩ | exact .inl ⟨by (first | assumption | omega | decide | (simp only [S_len] at *; omega)), by (first | assumption | omega | decide | (simp only [S_len] at *; omega))⟩ | exact .inr ⟨by (first | assumption | omega | decide | (simp only [S_len] at *; omega)), by (first | assumption | omega | decide | (simp only [S_len] at *; omega))⟩ | exact ⟨by decide, by decide, by decide⟩ | exact wide_div (b := 128) (by (first | assumption | omega | decide | (simp only [S_len] at *; omega))) (by (first | assumption | omega | decide | (simp only [S_len] at *; omega))) (by decide) (by decide)))))) | ((with_reducible apply et_B); (repeat' (first | ((with_reducible refine ev_pow10 ?_ ?_ ?_) <;> first | rfl | decide) | (with_reducible refine fun (_ : _ = true) => ?_) | (with_reducible refine fun (_ : _ = false) => ?_) | (with_reducible exact ev_c) | ((with_reducible apply ev_var); rfl) | (with_reducible apply ev_op) | (with_reducible apply ev_un) | (with_reducible apply ev_cb) | (with_reducible apply ea_cons) | (with_reducible apply ev_andV) | (with_reducible apply ev_orV) | (with_reducible apply ev_notV) | (with_reducible apply ev_if) | (with_reducible apply eo_some) | (with_reducible apply el_lst) | (with_reducible exact ea_nil) | (with_reducible exact rv_I0) | (with_reducible exact ru_neg) | (with_reducible exact rv_ltS) | (with_reducible exact rv_inC) | (with_reducible exact rv_notInC) | (with_reducible exact rc_intI) | (with_reducible exact rc_intB) | (with_reducible exact rc_min2) | (with_reducible exact rc_isStr) | (with_reducible exact eo_none) | (with_reducible exact rv_inSS) | (with_reducible exact rv_notInSS) | (with_reducible exact rv_ltSS) | (with_reducible exact rv_eqSS) | (with_reducible exact rv_eqII) | (with_reducible exact rv_neII) | (with_reducible exact rv_neSS) | ((with_reducible refine rc_lenSS ?_); (first | assumption | omega | decide | (simp only [S_len] at *; omega))) | ((with_reducible refine rc_lenStr ?_); (first | assumption | omega | decide | (simp only [S_len] at *; omega))) | ((with_reducible refine rv_catSS ?_); (first | assumption | omega | decide | (simp only [S_len] at *; omega))) | (with_reducible exact rv_eq rfl) | (with_reducible exact rv_ne rfl) | ((with_reducible refine rc_lenS ?_); (first | assumption | omega | decide | (simp only [S_len] at *; omega))) | ((with_reducible refine rc_lenL ?_); assumption) | ((with_reducible apply rv_ixL); assumption; rfl) | ((with_reducible refine rv_catS ?_); (first | assumption | omega | decide | (simp only [S_len] at *; omega))) | ((with_reducible refine rv_I ?_); (first | (show (0 : Int) < _; (first | assumption | omega | decide | (simp only [S_len] at *; omega))) | exact .inr ⟨by decide, by decide⟩ | exact .inl ⟨by (first | assumption | omega | decide | (simp only [S_len] at *; omega)), by (first | assumption | omega | decide | (simp only [S_len] at *; omega))⟩ | exact .inr ⟨by (first | assumption | omega | decide | (simp only [S_len] at *; omega)), by (first | assumption | omega | decide | (simp only [S_len] at *; omega))⟩ | exact ⟨by decide, by decide, by decide⟩ | exact wide_div (b := 128) (by (first | assumption | omega | decide | (simp only [S_len] at *; omega))) (by (first | assumption | omega | decide | (simp only [S_len] at *; omega))) (by decide) (by decide))))))) (fun hc H1 e1 => ?_) (fun hc H1 e1 => ?_)
    · have hs1 := SqL.of (K := K) (e1 _ _ hb)
      refine q_asg (by repeat' (first | ((with_reducible refine ev_pow10 ?_ ?_ ?_) <;> first | rfl | decide) | (with_reducible refine fun (_ : _ = true) => ?_) | (with_reducible refine fun (_ : _ = false) => ?_) | (with_reducible exact ev_c) | ((with_reducible apply ev_var); rfl) | (with_reducible apply ev_op) | (with_reducible apply ev_un) | (with_reducible apply ev_cb) | (with_reducible apply ea_cons) | (with_reducible apply ev_andV) | (with_reducible apply ev_orV) | (with_reducible apply ev_notV) | (with_reducible apply ev_if) | (with_reducible apply eo_some) | (with_reducible apply el_lst) | (with_reducible exact ea_nil) | (with_reducible exact rv_I0) | (with_reducible exact ru_neg) | (with_reducible exact rv_ltS) | (with_reducible exact rv_inC) | (with_reducible exact rv_notInC) | (with_reducible exact rc_intI) | (with_reducible exact rc_intB) | (with_reducible exact rc_min2) | (with_reducible exact rc_isStr) | (with_reducible exact eo_none) | (with_reducible exact rv_inSS) | (with_reducible exact rv_notInSS) | (with_reducible exact rv_ltSS) | (with_reducible exact rv_eqSS) | (with_reducible exact rv_eqII) | (with_reducible exact rv_neII) | (with_reducible exact rv_neSS) | ((with_reducible refine rc_lenSS ?_); (first | assumption | omega | decide | (simp only [S_len] at *; omega))) | ((with_reducible refine rc_lenStr ?_); (first | assumption | omega | decide | (simp only [S_len] at *; omega))) | ((with_reducible refine rv_catSS ?_); (first | assumption | omega | decide | (simp only [S_len] at *; omega))) | (with_reducible exact rv_eq rfl) | (with_reducible exact rv_ne rfl) | ((with_reducible refine rc_lenS ?_); (first | assumption | omega | decide | (simp only [S_len] at *; omega))) | ((with_reducible refine rc_lenL ?_); assumption) | ((with_reducible apply rv_ixL); assumption; rfl) | ((with_reducible refine rv_catS ?_); (first | assumption | omega | decide | (simp only [S_len] at *; omega))) | ((with_reducible refine rv_I ?_); (first | (show (0 : Int) < _; (first | assumption | omega | decide | (simp only [S_len] at *; omega))) | exact .inr ⟨by decide, by decide⟩ | exact .inl ⟨by (first | assumption | omega | decide | (simp only [S_len] at *; omega)), by (first | assumption | omega | decide | (simp only [S_len] at *; omega))⟩ | exact .inr ⟨by (first | assumption | omega | decide | (simp only [S_len] at *; omega)), by (first | assumption | omega | decide | (simp only [S_len] at *; omega))⟩ | exact ⟨by decide, by decide, by decide⟩ | exact wide_div (b := 128) (by (first | assumption | omega | decide | (simp only [S_len] at *; omega))) (by (first | assumption | omega | decide | (simp only [S_len] at *; omega))) (by decide) (by decide))))) fun H2 e2 => ?_
      have hs2 := SqL.of (K := K) (e2 _ _ (e1 _ _ hb))
      refine q_setL (j := 0) (e2 _ _ (e1 _ _ hb)) (by repeat' (first | ((with_reducible refine ev_pow10 ?_ ?_ ?_) <;> first | rfl | decide) | (with_reducible refine fun (_ : _ = true) => ?_) | (with_reducible refine fun (_ : _ = false) => ?_) | (with_reducible exact ev_c) | ((with_reducible apply ev_var); rfl) | (with_reducible apply ev_op) | (with_reducible apply ev_un) | (with_reducible apply ev_cb) | (with_reducible apply ea_cons) | (with_reducible apply ev_andV) | (with_reducible apply ev_orV) | (with_reducible apply ev_notV) | (with_reducible apply ev_if) | (with_reducible apply eo_some) | (with_reducible apply el_lst) | (with_reducible exact ea_nil) | (with_reducible exact rv_I0) | (with_reducible exact ru_neg) | (with_reducible exact rv_ltS) | (with_reducible exact rv_inC) | (with_reducible exact rv_notInC) | (with_reducible exact rc_intI) | (with_reducible exact rc_intB) | (with_reducible exact rc_min2) | (with_reducible exact rc_isStr) | (with_reducible exact eo_none) | (with_reducible exact rv_inSS) | (with_reducible exact rv_notInSS) | (with_reducible exact rv_ltSS) | (with_reducible exact rv_eqSS) | (with_reducible exact rv_eqII) | (with_reducible exact rv_neII) | (with_reducible exact rv_neSS) | ((with_reducible refine rc_lenSS ?_); (first | assumption | omega | decide | (simp only [S_len] at *; omega))) | ((with_reducible refine rc_lenStr ?_); (first | assumption | omega | decide | (simp only [S_len] at *; omega))) | ((with_reducible refine rv_catSS ?_); (first | assumption | omega | decide | (simp only [S_len] at *; omega))) | (with_reducible exact rv_eq rfl) | (with_reducible exact rv_ne rfl) | ((with_reducible refine rc_lenS ?_); (first | assumption | omega | decide | (simp only [S_len] at *; omega))) | ((with_reducible refine rc_lenL ?_); assumption) | ((with_reducible apply rv_ixL); assumption; rfl) | ((with_reducible refine rv_catS ?_); (first | assumption | omega | decide | (simp only [S_len] at *; omega))) | ((with_reducible refine rv_I ?_); (first | (show (0 : Int) < _; (first | assumption | omega | decide | (simp only [S_len] at *; omega))) | exact .inr ⟨by decide, by decide⟩ | exact .inl ⟨by (first | assumption | omega | decide | (simp only [S_len] at *; omega)), by (first | assumption | omega | decide | (simp only [S_len] at *; omega))⟩ | exact .inr ⟨by (first | assumption | omega | decide | (simp only [S_len] at *; omega)), by (first | assumption | omega | decide | (simp only [S_len] at *; omega))⟩ | exact ⟨by decide, by decide, by decide⟩ | exact wide_div (b := 128) (by (first | assumption | omega | decide | (simp only [S_len] at *; omega))) (by (first | assumption | omega | decide | (simp only [S_len] at *; omega))) (by decide) (by decide))))) (by repeat' (first | ((with_reducible refine ev_pow10 ?_ ?_ ?_) <;> first | rfl | decide) | (with_reducible refine fun (_ : _ = true) => ?_) | (with_reducible refine fun (_ : _ = false) => ?_) | (with_reducible exact ev_c) | ((with_reducible apply ev_var); rfl) | (with_reducible apply ev_op) | (with_reducible apply ev_un) | (with_reducible apply ev_cb) | (with_reducible apply ea_cons) | (with_reducible apply ev_andV) | (with_reducible apply ev_orV) | (with_reducible apply ev_notV) | (with_reducible apply ev_if) | (with_reducible apply eo_some) | (with_reducible apply el_lst) | (with_reducible exact ea_nil) | (with_reducible exact rv_I0) | (with_reducible exact ru_neg) | (with_reducible exact rv_ltS) | (with_reducible exact rv_inC) | (with_reducible exact rv_notInC) | (with_reducible exact rc_intI) | (with_reducible exact rc_intB) | (with_reducible exact rc_min2) | (with_reducible exact rc_isStr) | (with_reducible exact eo_none) | (with_reducible exact rv_inSS) | (with_reducible exact rv_notInSS) | (with_reducible exact rv_ltSS) | (with_reducible exact rv_eqSS) | (with_reducible exact rv_eqII) | (with_reducible exact rv_neII) | (with_reducible exact rv_neSS) | ((with_reducible refine rc_lenSS ?_); (first | assumption | omega | decide | (simp only [S_len] at *; omega))) | ((with_reducible refine rc_lenStr ?_); (first | assumption | omega | decide | (simp only [S_len] at *; omega))) | ((with_reducible refine rv_catSS ?_); (first | assumption | omega | decide | (simp only [S_len] at *; omega))) | (with_reducible exact rv_eq rfl) | (with_reducible exact rv_ne rfl) | ((with_reducible refine rc_lenS ?_); (first | assumption | omega | decide | (simp only [S_len] at *; omega))) | ((with_reducible refine rc_lenL ?_); assumption) | ((with_reducible apply rv_ixL); assumption; rfl) | ((with_reducible refine rv_catS ?_); (first | assumption | omega | decide | (simp only [S_len] at *; omega))) | ((with_reducible refine rv_I ?_); (first | (show (0 : Int) < _; (first | assumption | omega | decide | (simp only [S_len] at *; omega))) | exact .inr ⟨by decide, by decide⟩ | exact .inl ⟨by (first | assumption | omega | decide | (simp only [S_len] at *; omega)), by (first | assumption | omega | decide | (simp only [S_len] at *; omega))⟩ | exact .inr ⟨by (first | assumption | omega | decide | (simp only [S_len] at *; omega)), by (first | assumption | omega | decide | (simp only [S_len] at *; omega))⟩ | exact ⟨by decide, by decide, by decide⟩ | exact wide_div (b := 128) (by (first | assumption | omega | decide | (simp only [S_len] at *; omega))) (by (first | assumption | omega | decide | (simp only [S_len] at *; omega))) (by decide) (by decide))))) ev_c (by simp) fun H3 e3 => ?_
      refine s_ret (by repeat' (first | ((with_reducible refine ev_pow10 ?_ ?_ ?_) <;> first | rfl | decide) | (with_reducible refine fun (_ : _ = true) => ?_) | (with_reducible refine fun (_ : _ = false) => ?_) | (with_reducible exact ev_c) | ((with_reducible apply ev_var); rfl) | (with_reducible apply ev_op) | (with_reducible apply ev_un) | (with_reducible apply ev_cb) | (with_reducible apply ea_cons) | (with_reducible apply ev_andV) | (with_reducible apply ev_orV) | (with_reducible apply ev_notV) | (with_reducible apply ev_if) | (with_reducible apply eo_some) | (with_reducible apply el_lst) | (with_reducible exact ea_nil) | (with_reducible exact rv_I0) | (with_reducible exact ru_neg) | (with_reducible exact rv_ltS) | (with_reducible exact rv_inC) | (with_reducible exact rv_notInC) | (with_reducible exact rc_intI) | (with_reducible exact rc_intB) | (with_reducible exact rc_min2) | (with_reducible exact rc_isStr) | (with_reducible exact eo_none) | (with_reducible exact rv_inSS) | (with_reducible exact rv_notInSS) | (with_reducible exact rv_ltSS) | (with_reducible exact rv_eqSS) | (with_reducible exact rv_eqII) | (with_reducible exact rv_neII) | (with_reducible exact rv_neSS) | ((with_reducible refine rc_lenSS ?_); (first | assumption | omega | decide | (simp only [S_len] at *; omega))) | ((with_reducible refine rc_lenStr ?_); (first | assumption | omega | decide | (simp only [S_len] at *; omega))) | ((with_reducible refine rv_catSS ?_); (first | assumption | omega | decide | (simp only [S_len] at *; omega))) | (with_reducible exact rv_eq rfl) | (with_reducible exact rv_ne rfl) | ((with_reducible refine rc_lenS ?_); (first | assumption | omega | decide | (simp only [S_len] at *; omega))) | ((with_reducible refine rc_lenL ?_); assumption) | ((with_reducible apply rv_ixL); assumption; rfl) | ((with_reducible refine rv_catS ?_); (first | assumption | omega | decide | (simp only [S_len] at *; omega))) | ((with_reducible refine rv_I ?_); (first | (show (0 : Int) < _; (first | assumption | omega | decide | (simp only [S_len] at *; omega))) | exact .inr ⟨by decide, by decide⟩ | exact .inl ⟨by (first | assumption | omega | decide | (simp only [S_len] at *; omega)), by (first | assumption | omega | decide | (simp only [S_len] at *; omega))⟩ | exact .inr ⟨by (first | assumption | omega | decide | (simp only [S_len] at *; omega)), by (first | assumption | omega | decide | (simp only [S_len] at *; omega))⟩ | exact ⟨by decide, by decide, by decide⟩ | exact wide_div (b := 128) (by (first | assumption | omega | decide | (simp only [S_len] at *; omega))) (by (first | assumption | omega | decide | (simp only [S_len] at *; omega))) (by decide) (by decide))))) fun H4 e4 => ?_
      refine q _ _ (Int.emod_nonneg _ (by omega)) (Int.emod_lt_of_pos _ hm) ?_ ?_
      · exact ((ExB.of ((e1.trans e2).trans e3)).trans ExB.upd).trans (ExB.of e4)
      · exact Bx.ex Bx.put e4
    · have hs1 := SqL.of (K := K) (e1 _ _ hb)
      refine q_setL (j := 1) (e1 _ _ hb) (by repeat' (first | ((with_reducible refine ev_pow10 ?_ ?_ ?_) <;> first | rfl | decide) | (with_reducible refine fun (_ : _ = true) => ?_) | (with_reducible refine fun (_ : _ = false) => ?_) | (with_reducible exact ev_c) | ((with_reducible apply ev_var); rfl) | (with_reducible apply ev_op) | (with_reducible apply ev_un) | (with_reducible apply ev_cb) | (with_reducible apply ea_cons) | (with_reducible apply ev_andV) | (with_reducible apply ev_orV) | (with_reducible apply ev_notV) | (with_reducible apply ev_if) | (with_reducible apply eo_some) | (with_reducible apply el_lst) | (with_reducible exact ea_nil) | (with_reducible exact rv_I0) | (with_reducible exact ru_neg) | (with_reducible exact rv_ltS) | (with_reducible exact rv_inC) | (with_reducible exact rv_notInC) | (with_reducible exact rc_intI) | (with_reducible exact rc_intB) | (with_reducible exact rc_min2) | (with_reducible exact rc_isStr) | (with_reducible exact eo_none) | (with_reducible exact rv_inSS) | (with_reducible exact rv_notInSS) | (with_reducible exact rv_ltSS) | (with_reducible exact rv_eqSS) | (with_reducible exact rv_eqII) | (with_reducible exact rv_neII) | (with_reducible exact rv_neSS) | ((with_reducible refine rc_lenSS ?_); (first | assumption | omega | decide | (simp only [S_len] at *; omega))) | ((with_reducible refine rc_lenStr ?_); (first | assumption | omega | decide | (simp only [S_len] at *; omega))) | ((with_reducible refine rv_catSS ?_); (first | assumption | omega | decide | (simp only [S_len] at *; omega))) | (with_reducible exact rv_eq rfl) | (with_reducible exact rv_ne rfl) | ((with_reducible refine rc_lenS ?_); (first | assumption | omega | decide | (simp only [S_len] at *; omega))) | ((with_reducible refine rc_lenL ?_); assumption) | ((with_reducible apply rv_ixL); assumption; rfl) | ((with_reducible refine rv_catS ?_); (first | assumption | omega | decide | (simp only [S_len] at *; omega))) | ((with_reducible refine rv_I ?_); (first | (show (0 : Int) < _; (first | assumption | omega | decide | (simp only [S_len] at *; omega))) | exact .inr ⟨by decide, by decide⟩ | exact .inl ⟨by (first | assumption | omega | decide | (simp only [S_len] at *; omega)), by (first | assumption | omega | decide | (simp only [S_len] at *; omega))⟩ | exact .inr ⟨by (first | assumption | omega | decide | (simp only [S_len] at *; omega)), by (first | assumption | omega | decide | (simp only [S_len] at *; omega))⟩ | exact ⟨by decide, by decide, by decide⟩ | exact wide_div (b := 128) (by (first | assumption | omega | decide | (simp only [S_len] at *; omega))) (by (first | assumption | omega | decide | (simp only [S_len] at *; omega))) (by decide) (by decide))))) (by repeat' (first | ((with_reducible refine ev_pow10 ?_ ?_ ?_) <;> first | rfl | decide) | (with_reducible refine fun (_ : _ = true) => ?_) | (with_reducible refine fun (_ : _ = false) => ?_) | (with_reducible exact ev_c) | ((with_reducible apply ev_var); rfl) | (with_reducible apply ev_op) | (with_reducible apply ev_un) | (with_reducible apply ev_cb) | (with_reducible apply ea_cons) | (with_reducible apply ev_andV) | (with_reducible apply ev_orV) | (with_reducible apply ev_notV) | (with_reducible apply ev_if) | (with_reducible apply eo_some) | (with_reducible apply el_lst) | (with_reducible exact ea_nil) | (with_reducible exact rv_I0) | (with_reducible exact ru_neg) | (with_reducible exact rv_ltS) | (with_reducible exact rv_inC) | (with_reducible exact rv_notInC) | (with_reducible exact rc_intI) | (with_reducible exact rc_intB) | (with_reducible exact rc_min2) | (with_reducible exact rc_isStr) | (with_reducible exact eo_none) | (with_reducible exact rv_inSS) | (with_reducible exact rv_notInSS) | (with_reducible exact rv_ltSS) | (with_reducible exact rv_eqSS) | (with_reducible exact rv_eqII) | (with_reducible exact rv_neII) | (with_reducible exact rv_neSS) | ((with_reducible refine rc_lenSS ?_); (first | assumption | omega | decide | (simp only [S_len] at *; omega))) | ((with_reducible refine rc_lenStr ?_); (first | assumption | omega | decide | (simp only [S_len] at *; omega))) | ((with_reducible refine rv_catSS ?_); (first | assumption | omega | decide | (simp only [S_len] at *; omega))) | (with_reducible exact rv_eq rfl) | (with_reducible exact rv_ne rfl) | ((with_reducible refine rc_lenS ?_); (first | assumption | omega | decide | (simp only [S_len] at *; omega))) | ((with_reducible refine rc_lenL ?_); assumption) | ((with_reducible apply rv_ixL); assumption; rfl) | ((with_reducible refine rv_catS ?_); (first | assumption | omega | decide | (simp only [S_len] at *; omega))) | ((with_reducible refine rv_I ?_); (first | (show (0 : Int) < _; (first | assumption | omega | decide | (simp only [S_len] at *; omega))) | exact .inr ⟨by decide, by decide⟩ | exact .inl ⟨by (first | assumption | omega | decide | (simp only [S_len] at *; omega)), by (first | assumption | omega | decide | (simp only [S_len] at *; omega))⟩ | exact .inr ⟨by (first | assumption | omega | decide | (simp only [S_len] at *; omega)), by (first | assumption | omega | decide | (simp only [S_len] at *; omega))⟩ | exact ⟨by decide, by decide, by decide⟩ | exact wide_div (b := 128) (by (first | assumption | omega | decide | (simp only [S_len] at *; omega))) (by (first | assumption | omega | decide | (simp only [S_len] at *; omega))) (by decide) (by decide))))) ev_c (by simp) fun H2 e2 => ?_
      have h2 : upd H2 b (.lst (List.set [V.int i, V.int j, V.int k] 1 (V.int (j + 1)))) b = some (.lst [V.int i, V.int (j + 1), V.int k]) := upd_same
      have hs2 := SqL.of (K := K) h2
      refine q_asg (by repeat' (first | ((with_reducible refine ev_pow10 ?_ ?_ ?_) <;> first | rfl | decide) | (with_reducible refine fun (_ : _ = true) => ?_) | (with_reducible refine fun (_ : _ = false) => ?_) | (with_reducible exact ev_c) | ((with_reducible apply ev_var); rfl) | (with_reducible apply ev_op) | (with_reducible apply ev_un) | (with_reducible apply ev_cb) | (with_reducible apply ea_cons) | (with_reducible apply ev_andV) | (with_reducible apply ev_orV) | (with_reducible apply ev_notV) | (with_reducible apply ev_if) | (with_reducible apply eo_some) | (with_reducible apply el_lst) | (with_reducible exact ea_nil) | (with_reducible exact rv_I0) | (with_reducible exact ru_neg) | (with_reducible exact rv_ltS) | (with_reducible exact rv_inC) | (with_reducible exact rv_notInC) | (with_reducible exact rc_intI) | (with_reducible exact rc_intB) | (with_reducible exact rc_min2) | (with_reducible exact rc_isStr) | (with_reducible exact eo_none) | (with_reducible exact rv_inSS) | (with_reducible exact rv_notInSS) | (with_reducible exact rv_ltSS) | (with_reducible exact rv_eqSS) | (with_reducible exact rv_eqII) | (with_reducible exact rv_neII) | (with_reducible exact rv_neSS) | ((with_reducible refine rc_lenSS ?_); (first | assumption | omega | decide | (simp only [S_len] at *; omega))) | ((with_reducible refine rc_lenStr ?_); (first | assumption | omega | decide | (simp only [S_len] at *; omega))) | ((with_reducible refine rv_catSS ?_); (first | assumption | omega | decide | (simp only [S_len] at *; omega))) | (with_reducible exact rv_eq rfl) | (with_reducible exact rv_ne rfl) | ((with_reducible refine rc_lenS ?_); (first | assumption | omega | decide | (simp only [S_len] at *; omega))) | ((with_reducible refine rc_lenL ?_); assumption) | ((with_reducible apply rv_ixL); assumption; rfl) | ((with_reducible refine rv_catS ?_); (first | assumption | omega | decide | (simp only [S_len] at *; omega))) | ((with_reducible refine rv_I ?_); (first | (show (0 : Int) < _; (first | assumption | omega | decide | (simp only [S_len] at *; omega))) | exact .inr ⟨by decide, by decide⟩ | exact .inl ⟨by (first | assumption | omega | decide | (simp only [S_len] at *; omega)), by (first | assumption | omega | decide | (simp only [S_len] at *; omega))⟩ | exact .inr ⟨by (first | assumption | omega | decide | (simp only [S_len] at *; omega)), by (first | assumption | omega | decide | (simp only [S_len] at *; omega))⟩ | exact ⟨by decide, by decide, by decide⟩ | exact wide_div (b := 128) (by (first | assumption | omega | decide | (simp only [S_len] at *; omega))) (by (first | assumption | omega | decide | (simp only [S_len] at *; omega))) (by decide) (by decide))))) fun H3 e3 => ?_
      have hs3 := SqL.of (K := K) (e3 _ _ h2)
      have b1 := Int.emod_nonneg (k * 48271 + (j + 1) * 69623 + 12347) (show (2147483647 : Int) ≠ 0 by decide)
      have b2 := Int.emod_lt_of_pos (k * 48271 + (j + 1) * 69623 + 12347) (show (0 : Int) < 2147483647 by decide)
      generalize (k * 48271 + (j + 1) * 69623 + 12347) % 2147483647 = m1 at b1 b2 ⊢
      refine q_asg (by repeat' (first | ((with_reducible refine ev_pow10 ?_ ?_ ?_) <;> first | rfl | decide) | (with_reducible refine fun (_ : _ = true) => ?_) | (with_reducible refine fun (_ : _ = false) => ?_) | (with_reducible exact ev_c) | ((with_reducible apply ev_var); rfl) | (with_reducible apply ev_op) | (with_reducible apply ev_un) | (with_reducible apply ev_cb) | (with_reducible apply ea_cons) | (with_reducible apply ev_andV) | (with_reducible apply ev_orV) | (with_reducible apply ev_notV) | (with_reducible apply ev_if) | (with_reducible apply eo_some) | (with_reducible apply el_lst) | (with_reducible exact ea_nil) | (with_reducible exact rv_I0) | (with_reducible exact ru_neg) | (with_reducible exact rv_ltS) | (with_reducible exact rv_inC) | (with_reducible exact rv_notInC) | (with_reducible exact rc_intI) | (with_reducible exact rc_intB) | (with_reducible exact rc_min2) | (with_reducible exact rc_isStr) | (with_reducible exact eo_none) | (with_reducible exact rv_inSS) | (with_reducible exact rv_notInSS) | (with_reducible exact rv_ltSS) | (with_reducible exact rv_eqSS) | (with_reducible exact rv_eqII) | (with_reducible exact rv_neII) | (with_reducible exact rv_neSS) | ((with_reducible refine rc_lenSS ?_); (first | assumption | omega | decide | (simp only [S_len] at *; omega))) | ((with_reducible refine rc_lenStr ?_); (first | assumption | omega | decide | (simp only [S_len] at *; omega))) | ((with_reducible refine rv_catSS ?_); (first | assumption | omega | decide | (simp only [S_len] at *; omega))) | (with_reducible exact rv_eq rfl) | (with_reducible exact rv_ne rfl) | ((with_reducible refine rc_lenS ?_); (first | assumption | omega | decide | (simp only [S_len] at *; omega))) | ((with_reducible refine rc_lenL ?_); assumption) | ((with_reducible apply rv_ixL); assumption; rfl) | ((with_reducible refine rv_catS ?_); (first | assumption | omega | decide | (simp only [S_len] at *; omega))) | ((with_reducible refine rv_I ?_); (first | (show (0 : Int) < _; (first | assumption | omega | decide | (simp only [S_len] at *; omega))) | exact .inr ⟨by decide, by decide⟩ | exact .inl ⟨by (first | assumption | omega | decide | (simp only [S_len] at *; omega)), by (first | assumption | omega | decide | (simp only [S_len] at *; omega))⟩ | exact .inr ⟨by (first | assumption | omega | decide | (simp only [S_len] at *; omega)), by (first | assumption | omega | decide | (simp only [S_len] at *; omega))⟩ | exact ⟨by decide, by decide, by decide⟩ | exact wide_div (b := 128) (by (first | assumption | omega | decide | (simp only [S_len] at *; omega))) (by (first | assumption | omega | decide | (simp only [S_len] at *; omega))) (by decide) (by decide))))) fun H4 e4 => ?_
      have hs4 := SqL.of (K := K) (e4 _ _ (e3 _ _ h2))
      have c1 := Int.emod_nonneg (m1 * m1 + (j + 1) * 40709) (show (2147483629 : Int) ≠ 0 by decide)
      have c2 := Int.emod_lt_of_pos (m1 * m1 + (j + 1) * 40709) (show (0 : Int) < 2147483629 by decide)
      generalize (m1 * m1 + (j + 1) * 40709) % 2147483629 = m2 at c1 c2 ⊢
      refine q_asg (by repeat' (first | ((with_reducible refine ev_pow10 ?_ ?_ ?_) <;> first | rfl | decide) | (with_reducible refine fun (_ : _ = true) => ?_) | (with_reducible refine fun (_ : _ = false) => ?_) | (with_reducible exact ev_c) | ((with_reducible apply ev_var); rfl) | (with_reducible apply ev_op) | (with_reducible apply ev_un) | (with_reducible apply ev_cb) | (with_reducible apply ea_cons) | (with_reducible apply ev_andV) | (with_reducible apply ev_orV) | (with_reducible apply ev_notV) | (with_reducible apply ev_if) | (with_reducible apply eo_some) | (with_reducible apply el_lst) | (with_reducible exact ea_nil) | (with_reducible exact rv_I0) | (with_reducible exact ru_neg) | (with_reducible exact rv_ltS) | (with_reducible exact rv_inC) | (with_reducible exact rv_notInC) | (with_reducible exact rc_intI) | (with_reducible exact rc_intB) | (with_reducible exact rc_min2) | (with_reducible exact rc_isStr) | (with_reducible exact eo_none) | (with_reducible exact rv_inSS) | (with_reducible exact rv_notInSS) | (with_reducible exact rv_ltSS) | (with_reducible exact rv_eqSS) | (with_reducible exact rv_eqII) | (with_reducible exact rv_neII) | (with_reducible exact rv_neSS) | ((with_reducible refine rc_lenSS ?_); (first | assumption | omega | decide | (simp only [S_len] at *; omega))) | ((with_reducible refine rc_lenStr ?_); (first | assumption | omega | decide | (simp only [S_len] at *; omega))) | ((with_reducible refine rv_catSS ?_); (first | assumption | omega | decide | (simp only [S_len] at *; omega))) | (with_reducible exact rv_eq rfl) | (with_reducible exact rv_ne rfl) | ((with_reducible refine rc_lenS ?_); (first | assumption | omega | decide | (simp only [S_len] at *; omega))) | ((with_reducible refine rc_lenL ?_); assumption) | ((with_reducible apply rv_ixL); assumption; rfl) | ((with_reducible refine rv_catS ?_); (first | assumption | omega | decide | (simp only [S_len] at *; omega))) | ((with_reducible refine rv_I ?_); (first | (show (0 : Int) < _; (first | assumption | omega | decide | (simp only [S_len] at *; omega))) | exact .inr ⟨by decide, by decide⟩ | exact .inl ⟨by (first | assumption | omega | decide | (simp only [S_len] at *; omega)), by (first | assumption | omega | decide | (simp only [S_len] at *; omega))⟩ | exact .inr ⟨by (first | assumption | omega | decide | (simp only [S_len] at *; omega)), by (first | assumption | omega | decide | (simp only [S_len] at *; omega))⟩ | exact ⟨by decide, by decide, by decide⟩ | exact wide_div (b := 128) (by (first | assumption | omega | decide | (simp only [S_len] at *; omega))) (by (first | assumption | omega | decide | (simp only [S_len] at *; omega))) (by decide) (by decide))))) fun H5 e5 => ?_
      refine s_ret (by repeat' (first | ((with_reducible refine ev_pow10 ?_ ?_ ?_) <;> first | rfl | decide) | (with_reducible refine fun (_ : _ = true) => ?_) | (with_reducible refine fun (_ : _ = false) => ?_) | (with_reducible exact ev_c) | ((with_reducible apply ev_var); rfl) | (with_reducible apply ev_op) | (with_reducible apply ev_un) | (with_reducible apply ev_cb) | (with_reducible apply ea_cons) | (with_reducible apply ev_andV) | (with_reducible apply ev_orV) | (with_reducible apply ev_notV) | (with_reducible apply ev_if) | (with_reducible apply eo_some) | (with_reducible apply el_lst) | (with_reducible exact ea_nil) | (with_reducible exact rv_I0) | (with_reducible exact ru_neg) | (with_reducible exact rv_ltS) | (with_reducible exact rv_inC) | (with_reducible exact rv_notInC) | (with_reducible exact rc_intI) | (with_reducible exact rc_intB) | (with_reducible exact rc_min2) | (with_reducible exact rc_isStr) | (with_reducible exact eo_none) | (with_reducible exact rv_inSS) | (with_reducible exact rv_notInSS) | (with_reducible exact rv_ltSS) | (with_reducible exact rv_eqSS) | (with_reducible exact rv_eqII) | (with_reducible exact rv_neII) | (with_reducible exact rv_neSS) | ((with_reducible refine rc_lenSS ?_); (first | assumption | omega | decide | (simp only [S_len] at *; omega))) | ((with_reducible refine rc_lenStr ?_); (first | assumption | omega | decide | (simp only [S_len] at *; omega))) | ((with_reducible refine rv_catSS ?_); (first | assumption | omega | decide | (simp only [S_len] at *; omega))) | (with_reducible exact rv_eq rfl) | (with_reducible exact rv_ne rfl) | ((with_reducible refine rc_lenS ?_); (first | assumption | omega | decide | (simp only [S_len] at *; omega))) | ((with_reducible refine rc_lenL ?_); assumption) | ((with_reducible apply rv_ixL); assumption; rfl) | ((with_reducible refine rv_catS ?_); (first | assumption | omega | decide | (simp only [S_len] at *; omega))) | ((with_reducible refine rv_I ?_); (first | (show (0 : Int) < _; (first | assumption | omega | decide | (simp only [S_len] at *; omega))) | exact .inr ⟨by decide, by decide⟩ | exact .inl ⟨by (first | assumption | omega | decide | (simp only [S_len] at *; omega)), by (first | assumption | omega | decide | (simp only [S_len] at *; omega))⟩ | exact .inr ⟨by (first | assumption | omega | decide | (simp only [S_len] at *; omega)), by (first | assumption | omega | decide | (simp only [S_len] at *; omega))⟩ | exact ⟨by decide, by decide, by decide⟩ | exact wide_div (b := 128) (by (first | assumption | omega | decide | (simp only [S_len] at *; omega))) (by (first | assumption | omega | decide | (simp only [S_len] at *; omega))) (by decide) (by decide))))) fun H6 e6 => ?_
      refine q _ _ (Int.emod_nonneg _ (by omega)) (Int.emod_lt_of_pos _ hm) ?_ ?_
      · exact ((ExB.of (e1.trans e2)).trans ExB.upd).trans (ExB.of (((e3.trans e4).trans e5).trans e6))
      · exact Bx.ex (Bx.ex Bx.put e3) ((e4.trans e5).trans e6)
theorem sp_take_then {σ : L2.St} {H : Hp} {b : Addr} {i : Nat} {te : TE} {many : Int} {E : XK} {Q : VK} (hv : σ[i]? = some (some (.ref b))) (hb : Bx H b) (he : Ev te σ H (.int many)) (h0 : 0 < many) (h1 : many.natAbs < 2 ^ 128)
    (k : ∀ d H', 0 ≤ d → d < many → ExB b H H' → Bx H' b → Q (.int d) H') : tCall sp_law_take [] E (tCons (tVar i) (tCons te tNil)) σ H Q :=
  ⟨_, hv, he H (Ex.refl H) _ fun H1 e1 => ⟨b, many, rfl, hb.ex e1, h0, h1, fun d H' d0 d1 x y => k d H' d0 d1 ((ExB.of e1).trans x) y⟩⟩
/-! ### cells and boxes -/
def cellV (ns : List Int) (at_ : Int) : Int := if at_ < (if (ns.length : Int) < 63 then (ns.length : Int) else 63) then ns.getD at_.toNat 0 else ((ns.take 1).sum % 1000003 * 7919 + at_ * 15485863 + 41)
def sp_law_cell (K : PySem.W.Frag) : Sp := fun vs H Q _ => ∃ (a : Addr) (ns : List Int) (at_ : Int), vs = [.ref a, .int at_] ∧ SqL K H a (ns.map V.int) ∧ 0 ≤ at_ ∧ at_ < 1000 ∧ RetV (.int (cellV ns at_)) H Q
theorem cut1 (ns : List Int) : cutV (ns.map V.int) none (some 1) = (ns.take 1).map V.int := by
  unfold cutV
  rw [HT.sIx_none, show (1 : Int) = ((1 : Nat) : Int) from rfl, HT.sIx_nat, List.drop_zero, Nat.sub_zero, List.length_map, ← List.map_take]
  cases ns with
  | nil => rfl
  | cons x r =>
    rw [Nat.min_eq_left (by simp)]
theorem ok_law_cell (T : Tx K mg w) : OkD P w K mg base 1 d_law_cell ps_law_cell (sp_law_cell K) := by
  refine (h_law_cell T).ok sc_law_cell (fun vs H Q E h => ?_) (fun cdv A outer s H vs Q E hr h => ⟨_,
      (pss_cons (ps_if (pt_cmpR op_lt (pv 1) (pe_callB (call_min2 rfl) (by rfl) (m_min T) (by decide +kernel) (pa_cons pe_int (pa_cons (pe_callB call_len (by rfl) (m_len T) (by decide +kernel) (pa_cons (pv 0) pa_nil)) pa_nil))) (nomark _)) (pss_one (ps_ret (pe_ix ix_list (pv 0) (pv 1) (fun _ _ => rfl)))) pss_nil)
      (pss_one (ps_ret (pe_op op_add (pe_op op_add (pe_op op_mul (pe_op op_mod (pe_callTy call_int1 (by rfl) (m_int T) (by decide +kernel) (pa_cons (pe_callB (cr_sum rfl) (by rfl) (m_sum T) (by decide +kernel) (pa_cons (pe_slice sl_list (pv 0) po_none (po_some pe_int)) pa_nil)) pa_nil)) pe_int) pe_int) (pe_op op_mul (pv 1) pe_int)) pe_int)))), ?_⟩)
  · obtain ⟨a, ns, at_, rfl, _⟩ := h
    rfl
  · obtain ⟨a, ns, at_, rfl, hs, h0, h1, q⟩ := h
    refine q_when (b := decide (at_ < (if (ns.length : Int) < 63 then (ns.length : Int) else 63))) ?_ (fun hc H1 e1 => ?_) (fun hc H1 e1 => ?_)
    · have hl := rc_lenL (K := K) hs
      rw [List.length_map] at hl
      exact et_test (ev_op (ev_var rfl) (ev_cb (ea_cons ev_c (ea_cons (ev_cb (ea_cons (ev_var rfl) ea_nil) hl) ea_nil)) rc_min2) rv_I0)
    · have hlt : at_ < (if (ns.length : Int) < 63 then (ns.length : Int) else 63) := of_decide_eq_true hc
      have hlt2 : at_ < ns.length := by
        split at hlt <;> omega
      have hg : (ns.map V.int).getD at_.toNat V.non = V.int (ns.getD at_.toNat 0) := by
        rw [List.getD_eq_getElem?_getD, List.getD_eq_getElem?_getD, List.getElem?_map, List.getElem?_eq_getElem (show at_.toNat < ns.length by omega)]
        rfl
      have ha := atI_i (xs := ns.map V.int) h0 (by rw [List.length_map]; exact hlt2) V.non
      rw [hg] at ha
      refine s_ret (ev_op (by exact ev_var rfl) (by exact ev_var rfl) (rv_ixL (ex_l e1 hs) ha)) fun H2 e2 => ?_
      have q2 := q H2 (e1.trans e2)
      unfold cellV at q2
      rw [if_pos hlt] at q2
      exact q2
    · have hge : ¬ at_ < (if (ns.length : Int) < 63 then (ns.length : Int) else 63) := of_decide_eq_false hc
      have hs1 := ex_l e1 hs
      have hcut : EvL (tSl (rSlL K) (tVar 0) tNoPart (tPart (tC (.int 1)))) (L2.start ns_law_cell [.ref a, .int at_]) H1 ((ns.take 1).map V.int) := by
        rw [← cut1]
        exact el_sl (ev_var rfl) eo_none (eo_some ev_c) hs1
      have hsum := ev_cbL hcut fun p H2 hp e => rc_sum (K := K) (ns := ns.take 1) (sq_of hp)
      have hint := ev_cb (ea_cons hsum ea_nil) rc_intI
      have hmod := ev_op hint (ev_c (v := .int 1000003)) (rv_I (C := fun _ j => 0 < j) (g := fun i j => .int (i % j)) (by decide))
      refine s_ret (v := .int ((ns.take 1).sum % 1000003 * 7919 + at_ * 15485863 + 41)) (ev_op (ev_op (ev_op hmod (by exact ev_c) (rv_I (.inr ⟨by decide, by decide⟩))) (by repeat' (first | ((with_reducible refine ev_pow10 ?_ ?_ ?_) <;> first | rfl | decide) | (with_reducible refine fun (_ : _ = true) => ?_) | (with_reducible refine fun (_ : _ = false) => ?_) | (with_reducible exact ev_c) | ((with_reducible apply ev_var); rfl) | (with_reducible apply ev_op) | (with_reducible apply ev_un) | (with_reducible apply ev_cb) | (with_reducible apply ea_cons) | (with_reducible apply ev_andV) | (with_reducible apply ev_orV) | (with_reducible apply ev_notV) | (with_reducible apply ev_if) | (with_reducible apply eo_some) | (with_reducible apply el_lst) | (with_reducible exact ea_nil) | (with_reducible exact rv_I0) | (with_reducible exact ru_neg) | (with_reducible exact rv_ltS) | (with_reducible exact rv_inC) | (with_reducible exact rv_notInC) | (with_reducible exact rc_intI) | (with_reducible exact rc_intB) | (with_reducible exact rc_min2) | (with_reducible exact rc_isStr) | (with_reducible exact eo_none) | (with_reducible exact rv_inSS) | (with_reducible exact rv_notInSS) | (with_reducible exact rv_ltSS) | (with_reducible exact rv_eqSS) | (with_reducible exact rv_eqII) | (with_reducible exact rv_neII) | (with_reducible exact rv_neSS) | ((with_reducible refine rc_lenSS ?_); (first | assumption | omega | decide | (simp only [S_len] at *; omega))) | ((with_reducible refine rc_lenStr ?_); (first | assumption | omega | decide | (simp only [S_len] at *; omega))) | ((with_reducible refine rv_catSS ?_); (first | assumption | omega | decide | (simp only [S_len] at *; omega))) | (with_reducible exact rv_eq rfl) | (with_reducible exact rv_ne rfl) | ((with_reducible refine rc_lenS ?_); (first | assumption | omega | decide | (simp only [S_len] at *; omega))) | ((with_reducible refine rc_lenL ?_); assumption) | ((with_reducible apply rv_ixL); assumption; rfl) | ((with_reducible refine rv_catS ?_); (first | assumption | omega | decide | (simp only [S_len] at *; omega))) | ((with_reducible refine rv_I ?_); (first | (show (0 : Int) < _; (first | assumption | omega | decide | (simp only [S_len] at *; omega))) | exact .inr ⟨by decide, by decide⟩ | exact .inl ⟨by (first | assumption | omega | decide | (simp only [S_len] at *; omega)), by (first | assumption | omega | decide | (simp only [S_len] at *; omega))⟩ | exact .inr ⟨by (first | assumption | omega | decide | (simp only [S_len] at *; omega)), by (first | assumption | omega | decide | (simp only [S_len] at *; omega))⟩ | exact ⟨by decide, by decide, by decide⟩ | exact wide_div (b := 128) (by (first | assumption | omega | decide | (simp only [S_len] at *; omega))) (by (first | assumption | omega | decide | (simp only [S_len] at *; omega))) (by decide) (by decide))))) rv_I0) (by exact ev_c) rv_I0) fun H2 e2 => ?_
      have q2 := q H2 (e1.trans e2)
      unfold cellV at q2
      rw [if_neg hge] at q2
      exact q2
def boxV (ns : List Int) (at_ : Int) : List V := [.int (if decide ((1000000000000000000 : Int) ≤ cellV ns at_) then cellV ns at_ else 0), .int 0, .int ((cellV ns at_ + at_ * 104729) % 2147483647)]
def sp_law_box (K : PySem.W.Frag) : Sp := fun vs H Q _ => ∃ (a : Addr) (ns : List Int) (at_ : Int), vs = [.ref a, .int at_] ∧ SqL K H a (ns.map V.int) ∧ 0 ≤ at_ ∧ at_ < 1000 ∧ ∀ p H', H p = none → Ex H H' → Bx H' p → Q (.ref p) H'
theorem ok_law_box (T : Tx K mg w) : OkD P w K mg base 2 d_law_box ps_law_box (sp_law_box K) := by
  refine (h_law_box T).ok sc_law_box (fun vs H Q E h => ?_) (fun cdv A outer s H vs Q E hr h => ⟨_,
      (pss_cons (ps_set (i := 2) sc_law_box.nd rfl (Or.inl rfl) (pe_call (ok_law_cell (P := P) (w := w) (base := base) T) (hr.mono (by decide)) (by rfl) (m_law_cell T) (k_law_cell T) (b_law_cell T) .nil passN (pa_cons (pv 0) (pa_cons (pv 1) pa_nil))))
      (pss_cons (ps_set (i := 3) sc_law_box.nd rfl (Or.inl rfl) (pe_op op_mod (pe_callTy call_int1 (by rfl) (m_int T) (by decide +kernel) (pa_cons (pe_op op_add (pv 2) (pe_op op_mul (pv 1) pe_int)) pa_nil)) pe_int))
      (pss_cons (ps_if (pt_cmpR op_ge (pv 2) (pe_op op_pow pe_int pe_int) (nomark _)) (pss_one (ps_ret (pe_lst (pa_cons (pv 2) (pa_cons pe_int (pa_cons (pv 3) pa_nil)))))) pss_nil)
      (pss_one (ps_ret (pe_lst (pa_cons pe_int (pa_cons pe_int (pa_cons (pv 3) pa_nil))))))))), ?_⟩)
  · obtain ⟨a, ns, at_, rfl, _⟩ := h
    rfl
  · obtain ⟨a, ns, at_, rfl, hs, h0, h1, q⟩ := h
    refine q_asg (v := .int (cellV ns at_)) (ev_call (by repeat' (first | ((with_reducible refine ev_pow10 ?_ ?_ ?_) <;> first | rfl | decide) | (with_reducible refine fun (_ : _ = true) => ?_) | (with_reducible refine fun (_ : _ = false) => ?_) | (with_reducible exact ev_c) | ((with_reducible apply ev_var); rfl) | (with_reducible apply ev_op) | (with_reducible apply ev_un) | (with_reducible apply ev_cb) | (with_reducible apply ea_cons) | (with_reducible apply ev_andV) | (with_reducible apply ev_orV) | (with_reducible apply ev_notV) | (with_reducible apply ev_if) | (with_reducible apply eo_some) | (with_reducible apply el_lst) | (with_reducible exact ea_nil) | (with_reducible exact rv_I0) | (with_reducible exact ru_neg) | (with_reducible exact rv_ltS) | (with_reducible exact rv_inC) | (with_reducible exact rv_notInC) | (with_reducible exact rc_intI) | (with_reducible exact rc_intB) | (with_reducible exact rc_min2) | (with_reducible exact rc_isStr) | (with_reducible exact eo_none) | (with_reducible exact rv_inSS) | (with_reducible exact rv_notInSS) | (with_reducible exact rv_ltSS) | (with_reducible exact rv_eqSS) | (with_reducible exact rv_eqII) | (with_reducible exact rv_neII) | (with_reducible exact rv_neSS) | ((with_reducible refine rc_lenSS ?_); (first | assumption | omega | decide | (simp only [S_len] at *; omega))) | ((with_reducible refine rc_lenStr ?_); (first | assumption | omega | decide | (simp only [S_len] at *; omega))) | ((with_reducible refine rv_catSS ?_); (first | assumption | omega | decide | (simp only [S_len] at *; omega))) | (with_reducible exact rv_eq rfl) | (with_reducible exact rv_ne rfl) | ((with_reducible refine rc_lenS ?_); (first | assumption | omega | decide | (simp only [S_len] at *; omega))) | ((with_reducible refine rc_lenL ?_); assumption) | ((with_reducible apply rv_ixL); assumption; rfl) | ((with_reducible refine rv_catS ?_); (first | assumption | omega | decide | (simp only [S_len] at *; omega))) | ((with_reducible refine rv_I ?_); (first | (show (0 : Int) < _; (first | assumption | omega | decide | (simp only [S_len] at *; omega))) | exact .inr ⟨by decide, by decide⟩ | exact .inl ⟨by (first | assumption | omega | decide | (simp only [S_len] at *; omega)), by (first | assumption | omega | decide | (simp only [S_len] at *; omega))⟩ | exact .inr ⟨by (first | assumption | omega | decide | (simp only [S_len] at *; omega)), by (first | assumption | omega | decide | (simp only [S_len] at *; omega))⟩ | exact ⟨by decide, by decide, by decide⟩ | exact wide_div (b := 128) (by (first | assumption | omega | decide | (simp only [S_len] at *; omega))) (by (first | assumption | omega | decide | (simp only [S_len] at *; omega))) (by decide) (by decide))))) fun H1 e1 Q1 q1 E1 => ⟨a, ns, at_, rfl, ex_l e1 hs, h0, h1, q1⟩) fun H1 e1 => ?_
    generalize cellV ns at_ = cl
    refine q_asg (v := .int ((cl + at_ * 104729) % 2147483647)) (by repeat' (first | ((with_reducible refine ev_pow10 ?_ ?_ ?_) <;> first | rfl | decide) | (with_reducible refine fun (_ : _ = true) => ?_) | (with_reducible refine fun (_ : _ = false) => ?_) | (with_reducible exact ev_c) | ((with_reducible apply ev_var); rfl) | (with_reducible apply ev_op) | (with_reducible apply ev_un) | (with_reducible apply ev_cb) | (with_reducible apply ea_cons) | (with_reducible apply ev_andV) | (with_reducible apply ev_orV) | (with_reducible apply ev_notV) | (with_reducible apply ev_if) | (with_reducible apply eo_some) | (with_reducible apply el_lst) | (with_reducible exact ea_nil) | (with_reducible exact rv_I0) | (with_reducible exact ru_neg) | (with_reducible exact rv_ltS) | (with_reducible exact rv_inC) | (with_reducible exact rv_notInC) | (with_reducible exact rc_intI) | (with_reducible exact rc_intB) | (with_reducible exact rc_min2) | (with_reducible exact rc_isStr) | (with_reducible exact eo_none) | (with_reducible exact rv_inSS) | (with_reducible exact rv_notInSS) | (with_reducible exact rv_ltSS) | (with_reducible exact rv_eqSS) | (with_reducible exact rv_eqII) | (with_reducible exact rv_neII) | (with_reducible exact rv_neSS) | ((with_reducible refine rc_lenSS ?_); (first | assumption | omega | decide | (simp only [S_len] at *; omega))) | ((with_reducible refine rc_lenStr ?_); (first | assumption | omega | decide | (simp only [S_len] at *; omega))) | ((with_reducible refine rv_catSS ?_); (first | assumption | omega | decide | (simp only [S_len] at *; omega))) | (with_reducible exact rv_eq rfl) | (with_reducible exact rv_ne rfl) | ((with_reducible refine rc_lenS ?_); (first | assumption | omega | decide | (simp only [S_len] at *; omega))) | ((with_reducible refine rc_lenL ?_); assumption) | ((with_reducible apply rv_ixL); assumption; rfl) | ((with_reducible refine rv_catS ?_); (first | assumption | omega | decide | (simp only [S_len] at *; omega))) | ((with_reducible refine rv_I ?_); (first | (show (0 : Int) < _; (first | assumption | omega | decide | (simp only [S_len] at *; omega))) | exact .inr ⟨by decide, by decide⟩ | exact .inl ⟨by (first | assumption | omega | decide | (simp only [S_len] at *; omega)), by (first | assumption | omega | decide | (simp only [S_len] at *; omega))⟩ | exact .inr ⟨by (first | assumption | omega | decide | (simp only [S_len] at *; omega)), by (first | assumption | omega | decide | (simp only [S_len] at *; omega))⟩ | exact ⟨by decide, by decide, by decide⟩ | exact wide_div (b := 128) (by (first | assumption | omega | decide | (simp only [S_len] at *; omega))) (by (first | assumption | omega | decide | (simp only [S_len] at *; omega))) (by decide) (by decide))))) fun H2 e2 => ?_
    refine q_when (b := decide ((1000000000000000000 : Int) ≤ cl)) ?_ (fun hc H3 e3 => ?_) (fun hc H3 e3 => ?_)
    · exact et_test (ev_op (ev_var rfl) (ev_pow10 (by decide) (by decide) (by decide)) rv_I0)
    · exact s_retL (el_lst (by repeat' (first | ((with_reducible refine ev_pow10 ?_ ?_ ?_) <;> first | rfl | decide) | (with_reducible refine fun (_ : _ = true) => ?_) | (with_reducible refine fun (_ : _ = false) => ?_) | (with_reducible exact ev_c) | ((with_reducible apply ev_var); rfl) | (with_reducible apply ev_op) | (with_reducible apply ev_un) | (with_reducible apply ev_cb) | (with_reducible apply ea_cons) | (with_reducible apply ev_andV) | (with_reducible apply ev_orV) | (with_reducible apply ev_notV) | (with_reducible apply ev_if) | (with_reducible apply eo_some) | (with_reducible apply el_lst) | (with_reducible exact ea_nil) | (with_reducible exact rv_I0) | (with_reducible exact ru_neg) | (with_reducible exact rv_ltS) | (with_reducible exact rv_inC) | (with_reducible exact rv_notInC) | (with_reducible exact rc_intI) | (with_reducible exact rc_intB) | (with_reducible exact rc_min2) | (with_reducible exact rc_isStr) | (with_reducible exact eo_none) | (with_reducible exact rv_inSS) | (with_reducible exact rv_notInSS) | (with_reducible exact rv_ltSS) | (with_reducible exact rv_eqSS) | (with_reducible exact rv_eqII) | (with_reducible exact rv_neII) | (with_reducible exact rv_neSS) | ((with_reducible refine rc_lenSS ?_); (first | assumption | omega | decide | (simp only [S_len] at *; omega))) | ((with_reducible refine rc_lenStr ?_); (first | assumption | omega | decide | (simp only [S_len] at *; omega))) | ((with_reducible refine rv_catSS ?_); (first | assumption | omega | decide | (simp only [S_len] at *; omega))) | (with_reducible exact rv_eq rfl) | (with_reducible exact rv_ne rfl) | ((with_reducible refine rc_lenS ?_); (first | assumption | omega | decide | (simp only [S_len] at *; omega))) | ((with_reducible refine rc_lenL ?_); assumption) | ((with_reducible apply rv_ixL); assumption; rfl) | ((with_reducible refine rv_catS ?_); (first | assumption | omega | decide | (simp only [S_len] at *; omega))) | ((with_reducible refine rv_I ?_); (first | (show (0 : Int) < _; (first | assumption | omega | decide | (simp only [S_len] at *; omega))) | exact .inr ⟨by decide, by decide⟩ | exact .inl ⟨by (first | assumption | omega | decide | (simp only [S_len] at *; omega)), by (first | assumption | omega | decide | (simp only [S_len] at *; omega))⟩ | exact .inr ⟨by (first | assumption | omega | decide | (simp only [S_len] at *; omega)), by (first | assumption | omega | decide | (simp only [S_len] at *; omega))⟩ | exact ⟨by decide, by decide, by decide⟩ | exact wide_div (b := 128) (by (first | assumption | omega | decide | (simp only [S_len] at *; omega))) (by (first | assumption | omega | decide | (simp only [S_len] at *; omega))) (by decide) (by decide))))) (by simp)) fun p H4 hp e4 h4 => q p H4 (fresh_back ((e1.trans e2).trans e3) hp) (((e1.trans e2).trans e3).trans e4) ⟨_, _, _, h4⟩
    · exact s_retL (el_lst (by repeat' (first | ((with_reducible refine ev_pow10 ?_ ?_ ?_) <;> first | rfl | decide) | (with_reducible refine fun (_ : _ = true) => ?_) | (with_reducible refine fun (_ : _ = false) => ?_) | (with_reducible exact ev_c) | ((with_reducible apply ev_var); rfl) | (with_reducible apply ev_op) | (with_reducible apply ev_un) | (with_reducible apply ev_cb) | (with_reducible apply ea_cons) | (with_reducible apply ev_andV) | (with_reducible apply ev_orV) | (with_reducible apply ev_notV) | (with_reducible apply ev_if) | (with_reducible apply eo_some) | (with_reducible apply el_lst) | (with_reducible exact ea_nil) | (with_reducible exact rv_I0) | (with_reducible exact ru_neg) | (with_reducible exact rv_ltS) | (with_reducible exact rv_inC) | (with_reducible exact rv_notInC) | (with_reducible exact rc_intI) | (with_reducible exact rc_intB) | (with_reducible exact rc_min2) | (with_reducible exact rc_isStr) | (with_reducible exact eo_none) | (with_reducible exact rv_inSS) | (with_reducible exact rv_notInSS) | (with_reducible exact rv_ltSS) | (with_reducible exact rv_eqSS) | (with_reducible exact rv_eqII) | (with_reducible exact rv_neII) | (with_reducible exact rv_neSS) | ((with_reducible refine rc_lenSS ?_); (first | assumption | omega | decide | (simp only [S_len] at *; omega))) | ((with_reducible refine rc_lenStr ?_); (first | assumption | omega | decide | (simp only [S_len] at *; omega))) | ((with_reducible refine rv_catSS ?_); (first | assumption | omega | decide | (simp only [S_len] at *; omega))) | (with_reducible exact rv_eq rfl) | (with_reducible exact rv_ne rfl) | ((with_reducible refine rc_lenS ?_); (first | assumption | omega | decide | (simp only [S_len] at *; omega))) | ((with_reducible refine rc_lenL ?_); assumption) | ((with_reducible apply rv_ixL); assumption; rfl) | ((with_reducible refine rv_catS ?_); (first | assumption | omega | decide | (simp only [S_len] at *; omega))) | ((with_reducible refine rv_I ?_); (first | (show (0 : Int) < _; (first | assumption | omega | decide | (simp only [S_len] at *; omega))) | exact .inr ⟨by decide, by decide⟩ | exact .inl ⟨by (first | assumption | omega | decide | (simp only [S_len] at *; omega)), by (first | assumption | omega | decide | (simp only [S_len] at *; omega))⟩ | exact .inr ⟨by (first | assumption | omega | decide | (simp only [S_len] at *; omega)), by (first | assumption | omega | decide | (simp only [S_len] at *; omega))⟩ | exact ⟨by decide, by decide, by decide⟩ | exact wide_div (b := 128) (by (first | assumption | omega | decide | (simp only [S_len] at *; omega))) (by (first | assumption | omega | decide | (simp only [S_len] at *; omega))) (by decide) (by decide))))) (by simp)) fun p H4 hp e4 h4 => q p H4 (fresh_back ((e1.trans e2).trans e3) hp) (((e1.trans e2).trans e3).trans e4) ⟨_, _, _, h4⟩
/-! ### the law's own small defs -/
def sp_law_text : Sp := fun vs H Q _ => ∃ a b : List Nat, vs = [.str (S a), .str (S b)] ∧ RetV (.bl (decide (a = b))) H Q
theorem ok_law_text (T : Tx K mg w) : OkD P w K mg base 1 d_law_text ps_law_text sp_law_text := by
  refine (h_law_text T).ok sc_law_text (fun vs H Q E h => ?_) (fun cdv A outer s H vs Q E hr h => ⟨_,
      (pss_one (ps_ret (pe_and (pe_callB call_isi (by rfl) (m_isinstance T) (by decide +kernel) (pa_cons (pv 0) (pa_cons (pe_bltn (v := .ty "str") (u := .type "str") (by rfl) (m_str T) (by decide +kernel) rfl) pa_nil))) (pe_one (pe_cmpR op_eq (pv 0) (pv 1) (nomark _)))))), ?_⟩)
  · obtain ⟨a, b, rfl, _⟩ := h
    rfl
  · obtain ⟨a, b, rfl, q⟩ := h
    exact s_ret (v := .bl (true && decide (a = b))) (by repeat' (first | ((with_reducible refine ev_pow10 ?_ ?_ ?_) <;> first | rfl | decide) | (with_reducible refine fun (_ : _ = true) => ?_) | (with_reducible refine fun (_ : _ = false) => ?_) | (with_reducible exact ev_c) | ((with_reducible apply ev_var); rfl) | (with_reducible apply ev_op) | (with_reducible apply ev_un) | (with_reducible apply ev_cb) | (with_reducible apply ea_cons) | (with_reducible apply ev_andV) | (with_reducible apply ev_orV) | (with_reducible apply ev_notV) | (with_reducible apply ev_if) | (with_reducible apply eo_some) | (with_reducible apply el_lst) | (with_reducible exact ea_nil) | (with_reducible exact rv_I0) | (with_reducible exact ru_neg) | (with_reducible exact rv_ltS) | (with_reducible exact rv_inC) | (with_reducible exact rv_notInC) | (with_reducible exact rc_intI) | (with_reducible exact rc_intB) | (with_reducible exact rc_min2) | (with_reducible exact rc_isStr) | (with_reducible exact eo_none) | (with_reducible exact rv_inSS) | (with_reducible exact rv_notInSS) | (with_reducible exact rv_ltSS) | (with_reducible exact rv_eqSS) | (with_reducible exact rv_eqII) | (with_reducible exact rv_neII) | (with_reducible exact rv_neSS) | ((with_reducible refine rc_lenSS ?_); (first | assumption | omega | decide | (simp only [S_len] at *; omega))) | ((with_reducible refine rc_lenStr ?_); (first | assumption | omega | decide | (simp only [S_len] at *; omega))) | ((with_reducible refine rv_catSS ?_); (first | assumption | omega | decide | (simp only [S_len] at *; omega))) | (with_reducible exact rv_eq rfl) | (with_reducible exact rv_ne rfl) | ((with_reducible refine rc_lenS ?_); (first | assumption | omega | decide | (simp only [S_len] at *; omega))) | ((with_reducible refine rc_lenL ?_); assumption) | ((with_reducible apply rv_ixL); assumption; rfl) | ((with_reducible refine rv_catS ?_); (first | assumption | omega | decide | (simp only [S_len] at *; omega))) | ((with_reducible refine rv_I ?_); (first | (show (0 : Int) < _; (first | assumption | omega | decide | (simp only [S_len] at *; omega))) | exact .inr ⟨by decide, by decide⟩ | exact .inl ⟨by (first | assumption | omega | decide | (simp only [S_len] at *; omega)), by (first | assumption | omega | decide | (simp only [S_len] at *; omega))⟩ | exact .inr ⟨by (first | assumption | omega | decide | (simp only [S_len] at *; omega)), by (first | assumption | omega | decide | (simp only [S_len] at *; omega))⟩ | exact ⟨by decide, by decide, by decide⟩ | exact wide_div (b := 128) (by (first | assumption | omega | decide | (simp only [S_len] at *; omega))) (by (first | assumption | omega | decide | (simp only [S_len] at *; omega))) (by decide) (by decide))))) fun H1 e1 => q H1 e1
/-! ### signs -/
def SG : List Nat := [35, 46, 58, 65, 66, 67, 68, 97, 98, 99, 100]
theorem sg_eq : (V.str "#.:ABCDabcd" : V) = V.str (S SG) := congrArg V.str (by decide +kernel)
def Good (l : List Nat) : Prop := ∀ c ∈ l, c ∈ SG
def Row (l : List Nat) : Prop := l.length ≤ 1000 ∧ ∀ c ∈ l, c < 128
theorem rc_isInt {H : Hp} {i : Int} : RC (rIsi K) [.int i, .ty "int"] H (.bl true) := fun H1 _ _ q => ⟨.int i, .ty "int", .type "int", .type "int", true, rfl, .ty _, .base (.int _), kit_ty (by decide +kernel), q H1 (Ex.refl H1)⟩
theorem rc_isIntB {H : Hp} {i : Int} : RC (rIsi K) [.int i, .ty "bool"] H (.bl false) := fun H1 _ _ q => ⟨.int i, .ty "bool", .type "int", .type "bool", false, rfl, .ty _, .base (.int _), kit_ty (by decide +kernel), q H1 (Ex.refl H1)⟩
def sp_law_whole : Sp := fun vs H Q _ => ∃ i : Int, vs = [.int i] ∧ RetV (.bl true) H Q
theorem ok_law_whole (T : Tx K mg w) : OkD P w K mg base 1 d_law_whole ps_law_whole sp_law_whole := by
  refine (h_law_whole T).ok sc_law_whole (fun vs H Q E h => ?_) (fun cdv A outer s H vs Q E hr h => ⟨_,
      (pss_one (ps_ret (pe_and (pe_callB call_isi (by rfl) (m_isinstance T) (by decide +kernel) (pa_cons (pv 0) (pa_cons (pe_bltn (v := .ty "int") (u := .type "int") (by rfl) (m_int T) (by decide +kernel) rfl) pa_nil))) (pe_one (pe_not (pe_callB call_isi (by rfl) (m_isinstance T) (by decide +kernel) (pa_cons (pv 0) (pa_cons (pe_bltn (v := .ty "bool") (u := .type "bool") (by rfl) (m_bool T) (by decide +kernel) rfl) pa_nil)))))))), ?_⟩)
  · obtain ⟨i, rfl, _⟩ := h
    rfl
  · obtain ⟨i, rfl, q⟩ := h
    exact s_ret (v := .bl (true && !false)) (ev_andV (ev_cb (ea_cons (by exact ev_var rfl) (ea_cons ev_c ea_nil)) rc_isInt) fun _ => ev_notV (ev_cb (ea_cons (by exact ev_var rfl) (ea_cons ev_c ea_nil)) rc_isIntB)) fun H1 e1 => q H1 e1
end
end K00
namespace K00
open PySem PySem.Spec PyProof.Rows L2 Lc Evl
section
variable {P : Program} {w : World} {K : PySem.W.Frag} {mg : Str → Option Value} {base : Heap}
def bel (c : Nat) (k : Int) (w d : Bool) : Bool := if c = 35 then w else if c = 46 then true else if c = 58 then d else if c ∈ [65, 66, 67, 68] then (d && decide (((c - 65 : Nat) : Int) < k)) else decide (((c - 97 : Nat) : Int) < k)
def sp_law_belongs : Sp := fun vs H Q _ => ∃ (c : Nat) (k : Int) (w d : Bool), vs = [.str (S [c]), .int k, .bl w, .bl d] ∧ c ∈ SG ∧ RetV (.bl (bel c k w d)) H Q
theorem idx_up : ∀ c ∈ [65, 66, 67, 68], Txt.index0 (S [65, 66, 67, 68]) (S [c]) = some (c - 65) := by decide +kernel
theorem idx_low : ∀ c ∈ [97, 98, 99, 100], Txt.index0 (S [97, 98, 99, 100]) (S [c]) = some (c - 97) := by decide +kernel
theorem sg_rest : ∀ c ∈ SG, c ≠ 35 → c ≠ 46 → c ≠ 58 → c ∉ [65, 66, 67, 68] → c ∈ [97, 98, 99, 100] := by decide +kernel
theorem sg1 {c a : Nat} : decide ([c] = [a]) = decide (c = a) := by simp
theorem ok_law_belongs (T : Tx K mg w) : OkD P w K mg base 1 d_law_belongs ps_law_belongs sp_law_belongs := by
  refine (h_law_belongs T).ok sc_law_belongs (fun vs H Q E h => ?_) (fun cdv A outer s H vs Q E hr h => ⟨_,
      (pss_cons (ps_if (pt_cmpR op_eq (pv 0) pe_str (nomark _)) (pss_one (ps_ret (pv 2))) pss_nil)
      (pss_cons (ps_if (pt_cmpR op_eq (pv 0) pe_str (nomark _)) (pss_one (ps_ret pe_bl)) pss_nil)
      (pss_cons (ps_if (pt_cmpR op_eq (pv 0) pe_str (nomark _)) (pss_one (ps_ret (pv 3))) pss_nil)
      (pss_cons (ps_if (pt_cmpR op_in_sign (pv 0) pe_str (by rfl)) (pss_one (ps_ret (pe_and (pv 3) (pe_one (pe_cmpR op_lt (pe_bmS PySem.F.plainAttrs_str PySem.F.slot_str_index PySem.F.type_str_index (mt_indexX rfl takes0) pe_str (pa_cons (pv 0) pa_nil)) (pv 1) (nomark _)))))) pss_nil)
      (pss_one (ps_ret (pe_cmpR op_lt (pe_bmS PySem.F.plainAttrs_str PySem.F.slot_str_index PySem.F.type_str_index (mt_indexX rfl takes0) pe_str (pa_cons (pv 0) pa_nil)) (pv 1) (nomark _)))))))), ?_⟩)
  · obtain ⟨c, k, w, d, rfl, _⟩ := h
    rfl
  · obtain ⟨c, k, w, d, rfl, hc, q⟩ := h
    simp only [kc_2, kc_3, kc_4, kc_5, kc_7, kc_8, kc_9, kc_10, kc_11, kc_12, kc_13, kc_14, kc_15, kc_16, kc_17, kc_18, kc_19, kc_20, kc_21, kc_22, kc_23, kc_24, kc_25, kc_26, kc_27, kc_28, kc_29, kc_30, kc_31, kc_32, kc_33, kc_34, kc_35, kc_36, kc_37]
    refine q_when (b := decide ([c] = [35])) (by first | ((with_reducible apply et_test); (repeat' (first | ((with_reducible refine ev_pow10 ?_ ?_ ?_) <;> first | rfl | decide) | (with_reducible refine fun (_ : _ = true) => ?_) | (with_reducible refine fun (_ : _ = false) => ?_) | (with_reducible exact ev_c) | ((with_reducible apply ev_var); rfl) | (with_reducible apply ev_op) | (with_reducible apply ev_un) | (with_reducible apply ev_cb) | (with_reducible apply ea_cons) | (with_reducible apply ev_andV) | (with_reducible apply ev_orV) | (with_reducible apply ev_notV) | (with_reducible apply ev_if) | (with_reducible apply eo_some) | (with_reducible apply el_lst) | (with_reducible exact ea_nil) | (with_reducible exact rv_I0) | (with_reducible exact ru_neg) | (with_reducible exact rv_ltS) | (with_reducible exact rv_inC) | (with_reducible exact rv_notInC) | (with_reducible exact rc_intI) | (with_reducible exact rc_intB) | (with_reducible exact rc_min2) | (with_reducible exact rc_isStr) | (with_reducible exact eo_none) | (with_reducible exact rv_inSS) | (with_reducible exact rv_notInSS) | (with_reducible exact rv_ltSS) | (with_reducible exact rv_eqSS) | (with_reducible exact rv_eqII) | (with_reducible exact rv_neII) | (with_reducible exact rv_neSS) | ((with_reducible refine rc_lenSS ?_); (first | assumption | omega | decide | (simp only [S_len] at *; omega))) | ((with_reducible refine rc_lenStr ?_); (first | assumption | omega | decide | (simp only [S_len] at *; omega))) | ((with_reducible refine rv_catSS ?_); (first | assumption | omega | decide | (simp only [S_len] at *; omega))) | (with_reducible exact rv_eq rfl) | (with_reducible exact rv_ne rfl) | ((with_reducible refine rc_lenS ?_); (first | assumption | omega | decide | (simp only [S_len] at *; omega))) | ((with_reducible refine rc_lenL ?_); assumption) | ((with_reducible apply rv_ixL); assumption; rfl) | ((with_reducible refine rv_catS ?_); (first | assumption | omega | decide | (simp only [S_len] at *; omega))) | ((with_reducible refine rv_I ?_); (first | (show (0 : Int) < _; (first | assumption | omega | decide | (simp only [S_len] at *; omega))) | exact .inr ⟨by decide, by decide⟩ | exact .inl ⟨by (first | assumption | omega | decide | (simp only [S_len] at *; omega)), by (first | assumption | omega | decide | (simp only [S_len] at *; omega))⟩ | exact .inr ⟨by (first | assumption | omega | decide | (simp only [S_len] at *; omega)), by (first | assumption | omega | decide | (simp only [S_len] at *; omega))⟩ | exact ⟨by decide, by decide, by decide⟩ | exact wide_div (b := 128) (by (first | assumption | omega | decide | (simp only [S_len] at *; omega))) (by (first | assumption | omega | decide | (simp only [S_len] at *; omega))) (by decide) (by decide)))))) | ((with_reducible apply et_B); (repeat' (first | ((with_reducible refine ev_pow10 ?_ ?_ ?_) <;> first | rfl | decide) | (with_reducible refine fun (_ : _ = true) => ?_) | (with_reducible refine fun (_ : _ = false) => ?_) | (with_reducible exact ev_c) | ((with_reducible apply ev_var); rfl) | (with_reducible apply ev_op) | (with_reducible apply ev_un) | (with_reducible apply ev_cb) | (with_reducible apply ea_cons) | (with_reducible apply ev_andV) | (with_reducible apply ev_orV) | (with_reducible apply ev_notV) | (with_reducible apply ev_if) | (with_reducible apply eo_some) | (with_reducible apply el_lst) | (with_reducible exact ea_nil) | (with_reducible exact rv_I0) | (with_reducible exact ru_neg) | (with_reducible exact rv_ltS) | (with_reducible exact rv_inC) | (with_reducible exact rv_notInC) | (with_reducible exact rc_intI) | (with_reducible exact rc_intB) | (with_reducible exact rc_min2) | (with_reducible exact rc_isStr) | (with_reducible exact eo_none) | (with_reducible exact rv_inSS) | (with_reducible exact rv_notInSS) | (with_reducible exact rv_ltSS) | (with_reducible exact rv_eqSS) | (with_reducible exact rv_eqII) | (with_reducible exact rv_neII) | (with_reducible exact rv_neSS) | ((with_reducible refine rc_lenSS ?_); (first | assumption | omega | decide | (simp only [S_len] at *; omega))) | ((with_reducible refine rc_lenStr ?_); (first | assumption | omega | decide | (simp only [S_len] at *; omega))) | ((with_reducible refine rv_catSS ?_); (first | assumption | omega | decide | (simp only [S_len] at *; omega))) | (with_reducible exact rv_eq rfl) | (with_reducible exact rv_ne rfl) | ((with_reducible refine rc_lenS ?_); (first | assumption | omega | decide | (simp only [S_len] at *; omega))) | ((with_reducible refine rc_lenL ?_); assumption) | ((with_reducible apply rv_ixL); assumption; rfl) | ((with_reducible refine rv_catS ?_); (first | assumption | omega | decide | (simp only [S_len] at *; omega))) | ((with_reducible refine rv_I ?_); (first | (show (0 : Int) < _; (first | assumption | omega | decide | (simp only [S_len] at *; omega))) | exact .inr ⟨by decide, by decide⟩ | exact .inl ⟨by (first | assumption | omega | decide | (simp only [S_len] at *; omega)), by (first | assumption | omega | decide | (simp only [S_len] at *; omega))⟩ | exact .inr ⟨by (first | assumption | omega | decide | (simp only [S_len] at *; omega)), by (first | assumption | omega | decide | (simp only [S_len] at *; omega))⟩ | exact ⟨by decide, by decide, by decide⟩ | exact wide_div (b := 128) (by (first | assumption | omega | decide | (simp only [S_len] at *; omega))) (by (first | assumption | omega | decide | (simp only [S_len] at *; omega))) (by decide) (by decide))))))) (fun hb H1 e1 => ?_) (fun hb H1 e1 => ?_)
    · have h1 : c = 35 := by simpa using hb
      refine s_ret (by exact ev_var rfl) fun H2 e2 => ?_
      have q2 := q H2 (e1.trans e2)
      unfold bel at q2
      rw [if_pos h1] at q2
      exact q2
    have h1 : c ≠ 35 := by simpa using hb
    refine q_when (b := decide ([c] = [46])) (by first | ((with_reducible apply et_test); (repeat' (first | ((with_reducible refine ev_pow10 ?_ ?_ ?_) <;> first | rfl | decide) | (with_reducible refine fun (_ : _ = true) => ?_) | (with_reducible refine fun (_ : _ = false) => ?_) | (with_reducible exact ev_c) | ((with_reducible apply ev_var); rfl) | (with_reducible apply ev_op) | (with_reducible apply ev_un) | (with_reducible apply ev_cb) | (with_reducible apply ea_cons) | (with_reducible apply ev_andV) | (with_reducible apply ev_orV) | (with_reducible apply ev_notV) | (with_reducible apply ev_if) | (with_reducible apply eo_some) | (with_reducible apply el_lst) | (with_reducible exact ea_nil) | (with_reducible exact rv_I0) | (with_reducible exact ru_neg) | (with_reducible exact rv_ltS) | (with_reducible exact rv_inC) | (with_reducible exact rv_notInC) | (with_reducible exact rc_intI) | (with_reducible exact rc_intB) | (with_reducible exact rc_min2) | (with_reducible exact rc_isStr) | (with_reducible exact eo_none) | (with_reducible exact rv_inSS) | (with_reducible exact rv_notInSS) | (with_reducible exact rv_ltSS) | (with_reducible exact rv_eqSS) | (with_reducible exact rv_eqII) | (with_reducible exact rv_neII) | (with_reducible exact rv_neSS) | ((with_reducible refine rc_lenSS ?_); (first | assumption | omega | decide | (simp only [S_len] at *; omega))) | ((with_reducible refine rc_lenStr ?_); (first | assumption | omega | decide | (simp only [S_len] at *; omega))) | ((with_reducible refine rv_catSS ?_); (first | assumption | omega | decide | (simp only [S_len] at *; omega))) | (with_reducible exact rv_eq rfl) | (with_reducible exact rv_ne rfl) | ((with_reducible refine rc_lenS ?_); (first | assumption | omega | decide | (simp only [S_len] at *; omega))) | ((with_reducible refine rc_lenL ?_); assumption) | ((with_reducible apply rv_ixL); assumption; rfl) | ((with_reducible refine rv_catS ?_); (first | assumption | omega | decide | (simp only [S_len] at *; omega))) | ((with_reducible refine rv_I ?_); (first | (show (0 : Int) < _; (first | assumption | omega | decide | (simp only [S_len] at *; omega))) | exact .inr ⟨by decide, by decide⟩ | exact .inl ⟨by (first | assumption | omega | decide | (simp only [S_len] at *; omega)), by (first | assumption | omega | decide | (simp only [S_len] at *; omega))⟩ | exact .inr ⟨by (first | assumption | omega | decide | (simp only [S_len] at *; omega)), by (first | assumption | omega | decide | (simp only [S_len] at *; omega))⟩ | exact ⟨by decide, by decide, by decide⟩ | exact wide_div (b := 128) (by (first | assumption | omega | decide | (simp only [S_len] at *; omega))) (by (first | assumption | omega | decide | (simp only [S_len] at *; omega))) (by decide) (by decide)))))) | ((with_reducible apply et_B); (repeat' (first | ((with_reducible refine ev_pow10 ?_ ?_ ?_) <;> first | rfl | decide) | (with_reducible refine fun (_ : _ = true) => ?_) | (with_reducible refine fun (_ : _ = false) => ?_) | (with_reducible exact ev_c) | ((with_reducible apply ev_var); rfl) | (with_reducible apply ev_op) | (with_reducible apply ev_un) | (with_reducible apply ev_cb) | (with_reducible apply ea_cons) | (with_reducible apply ev_andV) | (with_reducible apply ev_orV) | (with_reducible apply ev_notV) | (with_reducible apply ev_if) | (with_reducible apply eo_some) | (with_reducible apply el_lst) | (with_reducible exact ea_nil) | (with_reducible exact rv_I0) | (with_reducible exact ru_neg) | (with_reducible exact rv_ltS) | (with_reducible exact rv_inC) | (with_reducible exact rv_notInC) | (with_reducible exact rc_intI) | (with_reducible exact rc_intB) | (with_reducible exact rc_min2) | (with_reducible exact rc_isStr) | (with_reducible exact eo_none) | (with_reducible exact rv_inSS) | (with_reducible exact rv_notInSS) | (with_reducible exact rv_ltSS) | (with_reducible exact rv_eqSS) | (with_reducible exact rv_eqII) | (with_reducible exact rv_neII) | (with_reducible exact rv_neSS) | ((with_reducible refine rc_lenSS ?_); (first | assumption | omega | decide | (simp only [S_len] at *; omega))) | ((with_reducible refine rc_lenStr ?_); (first | assumption | omega | decide | (simp only [S_len] at *; omega))) | ((with_reducible refine rv_catSS ?_); (first | assumption | omega | decide | (simp only [S_len] at *; omega))) | (with_reducible exact rv_eq rfl) | (with_reducible exact rv_ne rfl) | ((with_reducible refine rc_lenS ?_); (first | assumption | omega | decide | (simp only [S_len] at *; omega))) | ((with_reducible refine rc_lenL ?_); assumption) | ((with_reducible apply rv_ixL); assumption; rfl) | ((with_reducible refine rv_catS ?_); (first | assumption | omega | decide | (simp only [S_len] at *; omega))) | ((with_reducible refine rv_I ?_); (first | (show (0 : Int) < _; (first | assumption | omega | decide | (simp only [S_len] at *; omega))) | exact .inr ⟨by decide, by decide⟩ | exact .inl ⟨by (first | assumption | omega | decide | (simp only [S_len] at *; omega)), by (first | assumption | omega | decide | (simp only [S_len] at *; omega))⟩ | exact .inr ⟨by (first | assumption | omega | decide | (simp only [S_len] at *; omega)), by (first | assumption | omega | decide | (simp only [S_len] at *; omega))⟩ | exact ⟨by decide, by decide, by decide⟩ | exact wide_div (b := 128) (by (first | assumption | omega | decide | (simp only [S_len] at *; omega))) (by (first | assumption | omega | decide | (simp only [S_len] at *; omega))) (by decide) (by decide))))))) (fun hb H2 e2 => ?_) (fun hb H2 e2 => ?_)
    · have h2 : c = 46 := by simpa using hb
      refine s_ret (by exact ev_c) fun H3 e3 => ?_
      have q2 := q H3 ((e1.trans e2).trans e3)
      unfold bel at q2
      rw [if_neg h1, if_pos h2] at q2
      exact q2
    have h2 : c ≠ 46 := by simpa using hb
    refine q_when (b := decide ([c] = [58])) (by first | ((with_reducible apply et_test); (repeat' (first | ((with_reducible refine ev_pow10 ?_ ?_ ?_) <;> first | rfl | decide) | (with_reducible refine fun (_ : _ = true) => ?_) | (with_reducible refine fun (_ : _ = false) => ?_) | (with_reducible exact ev_c) | ((with_reducible apply ev_var); rfl) | (with_reducible apply ev_op) | (with_reducible apply ev_un) | (with_reducible apply ev_cb) | (with_reducible apply ea_cons) | (with_reducible apply ev_andV) | (with_reducible apply ev_orV) | (with_reducible apply ev_notV) | (with_reducible apply ev_if) | (with_reducible apply eo_some) | (with_reducible apply el_lst) | (with_reducible exact ea_nil) | (with_reducible exact rv_I0) | (with_reducible exact ru_neg) | (with_reducible exact rv_ltS) | (with_reducible exact rv_inC) | (with_reducible exact rv_notInC) | (with_reducible exact rc_intI) | (with_reducible exact rc_intB) | (with_reducible exact rc_min2) | (with_reducible exact rc_isStr) | (with_reducible exact eo_none) | (with_reducible exact rv_inSS) | (with_reducible exact rv_notInSS) | (with_reducible exact rv_ltSS) | (with_reducible exact rv_eqSS) | (with_reducible exact rv_eqII) | (with_reducible exact rv_neII) | (with_reducible exact rv_neSS) | ((with_reducible refine rc_lenSS ?_); (first | assumption | omega | decide | (simp only [S_len] at *; omega))) | ((with_reducible refine rc_lenStr ?_); (first | assumption | omega | decide | (simp only [S_len] at *; omega))) | ((with_reducible refine rv_catSS ?_); (first | assumption | omega | decide | (simp only [S_len] at *; omega))) | (with_reducible exact rv_eq rfl) | (with_reducible exact rv_ne rfl) | ((with_reducible refine rc_lenS ?_); (first | assumption | omega | decide | (simp only [S_len] at *; omega))) | ((with_reducible refine rc_lenL ?_); assumption) | ((with_reducible apply rv_ixL); assumption; rfl) | ((with_reducible refine rv_catS ?_); (first | assumption | omega | decide | (simp only [S_len] at *; omega))) | ((with_reducible refine rv_I ?_); (first | (show (0 : Int) < _; (first | assumption | omega | decide | (simp only [S_len] at *; omega))) | exact .inr ⟨by decide, by decide⟩ | exact .inl ⟨by (first | assumption | omega | decide | (simp only [S_len] at *; omega)), by (first | assumption | omega | decide | (simp only [S_len] at *; omega))⟩ | exact .inr ⟨by (first | assumption | omega | decide | (simp only [S_len] at *; omega)), by (first | assumption | omega | decide | (simp only [S_len] at *; omega))⟩ | exact ⟨by decide, by decide, by decide⟩ | exact wide_div (b := 128) (by (first | assumption | omega | decide | (simp only [S_len] at *; omega))) (by (first | assumption | omega | decide | (simp only [S_len] at *; omega))) (by decide) (by decide)))))) | ((with_reducible apply et_B); (repeat' (first | ((with_reducible refine ev_pow10 ?_ ?_ ?_) <;> first | rfl | decide) | (with_reducible refine fun (_ : _ = true) => ?_) | (with_reducible refine fun (_ : _ = false) => ?_) | (with_reducible exact ev_c) | ((with_reducible apply ev_var); rfl) | (with_reducible apply ev_op) | (with_reducible apply ev_un) | (with_reducible apply ev_cb) | (with_reducible apply ea_cons) | (with_reducible apply ev_andV) | (with_reducible apply ev_orV) | (with_reducible apply ev_notV) | (with_reducible apply ev_if) | (with_reducible apply eo_some) | (with_reducible apply el_lst) | (with_reducible exact ea_nil) | (with_reducible exact rv_I0) | (with_reducible exact ru_neg) | (with_reducible exact rv_ltS) | (with_reducible exact rv_inC) | (with_reducible exact rv_notInC) | (with_reducible exact rc_intI) | (with_reducible exact rc_intB) | (with_reducible exact rc_min2) | (with_reducible exact rc_isStr) | (with_reducible exact eo_none) | (with_reducible exact rv_inSS) | (with_reducible exact rv_notInSS) | (with_reducible exact rv_ltSS) | (with_reducible exact rv_eqSS) | (with_reducible exact rv_eqII) | (with_reducible exact rv_neII) | (with_reducible exact rv_neSS) | ((with_reducible refine rc_lenSS ?_); (first | assumption | omega | decide | (simp only [S_len] at *; omega))) | ((with_reducible refine rc_lenStr ?_); (first | assumption | omega | decide | (simp only [S_len] at *; omega))) | ((with_reducible refine rv_catSS ?_); (first | assumption | omega | decide | (simp only [S_len] at *; omega))) | (with_reducible exact rv_eq rfl) | (with_reducible exact rv_ne rfl) | ((with_reducible refine rc_lenS ?_); (first | assumption | omega | decide | (simp only [S_len] at *; omega))) | ((with_reducible refine rc_lenL ?_); assumption) | ((with_reducible apply rv_ixL); assumption; rfl) | ((with_reducible refine rv_catS ?_); (first | assumption | omega | decide | (simp only [S_len] at *; omega))) | ((with_reducible refine rv_I ?_); (first | (show (0 : Int) < _; (first | assumption | omega | decide | (simp only [S_len] at *; omega))) | exact .inr ⟨by decide, by decide⟩ | exact .inl ⟨by (first | assumption | omega | decide | (simp only [S_len] at *; omega)), by (first | assumption | omega | decide | (simp only [S_len] at *; omega))⟩ | exact .inr ⟨by (first | assumption | omega | decide | (simp only [S_len] at *; omega)), by (first | assumption | omega | decide | (simp only [S_len] at *; omega))⟩ | exact ⟨by decide, by decide, by decide⟩ | exact wide_div (b := 128) (by (first | assumption | omega | decide | (simp only [S_len] at *; omega))) (by (first | assumption | omega | decide | (simp only [S_len] at *; omega))) (by decide) (by decide))))))) (fun hb H3 e3 => ?_) (fun hb H3 e3 => ?_)
    · have h3 : c = 58 := by simpa using hb
      refine s_ret (by exact ev_var rfl) fun H4 e4 => ?_
      have q2 := q H4 (((e1.trans e2).trans e3).trans e4)
      unfold bel at q2
      rw [if_neg h1, if_neg h2, if_pos h3] at q2
      exact q2
    have h3 : c ≠ 58 := by simpa using hb
    have e03 := (e1.trans e2).trans e3
    refine q_when (b := decide (c ∈ [65, 66, 67, 68])) (by first | ((with_reducible apply et_test); (repeat' (first | ((with_reducible refine ev_pow10 ?_ ?_ ?_) <;> first | rfl | decide) | (with_reducible refine fun (_ : _ = true) => ?_) | (with_reducible refine fun (_ : _ = false) => ?_) | (with_reducible exact ev_c) | ((with_reducible apply ev_var); rfl) | (with_reducible apply ev_op) | (with_reducible apply ev_un) | (with_reducible apply ev_cb) | (with_reducible apply ea_cons) | (with_reducible apply ev_andV) | (with_reducible apply ev_orV) | (with_reducible apply ev_notV) | (with_reducible apply ev_if) | (with_reducible apply eo_some) | (with_reducible apply el_lst) | (with_reducible exact ea_nil) | (with_reducible exact rv_I0) | (with_reducible exact ru_neg) | (with_reducible exact rv_ltS) | (with_reducible exact rv_inC) | (with_reducible exact rv_notInC) | (with_reducible exact rc_intI) | (with_reducible exact rc_intB) | (with_reducible exact rc_min2) | (with_reducible exact rc_isStr) | (with_reducible exact eo_none) | (with_reducible exact rv_inSS) | (with_reducible exact rv_notInSS) | (with_reducible exact rv_ltSS) | (with_reducible exact rv_eqSS) | (with_reducible exact rv_eqII) | (with_reducible exact rv_neII) | (with_reducible exact rv_neSS) | ((with_reducible refine rc_lenSS ?_); (first | assumption | omega | decide | (simp only [S_len] at *; omega))) | ((with_reducible refine rc_lenStr ?_); (first | assumption | omega | decide | (simp only [S_len] at *; omega))) | ((with_reducible refine rv_catSS ?_); (first | assumption | omega | decide | (simp only [S_len] at *; omega))) | (with_reducible exact rv_eq rfl) | (with_reducible exact rv_ne rfl) | ((with_reducible refine rc_lenS ?_); (first | assumption | omega | decide | (simp only [S_len] at *; omega))) | ((with_reducible refine rc_lenL ?_); assumption) | ((with_reducible apply rv_ixL); assumption; rfl) | ((with_reducible refine rv_catS ?_); (first | assumption | omega | decide | (simp only [S_len] at *; omega))) | ((with_reducible refine rv_I ?_); (first | (show (0 : Int) < _; (first | assumption | omega | decide | (simp only [S_len] at *; omega))) | exact .inr ⟨by decide, by decide⟩ | exact .inl ⟨by (first | assumption | omega | decide | (simp only [S_len] at *; omega)), by (first | assumption | omega | decide | (simp only [S_len] at *; omega))⟩ | exact .inr ⟨by (first | assumption | omega | decide | (simp only [S_len] at *; omega)), by (first | assumption | omega | decide | (simp only [S_len] at *; omega))⟩ | exact ⟨by decide, by decide, by decide⟩ | exact wide_div (b := 128) (by (first | assumption | omega | decide | (simp only [S_len] at *; omega))) (by (first | assumption | omega | decide | (simp only [S_len] at *; omega))) (by decide) (by decide)))))) | ((with_reducible apply et_B); (repeat' (first | ((with_reducible refine ev_pow10 ?_ ?_ ?_) <;> first | rfl | decide) | (with_reducible refine fun (_ : _ = true) => ?_) | (with_reducible refine fun (_ : _ = false) => ?_) | (with_reducible exact ev_c) | ((with_reducible apply ev_var); rfl) | (with_reducible apply ev_op) | (with_reducible apply ev_un) | (with_reducible apply ev_cb) | (with_reducible apply ea_cons) | (with_reducible apply ev_andV) | (with_reducible apply ev_orV) | (with_reducible apply ev_notV) | (with_reducible apply ev_if) | (with_reducible apply eo_some) | (with_reducible apply el_lst) | (with_reducible exact ea_nil) | (with_reducible exact rv_I0) | (with_reducible exact ru_neg) | (with_reducible exact rv_ltS) | (with_reducible exact rv_inC) | (with_reducible exact rv_notInC) | (with_reducible exact rc_intI) | (with_reducible exact rc_intB) | (with_reducible exact rc_min2) | (with_reducible exact rc_isStr) | (with_reducible exact eo_none) | (with_reducible exact rv_inSS) | (with_reducible exact rv_notInSS) | (with_reducible exact rv_ltSS) | (with_reducible exact rv_eqSS) | (with_reducible exact rv_eqII) | (with_reducible exact rv_neII) | (with_reducible exact rv_neSS) | ((with_reducible refine rc_lenSS ?_); (first | assumption | omega | decide | (simp only [S_len] at *; omega))) | ((with_reducible refine rc_lenStr ?_); (first | assumption | omega | decide | (simp only [S_len] at *; omega))) | ((with_reducible refine rv_catSS ?_); (first | assumption | omega | decide | (simp only [S_len] at *; omega))) | (with_reducible exact rv_eq rfl) | (with_reducible exact rv_ne rfl) | ((with_reducible refine rc_lenS ?_); (first | assumption | omega | decide | (simp only [S_len] at *; omega))) | ((with_reducible refine rc_lenL ?_); assumption) | ((with_reducible apply rv_ixL); assumption; rfl) | ((with_reducible refine rv_catS ?_); (first | assumption | omega | decide | (simp only [S_len] at *; omega))) | ((with_reducible refine rv_I ?_); (first | (show (0 : Int) < _; (first | assumption | omega | decide | (simp only [S_len] at *; omega))) | exact .inr ⟨by decide, by decide⟩ | exact .inl ⟨by (first | assumption | omega | decide | (simp only [S_len] at *; omega)), by (first | assumption | omega | decide | (simp only [S_len] at *; omega))⟩ | exact .inr ⟨by (first | assumption | omega | decide | (simp only [S_len] at *; omega)), by (first | assumption | omega | decide | (simp only [S_len] at *; omega))⟩ | exact ⟨by decide, by decide, by decide⟩ | exact wide_div (b := 128) (by (first | assumption | omega | decide | (simp only [S_len] at *; omega))) (by (first | assumption | omega | decide | (simp only [S_len] at *; omega))) (by decide) (by decide))))))) (fun hb H4 e4 => ?_) (fun hb H4 e4 => ?_)
    · have h4 : c ∈ [65, 66, 67, 68] := by simpa using hb
      refine s_ret (v := .bl (d && decide (((c - 65 : Nat) : Int) < k))) (by exact ev_andV (ev_var rfl) fun _ => ev_op (ev_index ev_c (ea_cons (ev_var rfl) ea_nil) (idx_up c h4)) (ev_var rfl) rv_I0) fun H5 e5 => ?_
      have q2 := q H5 ((e03.trans e4).trans e5)
      unfold bel at q2
      rw [if_neg h1, if_neg h2, if_neg h3, if_pos h4] at q2
      exact q2
    · have h4 : c ∉ [65, 66, 67, 68] := by simpa using hb
      refine s_ret (v := .bl (decide (((c - 97 : Nat) : Int) < k))) (by exact ev_op (ev_index ev_c (ea_cons (ev_var rfl) ea_nil) (idx_low c (sg_rest c hc h1 h2 h3 h4))) (ev_var rfl) rv_I0) fun H5 e5 => ?_
      have q2 := q H5 ((e03.trans e4).trans e5)
      unfold bel at q2
      rw [if_neg h1, if_neg h2, if_neg h3, if_neg h4] at q2
      exact q2
def stv (k : Int) (w d : Bool) : List Nat := SG.filter fun c => bel c k w d
def sp_law_string : Sp := fun vs H Q _ => ∃ (k : Int) (w d : Bool), vs = [.int k, .bl w, .bl d] ∧ RetV (.str (S (stv k w d))) H Q
theorem sg_at {i c : Nat} (h : SG[i]? = some c) : SG.getD i 0 = c := by
  rw [List.getD_eq_getElem?_getD, h]
  rfl
theorem ok_law_string (T : Tx K mg w) : OkD P w K mg base 2 d_law_string ps_law_string sp_law_string := by
  refine (h_law_string T).ok sc_law_string (fun vs H Q E h => ?_) (fun cdv A outer s H vs Q E hr h => ⟨_,
      (pss_one (ps_ret (pe_join pe_str (pe_lc (own := [("_law_sign", 3)]) (g := gName 3) rfl sc_law_string.nd (pi_str pe_str) (blkOk_by (own := [("_law_sign", 3)]) (N := ns_law_string) (sc := defScope st_law_string) (by decide +kernel)) (fun _ _ _ _ _ => pg_name (i := 3) sc_law_string.nd rfl (Or.inl rfl)) (fun _ _ _ _ _ => (pts_one (pt_val (pe_call (ok_law_belongs (P := P) (w := w) (base := base) T) (hr.mono (by decide)) (by rfl) (m_law_belongs T) (k_law_belongs T) (b_law_belongs T) .nil passN (pa_cons (pv 3) (pa_cons (pv 0) (pa_cons (pv 1) (pa_cons (pv 2) pa_nil)))))))) (fun _ _ _ _ _ => (pv 3)))))), ?_⟩)
  · obtain ⟨k, w, d, rfl, _⟩ := h
    rfl
  · obtain ⟨k, w, d, rfl, q⟩ := h
    simp only [kc_2, kc_3, kc_4, kc_5, kc_7, kc_8, kc_9, kc_10, kc_11, kc_12, kc_13, kc_14, kc_15, kc_16, kc_17, kc_18, kc_19, kc_20, kc_21, kc_22, kc_23, kc_24, kc_25, kc_26, kc_27, kc_28, kc_29, kc_30, kc_31, kc_32, kc_33, kc_34, kc_35, kc_36, kc_37]
    refine s_ret (v := .str (Txt.join (S []) ((stv k w d).map fun c => S [c]))) (ev_join (by exact ev_c) ?_ (join_sz _ ?_)) fun H1 e1 => ?_
    · have h := el_lcS (σ := L2.start ns_law_string [V.int k, V.bl w, V.bl d]) (H := H) (l := SG) (tl := tC (.str (S SG))) (j := 3) (vs := [3]) (t := tTest (tCall sp_law_belongs [] E0 (tCons (tVar 3) (tCons (tVar 0) (tCons (tVar 1) (tCons (tVar 2) tNil)))))) (te := tVar 3)
        (fun i => bel (SG.getD i 0) k w d) (fun i => V.str (S [SG.getD i 0])) ev_c (by decide) (fun x => rfl)
        (fun i c H2 _ hi => et_test (ev_call (by repeat' (first | ((with_reducible refine ev_pow10 ?_ ?_ ?_) <;> first | rfl | decide) | (with_reducible refine fun (_ : _ = true) => ?_) | (with_reducible refine fun (_ : _ = false) => ?_) | (with_reducible exact ev_c) | ((with_reducible apply ev_var); rfl) | (with_reducible apply ev_op) | (with_reducible apply ev_un) | (with_reducible apply ev_cb) | (with_reducible apply ea_cons) | (with_reducible apply ev_andV) | (with_reducible apply ev_orV) | (with_reducible apply ev_notV) | (with_reducible apply ev_if) | (with_reducible apply eo_some) | (with_reducible apply el_lst) | (with_reducible exact ea_nil) | (with_reducible exact rv_I0) | (with_reducible exact ru_neg) | (with_reducible exact rv_ltS) | (with_reducible exact rv_inC) | (with_reducible exact rv_notInC) | (with_reducible exact rc_intI) | (with_reducible exact rc_intB) | (with_reducible exact rc_min2) | (with_reducible exact rc_isStr) | (with_reducible exact eo_none) | (with_reducible exact rv_inSS) | (with_reducible exact rv_notInSS) | (with_reducible exact rv_ltSS) | (with_reducible exact rv_eqSS) | (with_reducible exact rv_eqII) | (with_reducible exact rv_neII) | (with_reducible exact rv_neSS) | ((with_reducible refine rc_lenSS ?_); (first | assumption | omega | decide | (simp only [S_len] at *; omega))) | ((with_reducible refine rc_lenStr ?_); (first | assumption | omega | decide | (simp only [S_len] at *; omega))) | ((with_reducible refine rv_catSS ?_); (first | assumption | omega | decide | (simp only [S_len] at *; omega))) | (with_reducible exact rv_eq rfl) | (with_reducible exact rv_ne rfl) | ((with_reducible refine rc_lenS ?_); (first | assumption | omega | decide | (simp only [S_len] at *; omega))) | ((with_reducible refine rc_lenL ?_); assumption) | ((with_reducible apply rv_ixL); assumption; rfl) | ((with_reducible refine rv_catS ?_); (first | assumption | omega | decide | (simp only [S_len] at *; omega))) | ((with_reducible refine rv_I ?_); (first | (show (0 : Int) < _; (first | assumption | omega | decide | (simp only [S_len] at *; omega))) | exact .inr ⟨by decide, by decide⟩ | exact .inl ⟨by (first | assumption | omega | decide | (simp only [S_len] at *; omega)), by (first | assumption | omega | decide | (simp only [S_len] at *; omega))⟩ | exact .inr ⟨by (first | assumption | omega | decide | (simp only [S_len] at *; omega)), by (first | assumption | omega | decide | (simp only [S_len] at *; omega))⟩ | exact ⟨by decide, by decide, by decide⟩ | exact wide_div (b := 128) (by (first | assumption | omega | decide | (simp only [S_len] at *; omega))) (by (first | assumption | omega | decide | (simp only [S_len] at *; omega))) (by decide) (by decide))))) fun H3 e3 Q3 q3 E3 => ⟨c, k, w, d, rfl, List.mem_of_getElem? hi, by rw [sg_at hi] at q3; exact q3⟩))
        (fun i c H2 _ hi _ => by rw [sg_at hi]; exact ev_var rfl)
      rw [given_filter SG 0 (fun c => bel c k w d) (fun c => V.str (S [c]))] at h
      rw [List.map_map]
      exact h
    · exact Nat.le_trans (List.length_filter_le _ _) (by decide)
    · rw [join_S]
      exact q H1 e1
theorem stv_dot (k : Int) (w d : Bool) : 46 ∈ stv k w d := List.mem_filter.mpr ⟨by decide, rfl⟩
theorem stv_good (k : Int) (w d : Bool) : Good (stv k w d) := fun c h => (List.mem_filter.mp h).1
theorem stv_len (k : Int) (w d : Bool) : (stv k w d).length ≤ 11 := Nat.le_trans (List.length_filter_le _ _) (by decide)
def sp_law_alphabet : Sp := fun vs H Q _ => ∃ b, vs = [.ref b] ∧ Bx H b ∧ ∀ l H', Good l → 0 < l.length → l.length ≤ 11 → ExB b H H' → Bx H' b → Q (.str (S l)) H'
theorem ok_law_alphabet (T : Tx K mg w) : OkD P w K mg base 3 d_law_alphabet ps_law_alphabet sp_law_alphabet := by
  refine (h_law_alphabet T).ok sc_law_alphabet (fun vs H Q E h => ?_) (fun cdv A outer s H vs Q E hr h => ⟨_,
      (pss_cons (ps_set (i := 1) sc_law_alphabet.nd rfl (Or.inl rfl) (pe_call (ok_law_take (P := P) (w := w) (base := base) T) (hr.mono (by decide)) (by rfl) (m_law_take T) (k_law_take T) (b_law_take T) .nil passN (pa_cons (pv 0) (pa_cons pe_int pa_nil))))
      (pss_cons (ps_if (pt_cmpR op_eq (pv 1) pe_int (nomark _)) (pss_one (ps_ret (pe_call (ok_law_string (P := P) (w := w) (base := base) T) (hr.mono (by decide)) (by rfl) (m_law_string T) (k_law_string T) (b_law_string T) .nil passN (pa_cons (pe_op op_add pe_int (pe_call (ok_law_take (P := P) (w := w) (base := base) T) (hr.mono (by decide)) (by rfl) (m_law_take T) (k_law_take T) (b_law_take T) .nil passN (pa_cons (pv 0) (pa_cons pe_int pa_nil)))) (pa_cons (pe_cmpR op_eq (pe_call (ok_law_take (P := P) (w := w) (base := base) T) (hr.mono (by decide)) (by rfl) (m_law_take T) (k_law_take T) (b_law_take T) .nil passN (pa_cons (pv 0) (pa_cons pe_int pa_nil))) pe_int (nomark _)) (pa_cons (pe_cmpR op_eq (pe_call (ok_law_take (P := P) (w := w) (base := base) T) (hr.mono (by decide)) (by rfl) (m_law_take T) (k_law_take T) (b_law_take T) .nil passN (pa_cons (pv 0) (pa_cons pe_int pa_nil))) pe_int (nomark _)) pa_nil)))))) pss_nil)
      (pss_cons (ps_if (pt_cmpR op_eq (pv 1) pe_int (nomark _)) (pss_one (ps_ret (pe_op op_add_str (pe_ix ix_str pe_str (pe_call (ok_law_take (P := P) (w := w) (base := base) T) (hr.mono (by decide)) (by rfl) (m_law_take T) (k_law_take T) (b_law_take T) .nil passN (pa_cons (pv 0) (pa_cons pe_int pa_nil))) (fun _ _ => rfl)) (pe_ix ix_str pe_str (pe_call (ok_law_take (P := P) (w := w) (base := base) T) (hr.mono (by decide)) (by rfl) (m_law_take T) (k_law_take T) (b_law_take T) .nil passN (pa_cons (pv 0) (pa_cons pe_int pa_nil))) (fun _ _ => rfl))))) pss_nil)
      (pss_one (ps_ret pe_str))))), ?_⟩)
  · obtain ⟨b, rfl, _⟩ := h
    rfl
  · obtain ⟨b, rfl, hb, q⟩ := h
    simp only [kc_2, kc_3, kc_4, kc_5, kc_7, kc_8, kc_9, kc_10, kc_11, kc_12, kc_13, kc_14, kc_15, kc_16, kc_17, kc_18, kc_19, kc_20, kc_21, kc_22, kc_23, kc_24, kc_25, kc_26, kc_27, kc_28, kc_29, kc_30, kc_31, kc_32, kc_33, kc_34, kc_35, kc_36, kc_37]
    refine sp_take_then (b := b) (many := 4) rfl hb ev_c (by decide) (by decide) fun m H1 m0 m1 e1 b1 => ?_
    dsimp only
    refine q_when (b := decide (m = 0)) (by first | ((with_reducible apply et_test); (repeat' (first | ((with_reducible refine ev_pow10 ?_ ?_ ?_) <;> first | rfl | decide) | (with_reducible refine fun (_ : _ = true) => ?_) | (with_reducible refine fun (_ : _ = false) => ?_) | (with_reducible exact ev_c) | ((with_reducible apply ev_var); rfl) | (with_reducible apply ev_op) | (with_reducible apply ev_un) | (with_reducible apply ev_cb) | (with_reducible apply ea_cons) | (with_reducible apply ev_andV) | (with_reducible apply ev_orV) | (with_reducible apply ev_notV) | (with_reducible apply ev_if) | (with_reducible apply eo_some) | (with_reducible apply el_lst) | (with_reducible exact ea_nil) | (with_reducible exact rv_I0) | (with_reducible exact ru_neg) | (with_reducible exact rv_ltS) | (with_reducible exact rv_inC) | (with_reducible exact rv_notInC) | (with_reducible exact rc_intI) | (with_reducible exact rc_intB) | (with_reducible exact rc_min2) | (with_reducible exact rc_isStr) | (with_reducible exact eo_none) | (with_reducible exact rv_inSS) | (with_reducible exact rv_notInSS) | (with_reducible exact rv_ltSS) | (with_reducible exact rv_eqSS) | (with_reducible exact rv_eqII) | (with_reducible exact rv_neII) | (with_reducible exact rv_neSS) | ((with_reducible refine rc_lenSS ?_); (first | assumption | omega | decide | (simp only [S_len] at *; omega))) | ((with_reducible refine rc_lenStr ?_); (first | assumption | omega | decide | (simp only [S_len] at *; omega))) | ((with_reducible refine rv_catSS ?_); (first | assumption | omega | decide | (simp only [S_len] at *; omega))) | (with_reducible exact rv_eq rfl) | (with_reducible exact rv_ne rfl) | ((with_reducible refine rc_lenS ?_); (first | assumption | omega | decide | (simp only [S_len] at *; omega))) | ((with_reducible refine rc_lenL ?_); assumption) | ((with_reducible apply rv_ixL); assumption; rfl) | ((with_reducible refine rv_catS ?_); (first | assumption | omega | decide | (simp only [S_len] at *; omega))) | ((with_reducible refine rv_I ?_); (first | (show (0 : Int) < _; (first | assumption | omega | decide | (simp only [S_len] at *; omega))) | exact .inr ⟨by decide, by decide⟩ | exact .inl ⟨by (first | assumption | omega | decide | (simp only [S_len] at *; omega)), by (first | assumption | omega | decide | (simp only [S_len] at *; omega))⟩ | exact .inr ⟨by (first | assumption | omega | decide | (simp only [S_len] at *; omega)), by (first | assumption | omega | decide | (simp only [S_len] at *; omega))⟩ | exact ⟨by decide, by decide, by decide⟩ | exact wide_div (b := 128) (by (first | assumption | omega | decide | (simp only [S_len] at *; omega))) (by (first | assumption | omega | decide | (simp only [S_len] at *; omega))) (by decide) (by decide)))))) | ((with_reducible apply et_B); (repeat' (first | ((with_reducible refine ev_pow10 ?_ ?_ ?_) <;> first | rfl | decide) | (with_reducible refine fun (_ : _ = true) => ?_) | (with_reducible refine fun (_ : _ = false) => ?_) | (with_reducible exact ev_c) | ((with_reducible apply ev_var); rfl) | (with_reducible apply ev_op) | (with_reducible apply ev_un) | (with_reducible apply ev_cb) | (with_reducible apply ea_cons) | (with_reducible apply ev_andV) | (with_reducible apply ev_orV) | (with_reducible apply ev_notV) | (with_reducible apply ev_if) | (with_reducible apply eo_some) | (with_reducible apply el_lst) | (with_reducible exact ea_nil) | (with_reducible exact rv_I0) | (with_reducible exact ru_neg) | (with_reducible exact rv_ltS) | (with_reducible exact rv_inC) | (with_reducible exact rv_notInC) | (with_reducible exact rc_intI) | (with_reducible exact rc_intB) | (with_reducible exact rc_min2) | (with_reducible exact rc_isStr) | (with_reducible exact eo_none) | (with_reducible exact rv_inSS) | (with_reducible exact rv_notInSS) | (with_reducible exact rv_ltSS) | (with_reducible exact rv_eqSS) | (with_reducible exact rv_eqII) | (with_reducible exact rv_neII) | (with_reducible exact rv_neSS) | ((with_reducible refine rc_lenSS ?_); (first | assumption | omega | decide | (simp only [S_len] at *; omega))) | ((with_reducible refine rc_lenStr ?_); (first | assumption | omega | decide | (simp only [S_len] at *; omega))) | ((with_reducible refine rv_catSS ?_); (first | assumption | omega | decide | (simp only [S_len] at *; omega))) | (with_reducible exact rv_eq rfl) | (with_reducible exact rv_ne rfl) | ((with_reducible refine rc_lenS ?_); (first | assumption | omega | decide | (simp only [S_len] at *; omega))) | ((with_reducible refine rc_lenL ?_); assumption) | ((with_reducible apply rv_ixL); assumption; rfl) | ((with_reducible refine rv_catS ?_); (first | assumption | omega | decide | (simp only [S_len] at *; omega))) | ((with_reducible refine rv_I ?_); (first | (show (0 : Int) < _; (first | assumption | omega | decide | (simp only [S_len] at *; omega))) | exact .inr ⟨by decide, by decide⟩ | exact .inl ⟨by (first | assumption | omega | decide | (simp only [S_len] at *; omega)), by (first | assumption | omega | decide | (simp only [S_len] at *; omega))⟩ | exact .inr ⟨by (first | assumption | omega | decide | (simp only [S_len] at *; omega)), by (first | assumption | omega | decide | (simp only [S_len] at *; omega))⟩ | exact ⟨by decide, by decide, by decide⟩ | exact wide_div (b := 128) (by (first | assumption | omega | decide | (simp only [S_len] at *; omega))) (by (first | assumption | omega | decide | (simp only [S_len] at *; omega))) (by decide) (by decide))))))) (fun hc H2 e2 => ?_) (fun hc H2 e2 => ?_)
    · refine sp_take_then (b := b) (many := 4) rfl (b1.ex e2) (by exact ev_c) (by decide) (by decide) fun d1 H3 _ _ e3 b3 => ?_
      dsimp only
      refine ⟨_, _, rfl, rfl, ?_⟩
      refine sp_take_then (b := b) (many := 2) rfl b3 (by exact ev_c) (by decide) (by decide) fun d2 H4 _ _ e4 b4 => ?_
      refine ⟨rfl, ?_⟩
      refine sp_take_then (b := b) (many := 2) rfl b4 (by exact ev_c) (by decide) (by decide) fun d3 H5 _ _ e5 b5 => ?_
      refine ⟨rfl, ?_⟩
      refine ⟨1 + d1, _, _, rfl, fun H6 e6 => ?_⟩
      exact q _ H6 (stv_good _ _ _) (List.length_pos_iff.mpr (List.ne_nil_of_mem (stv_dot _ _ _))) (stv_len _ _ _) (((((e1.trans (ExB.of e2)).trans e3).trans e4).trans e5).trans (ExB.of e6)) (b5.ex e6)
    refine q_when (b := decide (m = 1)) (by first | ((with_reducible apply et_test); (repeat' (first | ((with_reducible refine ev_pow10 ?_ ?_ ?_) <;> first | rfl | decide) | (with_reducible refine fun (_ : _ = true) => ?_) | (with_reducible refine fun (_ : _ = false) => ?_) | (with_reducible exact ev_c) | ((with_reducible apply ev_var); rfl) | (with_reducible apply ev_op) | (with_reducible apply ev_un) | (with_reducible apply ev_cb) | (with_reducible apply ea_cons) | (with_reducible apply ev_andV) | (with_reducible apply ev_orV) | (with_reducible apply ev_notV) | (with_reducible apply ev_if) | (with_reducible apply eo_some) | (with_reducible apply el_lst) | (with_reducible exact ea_nil) | (with_reducible exact rv_I0) | (with_reducible exact ru_neg) | (with_reducible exact rv_ltS) | (with_reducible exact rv_inC) | (with_reducible exact rv_notInC) | (with_reducible exact rc_intI) | (with_reducible exact rc_intB) | (with_reducible exact rc_min2) | (with_reducible exact rc_isStr) | (with_reducible exact eo_none) | (with_reducible exact rv_inSS) | (with_reducible exact rv_notInSS) | (with_reducible exact rv_ltSS) | (with_reducible exact rv_eqSS) | (with_reducible exact rv_eqII) | (with_reducible exact rv_neII) | (with_reducible exact rv_neSS) | ((with_reducible refine rc_lenSS ?_); (first | assumption | omega | decide | (simp only [S_len] at *; omega))) | ((with_reducible refine rc_lenStr ?_); (first | assumption | omega | decide | (simp only [S_len] at *; omega))) | ((with_reducible refine rv_catSS ?_); (first | assumption | omega | decide | (simp only [S_len] at *; omega))) | (with_reducible exact rv_eq rfl) | (with_reducible exact rv_ne rfl) | ((with_reducible refine rc_lenS ?_); (first | assumption | omega | decide | (simp only [S_len] at *; omega))) | ((with_reducible refine rc_lenL ?_); assumption) | ((with_reducible apply rv_ixL); assumption; rfl) | ((with_reducible refine rv_catS ?_); (first | assumption | omega | decide | (simp only [S_len] at *; omega))) | ((with_reducible refine rv_I ?_); (first | (show (0 : Int) < _; (first | assumption | omega | decide | (simp only [S_len] at *; omega))) | exact .inr ⟨by decide, by decide⟩ | exact .inl ⟨by (first | assumption | omega | decide | (simp only [S_len] at *; omega)), by (first | assumption | omega | decide | (simp only [S_len] at *; omega))⟩ | exact .inr ⟨by (first | assumption | omega | decide | (simp only [S_len] at *; omega)), by (first | assumption | omega | decide | (simp only [S_len] at *; omega))⟩ | exact ⟨by decide, by decide, by decide⟩ | exact wide_div (b := 128) (by (first | assumption | omega | decide | (simp only [S_len] at *; omega))) (by (first | assumption | omega | decide | (simp only [S_len] at *; omega))) (by decide) (by decide)))))) | ((with_reducible apply et_B); (repeat' (first | ((with_reducible refine ev_pow10 ?_ ?_ ?_) <;> first | rfl | decide) | (with_reducible refine fun (_ : _ = true) => ?_) | (with_reducible refine fun (_ : _ = false) => ?_) | (with_reducible exact ev_c) | ((with_reducible apply ev_var); rfl) | (with_reducible apply ev_op) | (with_reducible apply ev_un) | (with_reducible apply ev_cb) | (with_reducible apply ea_cons) | (with_reducible apply ev_andV) | (with_reducible apply ev_orV) | (with_reducible apply ev_notV) | (with_reducible apply ev_if) | (with_reducible apply eo_some) | (with_reducible apply el_lst) | (with_reducible exact ea_nil) | (with_reducible exact rv_I0) | (with_reducible exact ru_neg) | (with_reducible exact rv_ltS) | (with_reducible exact rv_inC) | (with_reducible exact rv_notInC) | (with_reducible exact rc_intI) | (with_reducible exact rc_intB) | (with_reducible exact rc_min2) | (with_reducible exact rc_isStr) | (with_reducible exact eo_none) | (with_reducible exact rv_inSS) | (with_reducible exact rv_notInSS) | (with_reducible exact rv_ltSS) | (with_reducible exact rv_eqSS) | (with_reducible exact rv_eqII) | (with_reducible exact rv_neII) | (with_reducible exact rv_neSS) | ((with_reducible refine rc_lenSS ?_); (first | assumption | omega | decide | (simp only [S_len] at *; omega))) | ((with_reducible refine rc_lenStr ?_); (first | assumption | omega | decide | (simp only [S_len] at *; omega))) | ((with_reducible refine rv_catSS ?_); (first | assumption | omega | decide | (simp only [S_len] at *; omega))) | (with_reducible exact rv_eq rfl) | (with_reducible exact rv_ne rfl) | ((with_reducible refine rc_lenS ?_); (first | assumption | omega | decide | (simp only [S_len] at *; omega))) | ((with_reducible refine rc_lenL ?_); assumption) | ((with_reducible apply rv_ixL); assumption; rfl) | ((with_reducible refine rv_catS ?_); (first | assumption | omega | decide | (simp only [S_len] at *; omega))) | ((with_reducible refine rv_I ?_); (first | (show (0 : Int) < _; (first | assumption | omega | decide | (simp only [S_len] at *; omega))) | exact .inr ⟨by decide, by decide⟩ | exact .inl ⟨by (first | assumption | omega | decide | (simp only [S_len] at *; omega)), by (first | assumption | omega | decide | (simp only [S_len] at *; omega))⟩ | exact .inr ⟨by (first | assumption | omega | decide | (simp only [S_len] at *; omega)), by (first | assumption | omega | decide | (simp only [S_len] at *; omega))⟩ | exact ⟨by decide, by decide, by decide⟩ | exact wide_div (b := 128) (by (first | assumption | omega | decide | (simp only [S_len] at *; omega))) (by (first | assumption | omega | decide | (simp only [S_len] at *; omega))) (by decide) (by decide))))))) (fun hc H3 e3 => ?_) (fun hc H3 e3 => ?_)
    · refine sp_take_then (b := b) (many := 11) rfl (b1.ex (e2.trans e3)) (by exact ev_c) (by decide) (by decide) fun d1 H4 d10 d11 e4 b4 => ?_
      refine ⟨S SG, d1, SG.getD d1.toNat 0, rfl, rfl, sz_of (by decide), atI_i d10 (by show d1 < 11; omega) 0, ?_⟩
      refine sp_take_then (b := b) (many := 11) rfl b4 (by exact ev_c) (by decide) (by decide) fun d2 H5 d20 d21 e5 b5 => ?_
      refine ⟨S SG, d2, SG.getD d2.toNat 0, rfl, rfl, sz_of (by decide), atI_i d20 (by show d2 < 11; omega) 0, ?_⟩
      refine ⟨S [SG.getD d1.toNat 0], S [SG.getD d2.toNat 0], rfl, rfl, sz_of (by rw [S_len, S_len]; simp), ?_⟩
      rw [S_app]
      refine q _ H5 ?_ (by simp) (by simp) ((e1.trans (ExB.of (e2.trans e3))).trans (e4.trans e5)) b5
      intro c hc
      have hm : ∀ d : Int, 0 ≤ d → d < 11 → SG.getD d.toNat 0 ∈ SG := fun d h0 h1 => by
        have hlt : d.toNat < SG.length := by show d.toNat < 11; omega
        rw [List.getD_eq_getElem?_getD, List.getElem?_eq_getElem hlt]
        exact List.getElem_mem hlt
      have hc2 : c = SG.getD d1.toNat 0 ∨ c = SG.getD d2.toNat 0 := by simpa using hc
      rcases hc2 with rfl | rfl
      · exact hm d1 d10 d11
      · exact hm d2 d20 d21
    · exact s_ret (by exact ev_c) fun H4 e4 => q SG H4 (fun c h => h) (by decide) (by decide) (e1.trans (ExB.of ((e2.trans e3).trans e4))) (b1.ex ((e2.trans e3).trans e4))
def sp_law_size : Sp := fun vs H Q _ => ∃ b, vs = [.ref b] ∧ Bx H b ∧ ∀ n H', 0 ≤ n → n ≤ 60 → ExB b H H' → Bx H' b → Q (.int n) H'
theorem ok_law_size (T : Tx K mg w) : OkD P w K mg base 2 d_law_size ps_law_size sp_law_size := by
  refine (h_law_size T).ok sc_law_size (fun vs H Q E h => ?_) (fun cdv A outer s H vs Q E hr h => ⟨_,
      (pss_cons (ps_set (i := 1) sc_law_size.nd rfl (Or.inl rfl) (pe_call (ok_law_take (P := P) (w := w) (base := base) T) (hr.mono (by decide)) (by rfl) (m_law_take T) (k_law_take T) (b_law_take T) .nil passN (pa_cons (pv 0) (pa_cons pe_int pa_nil))))
      (pss_cons (ps_if (pt_cmpR op_eq (pv 1) pe_int (nomark _)) (pss_one (ps_ret (pe_call (ok_law_take (P := P) (w := w) (base := base) T) (hr.mono (by decide)) (by rfl) (m_law_take T) (k_law_take T) (b_law_take T) .nil passN (pa_cons (pv 0) (pa_cons pe_int pa_nil))))) pss_nil)
      (pss_cons (ps_if (pt_cmpR op_eq (pv 1) pe_int (nomark _)) (pss_one (ps_ret (pe_call (ok_law_take (P := P) (w := w) (base := base) T) (hr.mono (by decide)) (by rfl) (m_law_take T) (k_law_take T) (b_law_take T) .nil passN (pa_cons (pv 0) (pa_cons pe_int pa_nil))))) pss_nil)
      (pss_one (ps_ret (pe_call (ok_law_take (P := P) (w := w) (base := base) T) (hr.mono (by decide)) (by rfl) (m_law_take T) (k_law_take T) (b_law_take T) .nil passN (pa_cons (pv 0) (pa_cons pe_int pa_nil)))))))), ?_⟩)
  · obtain ⟨b, rfl, _⟩ := h
    rfl
  · obtain ⟨b, rfl, hb, q⟩ := h
    refine sp_take_then (b := b) (many := 6) rfl hb (by exact ev_c) (by decide) (by decide) fun m H1 m0 m1 e1 b1 => ?_
    dsimp only
    refine q_when (b := decide (m = 0)) (by first | ((with_reducible apply et_test); (repeat' (first | ((with_reducible refine ev_pow10 ?_ ?_ ?_) <;> first | rfl | decide) | (with_reducible refine fun (_ : _ = true) => ?_) | (with_reducible refine fun (_ : _ = false) => ?_) | (with_reducible exact ev_c) | ((with_reducible apply ev_var); rfl) | (with_reducible apply ev_op) | (with_reducible apply ev_un) | (with_reducible apply ev_cb) | (with_reducible apply ea_cons) | (with_reducible apply ev_andV) | (with_reducible apply ev_orV) | (with_reducible apply ev_notV) | (with_reducible apply ev_if) | (with_reducible apply eo_some) | (with_reducible apply el_lst) | (with_reducible exact ea_nil) | (with_reducible exact rv_I0) | (with_reducible exact ru_neg) | (with_reducible exact rv_ltS) | (with_reducible exact rv_inC) | (with_reducible exact rv_notInC) | (with_reducible exact rc_intI) | (with_reducible exact rc_intB) | (with_reducible exact rc_min2) | (with_reducible exact rc_isStr) | (with_reducible exact eo_none) | (with_reducible exact rv_inSS) | (with_reducible exact rv_notInSS) | (with_reducible exact rv_ltSS) | (with_reducible exact rv_eqSS) | (with_reducible exact rv_eqII) | (with_reducible exact rv_neII) | (with_reducible exact rv_neSS) | ((with_reducible refine rc_lenSS ?_); (first | assumption | omega | decide | (simp only [S_len] at *; omega))) | ((with_reducible refine rc_lenStr ?_); (first | assumption | omega | decide | (simp only [S_len] at *; omega))) | ((with_reducible refine rv_catSS ?_); (first | assumption | omega | decide | (simp only [S_len] at *; omega))) | (with_reducible exact rv_eq rfl) | (with_reducible exact rv_ne rfl) | ((with_reducible refine rc_lenS ?_); (first | assumption | omega | decide | (simp only [S_len] at *; omega))) | ((with_reducible refine rc_lenL ?_); assumption) | ((with_reducible apply rv_ixL); assumption; rfl) | ((with_reducible refine rv_catS ?_); (first | assumption | omega | decide | (simp only [S_len] at *; omega))) | ((with_reducible refine rv_I ?_); (first | (show (0 : Int) < _; (first | assumption | omega | decide | (simp only [S_len] at *; omega))) | exact .inr ⟨by decide, by decide⟩ | exact .inl ⟨by (first | assumption | omega | decide | (simp only [S_len] at *; omega)), by (first | assumption | omega | decide | (simp only [S_len] at *; omega))⟩ | exact .inr ⟨by (first | assumption | omega | decide | (simp only [S_len] at *; omega)), by (first | assumption | omega | decide | (simp only [S_len] at *; omega))⟩ | exact ⟨by decide, by decide, by decide⟩ | exact wide_div (b := 128) (by (first | assumption | omega | decide | (simp only [S_len] at *; omega))) (by (first | assumption | omega | decide | (simp only [S_len] at *; omega))) (by decide) (by decide)))))) | ((with_reducible apply et_B); (repeat' (first | ((with_reducible refine ev_pow10 ?_ ?_ ?_) <;> first | rfl | decide) | (with_reducible refine fun (_ : _ = true) => ?_) | (with_reducible refine fun (_ : _ = false) => ?_) | (with_reducible exact ev_c) | ((with_reducible apply ev_var); rfl) | (with_reducible apply ev_op) | (with_reducible apply ev_un) | (with_reducible apply ev_cb) | (with_reducible apply ea_cons) | (with_reducible apply ev_andV) | (with_reducible apply ev_orV) | (with_reducible apply ev_notV) | (with_reducible apply ev_if) | (with_reducible apply eo_some) | (with_reducible apply el_lst) | (with_reducible exact ea_nil) | (with_reducible exact rv_I0) | (with_reducible exact ru_neg) | (with_reducible exact rv_ltS) | (with_reducible exact rv_inC) | (with_reducible exact rv_notInC) | (with_reducible exact rc_intI) | (with_reducible exact rc_intB) | (with_reducible exact rc_min2) | (with_reducible exact rc_isStr) | (with_reducible exact eo_none) | (with_reducible exact rv_inSS) | (with_reducible exact rv_notInSS) | (with_reducible exact rv_ltSS) | (with_reducible exact rv_eqSS) | (with_reducible exact rv_eqII) | (with_reducible exact rv_neII) | (with_reducible exact rv_neSS) | ((with_reducible refine rc_lenSS ?_); (first | assumption | omega | decide | (simp only [S_len] at *; omega))) | ((with_reducible refine rc_lenStr ?_); (first | assumption | omega | decide | (simp only [S_len] at *; omega))) | ((with_reducible refine rv_catSS ?_); (first | assumption | omega | decide | (simp only [S_len] at *; omega))) | (with_reducible exact rv_eq rfl) | (with_reducible exact rv_ne rfl) | ((with_reducible refine rc_lenS ?_); (first | assumption | omega | decide | (simp only [S_len] at *; omega))) | ((with_reducible refine rc_lenL ?_); assumption) | ((with_reducible apply rv_ixL); assumption; rfl) | ((with_reducible refine rv_catS ?_); (first | assumption | omega | decide | (simp only [S_len] at *; omega))) | ((with_reducible refine rv_I ?_); (first | (show (0 : Int) < _; (first | assumption | omega | decide | (simp only [S_len] at *; omega))) | exact .inr ⟨by decide, by decide⟩ | exact .inl ⟨by (first | assumption | omega | decide | (simp only [S_len] at *; omega)), by (first | assumption | omega | decide | (simp only [S_len] at *; omega))⟩ | exact .inr ⟨by (first | assumption | omega | decide | (simp only [S_len] at *; omega)), by (first | assumption | omega | decide | (simp only [S_len] at *; omega))⟩ | exact ⟨by decide, by decide, by decide⟩ | exact wide_div (b := 128) (by (first | assumption | omega | decide | (simp only [S_len] at *; omega))) (by (first | assumption | omega | decide | (simp only [S_len] at *; omega))) (by decide) (by decide))))))) (fun hc H2 e2 => ?_) (fun hc H2 e2 => ?_)
    · exact sp_take_then (b := b) (many := 4) rfl (b1.ex e2) (by exact ev_c) (by decide) (by decide) fun d H3 d0 d1 e3 b3 => q d H3 d0 (by omega) ((e1.trans (ExB.of e2)).trans e3) b3
    refine q_when (b := decide (m = 5)) (by first | ((with_reducible apply et_test); (repeat' (first | ((with_reducible refine ev_pow10 ?_ ?_ ?_) <;> first | rfl | decide) | (with_reducible refine fun (_ : _ = true) => ?_) | (with_reducible refine fun (_ : _ = false) => ?_) | (with_reducible exact ev_c) | ((with_reducible apply ev_var); rfl) | (with_reducible apply ev_op) | (with_reducible apply ev_un) | (with_reducible apply ev_cb) | (with_reducible apply ea_cons) | (with_reducible apply ev_andV) | (with_reducible apply ev_orV) | (with_reducible apply ev_notV) | (with_reducible apply ev_if) | (with_reducible apply eo_some) | (with_reducible apply el_lst) | (with_reducible exact ea_nil) | (with_reducible exact rv_I0) | (with_reducible exact ru_neg) | (with_reducible exact rv_ltS) | (with_reducible exact rv_inC) | (with_reducible exact rv_notInC) | (with_reducible exact rc_intI) | (with_reducible exact rc_intB) | (with_reducible exact rc_min2) | (with_reducible exact rc_isStr) | (with_reducible exact eo_none) | (with_reducible exact rv_inSS) | (with_reducible exact rv_notInSS) | (with_reducible exact rv_ltSS) | (with_reducible exact rv_eqSS) | (with_reducible exact rv_eqII) | (with_reducible exact rv_neII) | (with_reducible exact rv_neSS) | ((with_reducible refine rc_lenSS ?_); (first | assumption | omega | decide | (simp only [S_len] at *; omega))) | ((with_reducible refine rc_lenStr ?_); (first | assumption | omega | decide | (simp only [S_len] at *; omega))) | ((with_reducible refine rv_catSS ?_); (first | assumption | omega | decide | (simp only [S_len] at *; omega))) | (with_reducible exact rv_eq rfl) | (with_reducible exact rv_ne rfl) | ((with_reducible refine rc_lenS ?_); (first | assumption | omega | decide | (simp only [S_len] at *; omega))) | ((with_reducible refine rc_lenL ?_); assumption) | ((with_reducible apply rv_ixL); assumption; rfl) | ((with_reducible refine rv_catS ?_); (first | assumption | omega | decide | (simp only [S_len] at *; omega))) | ((with_reducible refine rv_I ?_); (first | (show (0 : Int) < _; (first | assumption | omega | decide | (simp only [S_len] at *; omega))) | exact .inr ⟨by decide, by decide⟩ | exact .inl ⟨by (first | assumption | omega | decide | (simp only [S_len] at *; omega)), by (first | assumption | omega | decide | (simp only [S_len] at *; omega))⟩ | exact .inr ⟨by (first | assumption | omega | decide | (simp only [S_len] at *; omega)), by (first | assumption | omega | decide | (simp only [S_len] at *; omega))⟩ | exact ⟨by decide, by decide, by decide⟩ | exact wide_div (b := 128) (by (first | assumption | omega | decide | (simp only [S_len] at *; omega))) (by (first | assumption | omega | decide | (simp only [S_len] at *; omega))) (by decide) (by decide)))))) | ((with_reducible apply et_B); (repeat' (first | ((with_reducible refine ev_pow10 ?_ ?_ ?_) <;> first | rfl | decide) | (with_reducible refine fun (_ : _ = true) => ?_) | (with_reducible refine fun (_ : _ = false) => ?_) | (with_reducible exact ev_c) | ((with_reducible apply ev_var); rfl) | (with_reducible apply ev_op) | (with_reducible apply ev_un) | (with_reducible apply ev_cb) | (with_reducible apply ea_cons) | (with_reducible apply ev_andV) | (with_reducible apply ev_orV) | (with_reducible apply ev_notV) | (with_reducible apply ev_if) | (with_reducible apply eo_some) | (with_reducible apply el_lst) | (with_reducible exact ea_nil) | (with_reducible exact rv_I0) | (with_reducible exact ru_neg) | (with_reducible exact rv_ltS) | (with_reducible exact rv_inC) | (with_reducible exact rv_notInC) | (with_reducible exact rc_intI) | (with_reducible exact rc_intB) | (with_reducible exact rc_min2) | (with_reducible exact rc_isStr) | (with_reducible exact eo_none) | (with_reducible exact rv_inSS) | (with_reducible exact rv_notInSS) | (with_reducible exact rv_ltSS) | (with_reducible exact rv_eqSS) | (with_reducible exact rv_eqII) | (with_reducible exact rv_neII) | (with_reducible exact rv_neSS) | ((with_reducible refine rc_lenSS ?_); (first | assumption | omega | decide | (simp only [S_len] at *; omega))) | ((with_reducible refine rc_lenStr ?_); (first | assumption | omega | decide | (simp only [S_len] at *; omega))) | ((with_reducible refine rv_catSS ?_); (first | assumption | omega | decide | (simp only [S_len] at *; omega))) | (with_reducible exact rv_eq rfl) | (with_reducible exact rv_ne rfl) | ((with_reducible refine rc_lenS ?_); (first | assumption | omega | decide | (simp only [S_len] at *; omega))) | ((with_reducible refine rc_lenL ?_); assumption) | ((with_reducible apply rv_ixL); assumption; rfl) | ((with_reducible refine rv_catS ?_); (first | assumption | omega | decide | (simp only [S_len] at *; omega))) | ((with_reducible refine rv_I ?_); (first | (show (0 : Int) < _; (first | assumption | omega | decide | (simp only [S_len] at *; omega))) | exact .inr ⟨by decide, by decide⟩ | exact .inl ⟨by (first | assumption | omega | decide | (simp only [S_len] at *; omega)), by (first | assumption | omega | decide | (simp only [S_len] at *; omega))⟩ | exact .inr ⟨by (first | assumption | omega | decide | (simp only [S_len] at *; omega)), by (first | assumption | omega | decide | (simp only [S_len] at *; omega))⟩ | exact ⟨by decide, by decide, by decide⟩ | exact wide_div (b := 128) (by (first | assumption | omega | decide | (simp only [S_len] at *; omega))) (by (first | assumption | omega | decide | (simp only [S_len] at *; omega))) (by decide) (by decide))))))) (fun hc H3 e3 => ?_) (fun hc H3 e3 => ?_)
    · exact sp_take_then (b := b) (many := 61) rfl (b1.ex (e2.trans e3)) (by exact ev_c) (by decide) (by decide) fun d H4 d0 d1 e4 b4 => q d H4 d0 (by omega) ((e1.trans (ExB.of (e2.trans e3))).trans e4) b4
    · exact sp_take_then (b := b) (many := 13) rfl (b1.ex (e2.trans e3)) (by exact ev_c) (by decide) (by decide) fun d H4 d0 d1 e4 b4 => q d H4 d0 (by omega) ((e1.trans (ExB.of (e2.trans e3))).trans e4) b4
end
end K00
namespace K00
open PySem PySem.Spec PyProof.Rows L2 Lc Evl
section
variable {P : Program} {w : World} {K : PySem.W.Frag} {mg : Str → Option Value} {base : Heap}
/-! ### the twenty errors -/
abbrev cL (K : PySem.W.Frag) : Addr := He.ga K "LeapError"
theorem reprS_len {l : List Nat} (h : l.length ≤ 1000) (hc : ∀ c ∈ l, c < 128) : (reprText (S l)).length ≤ 20000 := by
  have h1 := PySem.StrLaws.reprText_len (S l) fun c hm => Nat.lt_trans (hc c hm) (by decide)
  rw [S_len] at h1
  omega
theorem len_app (a b : Str) : (a ++ b).length = a.length + b.length := by
  rw [TL.len_tl, TL.len_tl, TL.len_tl, TL.tl_append, List.length_append]
/-- what an error's __init__ leaves behind -/
def Made (K : PySem.W.Frag) (c f : Str) (H : Hp) (a : Addr) (x : V) (Q : VK) : Prop := H a = some (exo a (He.ga K c) none) ∧ ∀ dx, H dx = none → dx ≠ a → Q .non (upd (upd H dx (exd dx [(f, x)])) a (exo a (He.ga K c) (some dx)))
/-- the values that an error keeps -/
def KS (x : V) : Prop := ∃ l : List Nat, x = .str (S l) ∧ l.length ≤ 1000 ∧ ∀ c ∈ l, c < 128
def KI (x : V) : Prop := ∃ i : Int, x = .int i ∧ i.natAbs.log2 < 1900
def KT (H : Hp) (x : V) : Prop := ∃ (t : Addr) (l : List Nat), x = .ref t ∧ H t = some (.tup [.str "stuck", .str (S l)]) ∧ l.length ≤ 1000 ∧ ∀ c ∈ l, c < 128
theorem int_len {i : Int} (h : i.natAbs.log2 < 1900) : (Str.ofString (toString i)).length ≤ 1901 := by
  have e := PySem.int_text_length_le (k := 1900) (by decide) h
  rw [PySem.ofString_length]
  exact e

theorem mem_InvalidRow : (("InvalidRow", "row") : Str × Str) ∈ ec := by unfold ec; simp only [List.mem_cons, true_or, or_true]
theorem x_InvalidRow (T : Tx K mg w) : XF K "InvalidRow" "row" := xE T mem_InvalidRow
def sp_InvalidRow_init (K : PySem.W.Frag) : Sp := fun vs H Q _ => ∃ (a : Addr) (x : V), vs = [.ref a, x] ∧ KS x ∧ Made K "InvalidRow" "row" H a x Q
theorem ok_InvalidRow_init (T : Tx K mg w) : OkD P w K mg base 1 d_InvalidRow_init ps_InvalidRow_init (sp_InvalidRow_init K) := by
  refine (h_InvalidRow_init T).ok sc_InvalidRow_init (fun vs H Q E h => ?_) (fun cdv A outer s H vs Q E hr h => ⟨_,
      (pss_cons (ps_expr (pe_ownInit (CL := cL K) (by rfl) (m_LeapError T) (by decide) (x_InvalidRow T).sp (x_InvalidRow T).rd (x_InvalidRow T).vV (pa_cons (pv 0) (pa_cons (pe_joined (.cons pe_str (.cons (pe_fmtR (pv 1)) .nil))) pa_nil))))
      (pss_one (ps_ost (pv 0) (pv 1)))), ?_⟩)
  · obtain ⟨a, x, rfl, _⟩ := h
    rfl
  · obtain ⟨a, x, rfl, ⟨l, rfl, hl, hc⟩, ha, q⟩ := h
    have hrp := reprS_len hl hc
    refine ⟨_, rfl, ?_⟩
    refine ⟨_, rfl, by decide +kernel, ?_⟩
    refine ⟨_, rfl, .inl ⟨_, rfl, sz_of (by omega), ?_⟩⟩
    refine ⟨_, rfl, ?_, ?_⟩
    · rw [len_app, len_app]
      have h1 : (Str.empty).length = 0 := by decide +kernel
      have h2 : (Str.ofString "a sign is not allowed in this row: ").length ≤ 100 := by decide +kernel
      exact sz_of (by omega)
    refine ⟨a, He.ga K "InvalidRow", _, rfl, by simp, (x_InvalidRow T).oex, ha, ?_⟩
    exact ⟨_, rfl, _, rfl, a, He.ga K "InvalidRow", rfl, (x_InvalidRow T).oex, (x_InvalidRow T).no, .inl ⟨ha, fun dx hd hda => q dx hd hda⟩⟩
theorem mem_InvalidPlace : (("InvalidPlace", "place") : Str × Str) ∈ ec := by unfold ec; simp only [List.mem_cons, true_or, or_true]
theorem x_InvalidPlace (T : Tx K mg w) : XF K "InvalidPlace" "place" := xE T mem_InvalidPlace
def sp_InvalidPlace_init (K : PySem.W.Frag) : Sp := fun vs H Q _ => ∃ (a : Addr) (x : V), vs = [.ref a, x] ∧ KI x ∧ Made K "InvalidPlace" "place" H a x Q
theorem ok_InvalidPlace_init (T : Tx K mg w) : OkD P w K mg base 1 d_InvalidPlace_init ps_InvalidPlace_init (sp_InvalidPlace_init K) := by
  refine (h_InvalidPlace_init T).ok sc_InvalidPlace_init (fun vs H Q E h => ?_) (fun cdv A outer s H vs Q E hr h => ⟨_,
      (pss_cons (ps_expr (pe_ownInit (CL := cL K) (by rfl) (m_LeapError T) (by decide) (x_InvalidPlace T).sp (x_InvalidPlace T).rd (x_InvalidPlace T).vV (pa_cons (pv 0) (pa_cons (pe_joined (.cons pe_str (.cons (pe_fmtR (pv 1)) .nil))) pa_nil))))
      (pss_one (ps_ost (pv 0) (pv 1)))), ?_⟩)
  · obtain ⟨a, x, rfl, _⟩ := h
    rfl
  · obtain ⟨a, x, rfl, ⟨i, rfl, hi⟩, ha, q⟩ := h
    refine ⟨_, rfl, ?_⟩
    refine ⟨_, rfl, by decide +kernel, ?_⟩
    refine ⟨_, rfl, .inr ⟨_, rfl, Nat.lt_trans hi (by decide), ?_⟩⟩
    refine ⟨_, rfl, ?_, ?_⟩
    · rw [len_app, len_app]
      have h1 : (Str.empty).length = 0 := by decide +kernel
      have h2 : (Str.ofString "no such place: ").length ≤ 100 := by decide +kernel
      have h3 := int_len hi
      exact sz_of (by omega)
    refine ⟨a, He.ga K "InvalidPlace", _, rfl, by simp, (x_InvalidPlace T).oex, ha, ?_⟩
    exact ⟨_, rfl, _, rfl, a, He.ga K "InvalidPlace", rfl, (x_InvalidPlace T).oex, (x_InvalidPlace T).no, .inl ⟨ha, fun dx hd hda => q dx hd hda⟩⟩
theorem mem_InvalidJump : (("InvalidJump", "text") : Str × Str) ∈ ec := by unfold ec; simp only [List.mem_cons, true_or, or_true]
theorem x_InvalidJump (T : Tx K mg w) : XF K "InvalidJump" "text" := xE T mem_InvalidJump
def sp_InvalidJump_init (K : PySem.W.Frag) : Sp := fun vs H Q _ => ∃ (a : Addr) (x : V), vs = [.ref a, x] ∧ KS x ∧ Made K "InvalidJump" "text" H a x Q
theorem ok_InvalidJump_init (T : Tx K mg w) : OkD P w K mg base 1 d_InvalidJump_init ps_InvalidJump_init (sp_InvalidJump_init K) := by
  refine (h_InvalidJump_init T).ok sc_InvalidJump_init (fun vs H Q E h => ?_) (fun cdv A outer s H vs Q E hr h => ⟨_,
      (pss_cons (ps_expr (pe_ownInit (CL := cL K) (by rfl) (m_LeapError T) (by decide) (x_InvalidJump T).sp (x_InvalidJump T).rd (x_InvalidJump T).vV (pa_cons (pv 0) (pa_cons (pe_joined (.cons pe_str (.cons (pe_fmtR (pv 1)) .nil))) pa_nil))))
      (pss_one (ps_ost (pv 0) (pv 1)))), ?_⟩)
  · obtain ⟨a, x, rfl, _⟩ := h
    rfl
  · obtain ⟨a, x, rfl, ⟨l, rfl, hl, hc⟩, ha, q⟩ := h
    have hrp := reprS_len hl hc
    refine ⟨_, rfl, ?_⟩
    refine ⟨_, rfl, by decide +kernel, ?_⟩
    refine ⟨_, rfl, .inl ⟨_, rfl, sz_of (by omega), ?_⟩⟩
    refine ⟨_, rfl, ?_, ?_⟩
    · rw [len_app, len_app]
      have h1 : (Str.empty).length = 0 := by decide +kernel
      have h2 : (Str.ofString "not a jump: ").length ≤ 100 := by decide +kernel
      exact sz_of (by omega)
    refine ⟨a, He.ga K "InvalidJump", _, rfl, by simp, (x_InvalidJump T).oex, ha, ?_⟩
    exact ⟨_, rfl, _, rfl, a, He.ga K "InvalidJump", rfl, (x_InvalidJump T).oex, (x_InvalidJump T).no, .inl ⟨ha, fun dx hd hda => q dx hd hda⟩⟩
theorem mem_InvalidCard : (("InvalidCard", "part") : Str × Str) ∈ ec := by unfold ec; simp only [List.mem_cons, true_or, or_true]
theorem x_InvalidCard (T : Tx K mg w) : XF K "InvalidCard" "part" := xE T mem_InvalidCard
def sp_InvalidCard_init (K : PySem.W.Frag) : Sp := fun vs H Q _ => ∃ (a : Addr) (x : V), vs = [.ref a, x] ∧ KS x ∧ Made K "InvalidCard" "part" H a x Q
theorem ok_InvalidCard_init (T : Tx K mg w) : OkD P w K mg base 1 d_InvalidCard_init ps_InvalidCard_init (sp_InvalidCard_init K) := by
  refine (h_InvalidCard_init T).ok sc_InvalidCard_init (fun vs H Q E h => ?_) (fun cdv A outer s H vs Q E hr h => ⟨_,
      (pss_cons (ps_expr (pe_ownInit (CL := cL K) (by rfl) (m_LeapError T) (by decide) (x_InvalidCard T).sp (x_InvalidCard T).rd (x_InvalidCard T).vV (pa_cons (pv 0) (pa_cons (pe_joined (.cons pe_str (.cons (pe_fmtR (pv 1)) .nil))) pa_nil))))
      (pss_one (ps_ost (pv 0) (pv 1)))), ?_⟩)
  · obtain ⟨a, x, rfl, _⟩ := h
    rfl
  · obtain ⟨a, x, rfl, ⟨l, rfl, hl, hc⟩, ha, q⟩ := h
    have hrp := reprS_len hl hc
    refine ⟨_, rfl, ?_⟩
    refine ⟨_, rfl, by decide +kernel, ?_⟩
    refine ⟨_, rfl, .inl ⟨_, rfl, sz_of (by omega), ?_⟩⟩
    refine ⟨_, rfl, ?_, ?_⟩
    · rw [len_app, len_app]
      have h1 : (Str.empty).length = 0 := by decide +kernel
      have h2 : (Str.ofString "wrong part of a card: ").length ≤ 100 := by decide +kernel
      exact sz_of (by omega)
    refine ⟨a, He.ga K "InvalidCard", _, rfl, by simp, (x_InvalidCard T).oex, ha, ?_⟩
    exact ⟨_, rfl, _, rfl, a, He.ga K "InvalidCard", rfl, (x_InvalidCard T).oex, (x_InvalidCard T).no, .inl ⟨ha, fun dx hd hda => q dx hd hda⟩⟩
theorem mem_InvalidBoard : (("InvalidBoard", "board") : Str × Str) ∈ ec := by unfold ec; simp only [List.mem_cons, true_or, or_true]
theorem x_InvalidBoard (T : Tx K mg w) : XF K "InvalidBoard" "board" := xE T mem_InvalidBoard
def sp_InvalidBoard_init (K : PySem.W.Frag) : Sp := fun vs H Q _ => ∃ (a : Addr) (x : V), vs = [.ref a, x] ∧ KS x ∧ Made K "InvalidBoard" "board" H a x Q
theorem ok_InvalidBoard_init (T : Tx K mg w) : OkD P w K mg base 1 d_InvalidBoard_init ps_InvalidBoard_init (sp_InvalidBoard_init K) := by
  refine (h_InvalidBoard_init T).ok sc_InvalidBoard_init (fun vs H Q E h => ?_) (fun cdv A outer s H vs Q E hr h => ⟨_,
      (pss_cons (ps_expr (pe_ownInit (CL := cL K) (by rfl) (m_LeapError T) (by decide) (x_InvalidBoard T).sp (x_InvalidBoard T).rd (x_InvalidBoard T).vV (pa_cons (pv 0) (pa_cons (pe_joined (.cons pe_str (.cons (pe_fmtR (pv 1)) .nil))) pa_nil))))
      (pss_one (ps_ost (pv 0) (pv 1)))), ?_⟩)
  · obtain ⟨a, x, rfl, _⟩ := h
    rfl
  · obtain ⟨a, x, rfl, ⟨l, rfl, hl, hc⟩, ha, q⟩ := h
    have hrp := reprS_len hl hc
    refine ⟨_, rfl, ?_⟩
    refine ⟨_, rfl, by decide +kernel, ?_⟩
    refine ⟨_, rfl, .inl ⟨_, rfl, sz_of (by omega), ?_⟩⟩
    refine ⟨_, rfl, ?_, ?_⟩
    · rw [len_app, len_app]
      have h1 : (Str.empty).length = 0 := by decide +kernel
      have h2 : (Str.ofString "not a board: ").length ≤ 100 := by decide +kernel
      exact sz_of (by omega)
    refine ⟨a, He.ga K "InvalidBoard", _, rfl, by simp, (x_InvalidBoard T).oex, ha, ?_⟩
    exact ⟨_, rfl, _, rfl, a, He.ga K "InvalidBoard", rfl, (x_InvalidBoard T).oex, (x_InvalidBoard T).no, .inl ⟨ha, fun dx hd hda => q dx hd hda⟩⟩
theorem mem_NoJump : (("NoJump", "index") : Str × Str) ∈ ec := by unfold ec; simp only [List.mem_cons, true_or, or_true]
theorem x_NoJump (T : Tx K mg w) : XF K "NoJump" "index" := xE T mem_NoJump
def sp_NoJump_init (K : PySem.W.Frag) : Sp := fun vs H Q _ => ∃ (a : Addr) (x : V), vs = [.ref a, x] ∧ KI x ∧ Made K "NoJump" "index" H a x Q
theorem ok_NoJump_init (T : Tx K mg w) : OkD P w K mg base 1 d_NoJump_init ps_NoJump_init (sp_NoJump_init K) := by
  refine (h_NoJump_init T).ok sc_NoJump_init (fun vs H Q E h => ?_) (fun cdv A outer s H vs Q E hr h => ⟨_,
      (pss_cons (ps_expr (pe_ownInit (CL := cL K) (by rfl) (m_LeapError T) (by decide) (x_NoJump T).sp (x_NoJump T).rd (x_NoJump T).vV (pa_cons (pv 0) (pa_cons (pe_joined (.cons pe_str (.cons (pe_fmtR (pv 1)) .nil))) pa_nil))))
      (pss_one (ps_ost (pv 0) (pv 1)))), ?_⟩)
  · obtain ⟨a, x, rfl, _⟩ := h
    rfl
  · obtain ⟨a, x, rfl, ⟨i, rfl, hi⟩, ha, q⟩ := h
    refine ⟨_, rfl, ?_⟩
    refine ⟨_, rfl, by decide +kernel, ?_⟩
    refine ⟨_, rfl, .inr ⟨_, rfl, Nat.lt_trans hi (by decide), ?_⟩⟩
    refine ⟨_, rfl, ?_, ?_⟩
    · rw [len_app, len_app]
      have h1 : (Str.empty).length = 0 := by decide +kernel
      have h2 : (Str.ofString "this move cannot be made: ").length ≤ 100 := by decide +kernel
      have h3 := int_len hi
      exact sz_of (by omega)
    refine ⟨a, He.ga K "NoJump", _, rfl, by simp, (x_NoJump T).oex, ha, ?_⟩
    exact ⟨_, rfl, _, rfl, a, He.ga K "NoJump", rfl, (x_NoJump T).oex, (x_NoJump T).no, .inl ⟨ha, fun dx hd hda => q dx hd hda⟩⟩
theorem mem_TooMany : (("TooMany", "limit") : Str × Str) ∈ ec := by unfold ec; simp only [List.mem_cons, true_or, or_true]
theorem x_TooMany (T : Tx K mg w) : XF K "TooMany" "limit" := xE T mem_TooMany
def sp_TooMany_init (K : PySem.W.Frag) : Sp := fun vs H Q _ => ∃ (a : Addr) (x : V), vs = [.ref a, x] ∧ KI x ∧ Made K "TooMany" "limit" H a x Q
theorem ok_TooMany_init (T : Tx K mg w) : OkD P w K mg base 1 d_TooMany_init ps_TooMany_init (sp_TooMany_init K) := by
  refine (h_TooMany_init T).ok sc_TooMany_init (fun vs H Q E h => ?_) (fun cdv A outer s H vs Q E hr h => ⟨_,
      (pss_cons (ps_expr (pe_ownInit (CL := cL K) (by rfl) (m_LeapError T) (by decide) (x_TooMany T).sp (x_TooMany T).rd (x_TooMany T).vV (pa_cons (pv 0) (pa_cons (pe_joined (.cons pe_str (.cons (pe_fmtR (pv 1)) .nil))) pa_nil))))
      (pss_one (ps_ost (pv 0) (pv 1)))), ?_⟩)
  · obtain ⟨a, x, rfl, _⟩ := h
    rfl
  · obtain ⟨a, x, rfl, ⟨i, rfl, hi⟩, ha, q⟩ := h
    refine ⟨_, rfl, ?_⟩
    refine ⟨_, rfl, by decide +kernel, ?_⟩
    refine ⟨_, rfl, .inr ⟨_, rfl, Nat.lt_trans hi (by decide), ?_⟩⟩
    refine ⟨_, rfl, ?_, ?_⟩
    · rw [len_app, len_app]
      have h1 : (Str.empty).length = 0 := by decide +kernel
      have h2 : (Str.ofString "more than the limit: ").length ≤ 100 := by decide +kernel
      have h3 := int_len hi
      exact sz_of (by omega)
    refine ⟨a, He.ga K "TooMany", _, rfl, by simp, (x_TooMany T).oex, ha, ?_⟩
    exact ⟨_, rfl, _, rfl, a, He.ga K "TooMany", rfl, (x_TooMany T).oex, (x_TooMany T).no, .inl ⟨ha, fun dx hd hda => q dx hd hda⟩⟩
theorem mem_InvalidMachine : (("InvalidMachine", "part") : Str × Str) ∈ ec := by unfold ec; simp only [List.mem_cons, true_or, or_true]
theorem x_InvalidMachine (T : Tx K mg w) : XF K "InvalidMachine" "part" := xE T mem_InvalidMachine
def sp_InvalidMachine_init (K : PySem.W.Frag) : Sp := fun vs H Q _ => ∃ (a : Addr) (x : V), vs = [.ref a, x] ∧ KS x ∧ Made K "InvalidMachine" "part" H a x Q
theorem ok_InvalidMachine_init (T : Tx K mg w) : OkD P w K mg base 1 d_InvalidMachine_init ps_InvalidMachine_init (sp_InvalidMachine_init K) := by
  refine (h_InvalidMachine_init T).ok sc_InvalidMachine_init (fun vs H Q E h => ?_) (fun cdv A outer s H vs Q E hr h => ⟨_,
      (pss_cons (ps_expr (pe_ownInit (CL := cL K) (by rfl) (m_LeapError T) (by decide) (x_InvalidMachine T).sp (x_InvalidMachine T).rd (x_InvalidMachine T).vV (pa_cons (pv 0) (pa_cons (pe_joined (.cons pe_str (.cons (pe_fmtR (pv 1)) .nil))) pa_nil))))
      (pss_one (ps_ost (pv 0) (pv 1)))), ?_⟩)
  · obtain ⟨a, x, rfl, _⟩ := h
    rfl
  · obtain ⟨a, x, rfl, ⟨l, rfl, hl, hc⟩, ha, q⟩ := h
    have hrp := reprS_len hl hc
    refine ⟨_, rfl, ?_⟩
    refine ⟨_, rfl, by decide +kernel, ?_⟩
    refine ⟨_, rfl, .inl ⟨_, rfl, sz_of (by omega), ?_⟩⟩
    refine ⟨_, rfl, ?_, ?_⟩
    · rw [len_app, len_app]
      have h1 : (Str.empty).length = 0 := by decide +kernel
      have h2 : (Str.ofString "wrong part of a machine: ").length ≤ 100 := by decide +kernel
      exact sz_of (by omega)
    refine ⟨a, He.ga K "InvalidMachine", _, rfl, by simp, (x_InvalidMachine T).oex, ha, ?_⟩
    exact ⟨_, rfl, _, rfl, a, He.ga K "InvalidMachine", rfl, (x_InvalidMachine T).oex, (x_InvalidMachine T).no, .inl ⟨ha, fun dx hd hda => q dx hd hda⟩⟩
theorem mem_Unlike : (("Unlike", "signs") : Str × Str) ∈ ec := by unfold ec; simp only [List.mem_cons, true_or, or_true]
theorem x_Unlike (T : Tx K mg w) : XF K "Unlike" "signs" := xE T mem_Unlike
def sp_Unlike_init (K : PySem.W.Frag) : Sp := fun vs H Q _ => ∃ (a : Addr) (x : V), vs = [.ref a, x] ∧ KS x ∧ Made K "Unlike" "signs" H a x Q
theorem ok_Unlike_init (T : Tx K mg w) : OkD P w K mg base 1 d_Unlike_init ps_Unlike_init (sp_Unlike_init K) := by
  refine (h_Unlike_init T).ok sc_Unlike_init (fun vs H Q E h => ?_) (fun cdv A outer s H vs Q E hr h => ⟨_,
      (pss_cons (ps_expr (pe_ownInit (CL := cL K) (by rfl) (m_LeapError T) (by decide) (x_Unlike T).sp (x_Unlike T).rd (x_Unlike T).vV (pa_cons (pv 0) (pa_cons (pe_joined (.cons pe_str (.cons (pe_fmtR (pv 1)) .nil))) pa_nil))))
      (pss_one (ps_ost (pv 0) (pv 1)))), ?_⟩)
  · obtain ⟨a, x, rfl, _⟩ := h
    rfl
  · obtain ⟨a, x, rfl, ⟨l, rfl, hl, hc⟩, ha, q⟩ := h
    have hrp := reprS_len hl hc
    refine ⟨_, rfl, ?_⟩
    refine ⟨_, rfl, by decide +kernel, ?_⟩
    refine ⟨_, rfl, .inl ⟨_, rfl, sz_of (by omega), ?_⟩⟩
    refine ⟨_, rfl, ?_, ?_⟩
    · rw [len_app, len_app]
      have h1 : (Str.empty).length = 0 := by decide +kernel
      have h2 : (Str.ofString "signs that do not go together: ").length ≤ 100 := by decide +kernel
      exact sz_of (by omega)
    refine ⟨a, He.ga K "Unlike", _, rfl, by simp, (x_Unlike T).oex, ha, ?_⟩
    exact ⟨_, rfl, _, rfl, a, He.ga K "Unlike", rfl, (x_Unlike T).oex, (x_Unlike T).no, .inl ⟨ha, fun dx hd hda => q dx hd hda⟩⟩
theorem mem_InvalidPattern : (("InvalidPattern", "index") : Str × Str) ∈ ec := by unfold ec; simp only [List.mem_cons, true_or, or_true]
theorem x_InvalidPattern (T : Tx K mg w) : XF K "InvalidPattern" "index" := xE T mem_InvalidPattern
def sp_InvalidPattern_init (K : PySem.W.Frag) : Sp := fun vs H Q _ => ∃ (a : Addr) (x : V), vs = [.ref a, x] ∧ KI x ∧ Made K "InvalidPattern" "index" H a x Q
theorem ok_InvalidPattern_init (T : Tx K mg w) : OkD P w K mg base 1 d_InvalidPattern_init ps_InvalidPattern_init (sp_InvalidPattern_init K) := by
  refine (h_InvalidPattern_init T).ok sc_InvalidPattern_init (fun vs H Q E h => ?_) (fun cdv A outer s H vs Q E hr h => ⟨_,
      (pss_cons (ps_expr (pe_ownInit (CL := cL K) (by rfl) (m_LeapError T) (by decide) (x_InvalidPattern T).sp (x_InvalidPattern T).rd (x_InvalidPattern T).vV (pa_cons (pv 0) (pa_cons (pe_joined (.cons pe_str (.cons (pe_fmtR (pv 1)) .nil))) pa_nil))))
      (pss_one (ps_ost (pv 0) (pv 1)))), ?_⟩)
  · obtain ⟨a, x, rfl, _⟩ := h
    rfl
  · obtain ⟨a, x, rfl, ⟨i, rfl, hi⟩, ha, q⟩ := h
    refine ⟨_, rfl, ?_⟩
    refine ⟨_, rfl, by decide +kernel, ?_⟩
    refine ⟨_, rfl, .inr ⟨_, rfl, Nat.lt_trans hi (by decide), ?_⟩⟩
    refine ⟨_, rfl, ?_, ?_⟩
    · rw [len_app, len_app]
      have h1 : (Str.empty).length = 0 := by decide +kernel
      have h2 : (Str.ofString "wrong character of a pattern at index: ").length ≤ 100 := by decide +kernel
      have h3 := int_len hi
      exact sz_of (by omega)
    refine ⟨a, He.ga K "InvalidPattern", _, rfl, by simp, (x_InvalidPattern T).oex, ha, ?_⟩
    exact ⟨_, rfl, _, rfl, a, He.ga K "InvalidPattern", rfl, (x_InvalidPattern T).oex, (x_InvalidPattern T).no, .inl ⟨ha, fun dx hd hda => q dx hd hda⟩⟩
theorem mem_InvalidTarget : (("InvalidTarget", "part") : Str × Str) ∈ ec := by unfold ec; simp only [List.mem_cons, true_or, or_true]
theorem x_InvalidTarget (T : Tx K mg w) : XF K "InvalidTarget" "part" := xE T mem_InvalidTarget
def sp_InvalidTarget_init (K : PySem.W.Frag) : Sp := fun vs H Q _ => ∃ (a : Addr) (x : V), vs = [.ref a, x] ∧ KS x ∧ Made K "InvalidTarget" "part" H a x Q
theorem ok_InvalidTarget_init (T : Tx K mg w) : OkD P w K mg base 1 d_InvalidTarget_init ps_InvalidTarget_init (sp_InvalidTarget_init K) := by
  refine (h_InvalidTarget_init T).ok sc_InvalidTarget_init (fun vs H Q E h => ?_) (fun cdv A outer s H vs Q E hr h => ⟨_,
      (pss_cons (ps_expr (pe_ownInit (CL := cL K) (by rfl) (m_LeapError T) (by decide) (x_InvalidTarget T).sp (x_InvalidTarget T).rd (x_InvalidTarget T).vV (pa_cons (pv 0) (pa_cons (pe_joined (.cons pe_str (.cons (pe_fmtR (pv 1)) .nil))) pa_nil))))
      (pss_one (ps_ost (pv 0) (pv 1)))), ?_⟩)
  · obtain ⟨a, x, rfl, _⟩ := h
    rfl
  · obtain ⟨a, x, rfl, ⟨l, rfl, hl, hc⟩, ha, q⟩ := h
    have hrp := reprS_len hl hc
    refine ⟨_, rfl, ?_⟩
    refine ⟨_, rfl, by decide +kernel, ?_⟩
    refine ⟨_, rfl, .inl ⟨_, rfl, sz_of (by omega), ?_⟩⟩
    refine ⟨_, rfl, ?_, ?_⟩
    · rw [len_app, len_app]
      have h1 : (Str.empty).length = 0 := by decide +kernel
      have h2 : (Str.ofString "wrong part of a target: ").length ≤ 100 := by decide +kernel
      exact sz_of (by omega)
    refine ⟨a, He.ga K "InvalidTarget", _, rfl, by simp, (x_InvalidTarget T).oex, ha, ?_⟩
    exact ⟨_, rfl, _, rfl, a, He.ga K "InvalidTarget", rfl, (x_InvalidTarget T).oex, (x_InvalidTarget T).no, .inl ⟨ha, fun dx hd hda => q dx hd hda⟩⟩
theorem mem_NotExact : (("NotExact", "row") : Str × Str) ∈ ec := by unfold ec; simp only [List.mem_cons, true_or, or_true]
theorem x_NotExact (T : Tx K mg w) : XF K "NotExact" "row" := xE T mem_NotExact
def sp_NotExact_init (K : PySem.W.Frag) : Sp := fun vs H Q _ => ∃ (a : Addr) (x : V), vs = [.ref a, x] ∧ KS x ∧ Made K "NotExact" "row" H a x Q
theorem ok_NotExact_init (T : Tx K mg w) : OkD P w K mg base 1 d_NotExact_init ps_NotExact_init (sp_NotExact_init K) := by
  refine (h_NotExact_init T).ok sc_NotExact_init (fun vs H Q E h => ?_) (fun cdv A outer s H vs Q E hr h => ⟨_,
      (pss_cons (ps_expr (pe_ownInit (CL := cL K) (by rfl) (m_LeapError T) (by decide) (x_NotExact T).sp (x_NotExact T).rd (x_NotExact T).vV (pa_cons (pv 0) (pa_cons (pe_joined (.cons pe_str (.cons (pe_fmtR (pv 1)) .nil))) pa_nil))))
      (pss_one (ps_ost (pv 0) (pv 1)))), ?_⟩)
  · obtain ⟨a, x, rfl, _⟩ := h
    rfl
  · obtain ⟨a, x, rfl, ⟨l, rfl, hl, hc⟩, ha, q⟩ := h
    have hrp := reprS_len hl hc
    refine ⟨_, rfl, ?_⟩
    refine ⟨_, rfl, by decide +kernel, ?_⟩
    refine ⟨_, rfl, .inl ⟨_, rfl, sz_of (by omega), ?_⟩⟩
    refine ⟨_, rfl, ?_, ?_⟩
    · rw [len_app, len_app]
      have h1 : (Str.empty).length = 0 := by decide +kernel
      have h2 : (Str.ofString "the machine is not exact at this row: ").length ≤ 100 := by decide +kernel
      exact sz_of (by omega)
    refine ⟨a, He.ga K "NotExact", _, rfl, by simp, (x_NotExact T).oex, ha, ?_⟩
    exact ⟨_, rfl, _, rfl, a, He.ga K "NotExact", rfl, (x_NotExact T).oex, (x_NotExact T).no, .inl ⟨ha, fun dx hd hda => q dx hd hda⟩⟩
theorem mem_NoMachine : (("NoMachine", "most") : Str × Str) ∈ ec := by unfold ec; simp only [List.mem_cons, true_or, or_true]
theorem x_NoMachine (T : Tx K mg w) : XF K "NoMachine" "most" := xE T mem_NoMachine
def sp_NoMachine_init (K : PySem.W.Frag) : Sp := fun vs H Q _ => ∃ (a : Addr) (x : V), vs = [.ref a, x] ∧ KI x ∧ Made K "NoMachine" "most" H a x Q
theorem ok_NoMachine_init (T : Tx K mg w) : OkD P w K mg base 1 d_NoMachine_init ps_NoMachine_init (sp_NoMachine_init K) := by
  refine (h_NoMachine_init T).ok sc_NoMachine_init (fun vs H Q E h => ?_) (fun cdv A outer s H vs Q E hr h => ⟨_,
      (pss_cons (ps_expr (pe_ownInit (CL := cL K) (by rfl) (m_LeapError T) (by decide) (x_NoMachine T).sp (x_NoMachine T).rd (x_NoMachine T).vV (pa_cons (pv 0) (pa_cons (pe_joined (.cons pe_str (.cons (pe_fmtR (pv 1)) .nil))) pa_nil))))
      (pss_one (ps_ost (pv 0) (pv 1)))), ?_⟩)
  · obtain ⟨a, x, rfl, _⟩ := h
    rfl
  · obtain ⟨a, x, rfl, ⟨i, rfl, hi⟩, ha, q⟩ := h
    refine ⟨_, rfl, ?_⟩
    refine ⟨_, rfl, by decide +kernel, ?_⟩
    refine ⟨_, rfl, .inr ⟨_, rfl, Nat.lt_trans hi (by decide), ?_⟩⟩
    refine ⟨_, rfl, ?_, ?_⟩
    · rw [len_app, len_app]
      have h1 : (Str.empty).length = 0 := by decide +kernel
      have h2 : (Str.ofString "no exact machine with at most this many states: ").length ≤ 100 := by decide +kernel
      have h3 := int_len hi
      exact sz_of (by omega)
    refine ⟨a, He.ga K "NoMachine", _, rfl, by simp, (x_NoMachine T).oex, ha, ?_⟩
    exact ⟨_, rfl, _, rfl, a, He.ga K "NoMachine", rfl, (x_NoMachine T).oex, (x_NoMachine T).no, .inl ⟨ha, fun dx hd hda => q dx hd hda⟩⟩
theorem mem_InvalidMeasure : (("InvalidMeasure", "measure") : Str × Str) ∈ ec := by unfold ec; simp only [List.mem_cons, true_or, or_true]
theorem x_InvalidMeasure (T : Tx K mg w) : XF K "InvalidMeasure" "measure" := xE T mem_InvalidMeasure
def sp_InvalidMeasure_init (K : PySem.W.Frag) : Sp := fun vs H Q _ => ∃ (a : Addr) (x : V), vs = [.ref a, x] ∧ KS x ∧ Made K "InvalidMeasure" "measure" H a x Q
theorem ok_InvalidMeasure_init (T : Tx K mg w) : OkD P w K mg base 1 d_InvalidMeasure_init ps_InvalidMeasure_init (sp_InvalidMeasure_init K) := by
  refine (h_InvalidMeasure_init T).ok sc_InvalidMeasure_init (fun vs H Q E h => ?_) (fun cdv A outer s H vs Q E hr h => ⟨_,
      (pss_cons (ps_expr (pe_ownInit (CL := cL K) (by rfl) (m_LeapError T) (by decide) (x_InvalidMeasure T).sp (x_InvalidMeasure T).rd (x_InvalidMeasure T).vV (pa_cons (pv 0) (pa_cons (pe_joined (.cons pe_str (.cons (pe_fmtR (pv 1)) .nil))) pa_nil))))
      (pss_one (ps_ost (pv 0) (pv 1)))), ?_⟩)
  · obtain ⟨a, x, rfl, _⟩ := h
    rfl
  · obtain ⟨a, x, rfl, ⟨l, rfl, hl, hc⟩, ha, q⟩ := h
    have hrp := reprS_len hl hc
    refine ⟨_, rfl, ?_⟩
    refine ⟨_, rfl, by decide +kernel, ?_⟩
    refine ⟨_, rfl, .inl ⟨_, rfl, sz_of (by omega), ?_⟩⟩
    refine ⟨_, rfl, ?_, ?_⟩
    · rw [len_app, len_app]
      have h1 : (Str.empty).length = 0 := by decide +kernel
      have h2 : (Str.ofString "not a measure: ").length ≤ 100 := by decide +kernel
      exact sz_of (by omega)
    refine ⟨a, He.ga K "InvalidMeasure", _, rfl, by simp, (x_InvalidMeasure T).oex, ha, ?_⟩
    exact ⟨_, rfl, _, rfl, a, He.ga K "InvalidMeasure", rfl, (x_InvalidMeasure T).oex, (x_InvalidMeasure T).no, .inl ⟨ha, fun dx hd hda => q dx hd hda⟩⟩
theorem mem_InvalidWeight : (("InvalidWeight", "part") : Str × Str) ∈ ec := by unfold ec; simp only [List.mem_cons, true_or, or_true]
theorem x_InvalidWeight (T : Tx K mg w) : XF K "InvalidWeight" "part" := xE T mem_InvalidWeight
def sp_InvalidWeight_init (K : PySem.W.Frag) : Sp := fun vs H Q _ => ∃ (a : Addr) (x : V), vs = [.ref a, x] ∧ KS x ∧ Made K "InvalidWeight" "part" H a x Q
theorem ok_InvalidWeight_init (T : Tx K mg w) : OkD P w K mg base 1 d_InvalidWeight_init ps_InvalidWeight_init (sp_InvalidWeight_init K) := by
  refine (h_InvalidWeight_init T).ok sc_InvalidWeight_init (fun vs H Q E h => ?_) (fun cdv A outer s H vs Q E hr h => ⟨_,
      (pss_cons (ps_expr (pe_ownInit (CL := cL K) (by rfl) (m_LeapError T) (by decide) (x_InvalidWeight T).sp (x_InvalidWeight T).rd (x_InvalidWeight T).vV (pa_cons (pv 0) (pa_cons (pe_joined (.cons pe_str (.cons (pe_fmtR (pv 1)) .nil))) pa_nil))))
      (pss_one (ps_ost (pv 0) (pv 1)))), ?_⟩)
  · obtain ⟨a, x, rfl, _⟩ := h
    rfl
  · obtain ⟨a, x, rfl, ⟨l, rfl, hl, hc⟩, ha, q⟩ := h
    have hrp := reprS_len hl hc
    refine ⟨_, rfl, ?_⟩
    refine ⟨_, rfl, by decide +kernel, ?_⟩
    refine ⟨_, rfl, .inl ⟨_, rfl, sz_of (by omega), ?_⟩⟩
    refine ⟨_, rfl, ?_, ?_⟩
    · rw [len_app, len_app]
      have h1 : (Str.empty).length = 0 := by decide +kernel
      have h2 : (Str.ofString "wrong part of a weight: ").length ≤ 100 := by decide +kernel
      exact sz_of (by omega)
    refine ⟨a, He.ga K "InvalidWeight", _, rfl, by simp, (x_InvalidWeight T).oex, ha, ?_⟩
    exact ⟨_, rfl, _, rfl, a, He.ga K "InvalidWeight", rfl, (x_InvalidWeight T).oex, (x_InvalidWeight T).no, .inl ⟨ha, fun dx hd hda => q dx hd hda⟩⟩
theorem mem_InvalidSight : (("InvalidSight", "sight") : Str × Str) ∈ ec := by unfold ec; simp only [List.mem_cons, true_or, or_true]
theorem x_InvalidSight (T : Tx K mg w) : XF K "InvalidSight" "sight" := xE T mem_InvalidSight
def sp_InvalidSight_init (K : PySem.W.Frag) : Sp := fun vs H Q _ => ∃ (a : Addr) (x : V), vs = [.ref a, x] ∧ KT H x ∧ Made K "InvalidSight" "sight" H a x Q
theorem ok_InvalidSight_init (T : Tx K mg w) : OkD P w K mg base 1 d_InvalidSight_init ps_InvalidSight_init (sp_InvalidSight_init K) := by
  refine (h_InvalidSight_init T).ok sc_InvalidSight_init (fun vs H Q E h => ?_) (fun cdv A outer s H vs Q E hr h => ⟨_,
      (pss_cons (ps_expr (pe_ownInit (CL := cL K) (by rfl) (m_LeapError T) (by decide) (x_InvalidSight T).sp (x_InvalidSight T).rd (x_InvalidSight T).vV (pa_cons (pv 0) (pa_cons (pe_joined (.cons pe_str (.cons (pe_fmtRT hr (pv 1)) .nil))) pa_nil))))
      (pss_one (ps_ost (pv 0) (pv 1)))), ?_⟩)
  · obtain ⟨a, x, rfl, _⟩ := h
    rfl
  · obtain ⟨a, x, rfl, ⟨t, l, rfl, ht, hl, hc⟩, ha, q⟩ := h
    have hfc : fmtCost [Str.ofString "stuck", S l] ≤ 12000 := by
      unfold fmtCost
      have h1 : (Str.ofString "stuck").length ≤ 10 := by decide +kernel
      simp only [List.map_cons, List.map_nil, List.sum_cons, List.sum_nil, S_len]
      omega
    refine ⟨_, rfl, ?_⟩
    refine ⟨_, rfl, by decide +kernel, ?_⟩
    refine ⟨_, rfl, t, [Str.ofString "stuck", S l], rfl, st_of ht, ?_, sz_of (by omega), fun m hm => ?_⟩
    · intro y hy c hcy
      simp only [List.mem_cons, List.not_mem_nil, or_false] at hy
      rcases hy with rfl | rfl
      · exact (by decide +kernel : ∀ c ∈ (Str.ofString "stuck").cps.toList, c < 16 ^ 8) c hcy
      · exact Nat.lt_trans (hc c hcy) (by decide)
    refine ⟨_, rfl, ?_, ?_⟩
    · rw [len_app, len_app]
      have h1 : (Str.empty).length = 0 := by decide +kernel
      have h2 : (Str.ofString "not a sight: ").length ≤ 100 := by decide +kernel
      exact sz_of (by omega)
    refine ⟨a, He.ga K "InvalidSight", _, rfl, by simp, (x_InvalidSight T).oex, ha, ?_⟩
    exact ⟨_, rfl, _, rfl, a, He.ga K "InvalidSight", rfl, (x_InvalidSight T).oex, (x_InvalidSight T).no, .inl ⟨ha, fun dx hd hda => q dx hd hda⟩⟩
theorem mem_InvalidFact : (("InvalidFact", "fact") : Str × Str) ∈ ec := by unfold ec; simp only [List.mem_cons, true_or, or_true]
theorem x_InvalidFact (T : Tx K mg w) : XF K "InvalidFact" "fact" := xE T mem_InvalidFact
def sp_InvalidFact_init (K : PySem.W.Frag) : Sp := fun vs H Q _ => ∃ (a : Addr) (x : V), vs = [.ref a, x] ∧ KT H x ∧ Made K "InvalidFact" "fact" H a x Q
theorem ok_InvalidFact_init (T : Tx K mg w) : OkD P w K mg base 1 d_InvalidFact_init ps_InvalidFact_init (sp_InvalidFact_init K) := by
  refine (h_InvalidFact_init T).ok sc_InvalidFact_init (fun vs H Q E h => ?_) (fun cdv A outer s H vs Q E hr h => ⟨_,
      (pss_cons (ps_expr (pe_ownInit (CL := cL K) (by rfl) (m_LeapError T) (by decide) (x_InvalidFact T).sp (x_InvalidFact T).rd (x_InvalidFact T).vV (pa_cons (pv 0) (pa_cons (pe_joined (.cons pe_str (.cons (pe_fmtRT hr (pv 1)) .nil))) pa_nil))))
      (pss_one (ps_ost (pv 0) (pv 1)))), ?_⟩)
  · obtain ⟨a, x, rfl, _⟩ := h
    rfl
  · obtain ⟨a, x, rfl, ⟨t, l, rfl, ht, hl, hc⟩, ha, q⟩ := h
    have hfc : fmtCost [Str.ofString "stuck", S l] ≤ 12000 := by
      unfold fmtCost
      have h1 : (Str.ofString "stuck").length ≤ 10 := by decide +kernel
      simp only [List.map_cons, List.map_nil, List.sum_cons, List.sum_nil, S_len]
      omega
    refine ⟨_, rfl, ?_⟩
    refine ⟨_, rfl, by decide +kernel, ?_⟩
    refine ⟨_, rfl, t, [Str.ofString "stuck", S l], rfl, st_of ht, ?_, sz_of (by omega), fun m hm => ?_⟩
    · intro y hy c hcy
      simp only [List.mem_cons, List.not_mem_nil, or_false] at hy
      rcases hy with rfl | rfl
      · exact (by decide +kernel : ∀ c ∈ (Str.ofString "stuck").cps.toList, c < 16 ^ 8) c hcy
      · exact Nat.lt_trans (hc c hcy) (by decide)
    refine ⟨_, rfl, ?_, ?_⟩
    · rw [len_app, len_app]
      have h1 : (Str.empty).length = 0 := by decide +kernel
      have h2 : (Str.ofString "not such a fact: ").length ≤ 100 := by decide +kernel
      exact sz_of (by omega)
    refine ⟨a, He.ga K "InvalidFact", _, rfl, by simp, (x_InvalidFact T).oex, ha, ?_⟩
    exact ⟨_, rfl, _, rfl, a, He.ga K "InvalidFact", rfl, (x_InvalidFact T).oex, (x_InvalidFact T).no, .inl ⟨ha, fun dx hd hda => q dx hd hda⟩⟩
theorem mem_OverQuota : (("OverQuota", "number") : Str × Str) ∈ ec := by unfold ec; simp only [List.mem_cons, true_or, or_true]
theorem x_OverQuota (T : Tx K mg w) : XF K "OverQuota" "number" := xE T mem_OverQuota
def sp_OverQuota_init (K : PySem.W.Frag) : Sp := fun vs H Q _ => ∃ (a : Addr) (x : V), vs = [.ref a, x] ∧ KI x ∧ Made K "OverQuota" "number" H a x Q
theorem ok_OverQuota_init (T : Tx K mg w) : OkD P w K mg base 1 d_OverQuota_init ps_OverQuota_init (sp_OverQuota_init K) := by
  refine (h_OverQuota_init T).ok sc_OverQuota_init (fun vs H Q E h => ?_) (fun cdv A outer s H vs Q E hr h => ⟨_,
      (pss_cons (ps_expr (pe_ownInit (CL := cL K) (by rfl) (m_LeapError T) (by decide) (x_OverQuota T).sp (x_OverQuota T).rd (x_OverQuota T).vV (pa_cons (pv 0) (pa_cons (pe_joined (.cons pe_str (.cons (pe_fmtR (pv 1)) .nil))) pa_nil))))
      (pss_one (ps_ost (pv 0) (pv 1)))), ?_⟩)
  · obtain ⟨a, x, rfl, _⟩ := h
    rfl
  · obtain ⟨a, x, rfl, ⟨i, rfl, hi⟩, ha, q⟩ := h
    refine ⟨_, rfl, ?_⟩
    refine ⟨_, rfl, by decide +kernel, ?_⟩
    refine ⟨_, rfl, .inr ⟨_, rfl, Nat.lt_trans hi (by decide), ?_⟩⟩
    refine ⟨_, rfl, ?_, ?_⟩
    · rw [len_app, len_app]
      have h1 : (Str.empty).length = 0 := by decide +kernel
      have h2 : (Str.ofString "the quota does not allow this: ").length ≤ 100 := by decide +kernel
      have h3 := int_len hi
      exact sz_of (by omega)
    refine ⟨a, He.ga K "OverQuota", _, rfl, by simp, (x_OverQuota T).oex, ha, ?_⟩
    exact ⟨_, rfl, _, rfl, a, He.ga K "OverQuota", rfl, (x_OverQuota T).oex, (x_OverQuota T).no, .inl ⟨ha, fun dx hd hda => q dx hd hda⟩⟩
theorem mem_NothingLeft : (("NothingLeft", "count") : Str × Str) ∈ ec := by unfold ec; simp only [List.mem_cons, true_or, or_true]
theorem x_NothingLeft (T : Tx K mg w) : XF K "NothingLeft" "count" := xE T mem_NothingLeft
def sp_NothingLeft_init (K : PySem.W.Frag) : Sp := fun vs H Q _ => ∃ (a : Addr) (x : V), vs = [.ref a, x] ∧ KI x ∧ Made K "NothingLeft" "count" H a x Q
theorem ok_NothingLeft_init (T : Tx K mg w) : OkD P w K mg base 1 d_NothingLeft_init ps_NothingLeft_init (sp_NothingLeft_init K) := by
  refine (h_NothingLeft_init T).ok sc_NothingLeft_init (fun vs H Q E h => ?_) (fun cdv A outer s H vs Q E hr h => ⟨_,
      (pss_cons (ps_expr (pe_ownInit (CL := cL K) (by rfl) (m_LeapError T) (by decide) (x_NothingLeft T).sp (x_NothingLeft T).rd (x_NothingLeft T).vV (pa_cons (pv 0) (pa_cons (pe_joined (.cons pe_str (.cons (pe_fmtR (pv 1)) .nil))) pa_nil))))
      (pss_one (ps_ost (pv 0) (pv 1)))), ?_⟩)
  · obtain ⟨a, x, rfl, _⟩ := h
    rfl
  · obtain ⟨a, x, rfl, ⟨i, rfl, hi⟩, ha, q⟩ := h
    refine ⟨_, rfl, ?_⟩
    refine ⟨_, rfl, by decide +kernel, ?_⟩
    refine ⟨_, rfl, .inr ⟨_, rfl, Nat.lt_trans hi (by decide), ?_⟩⟩
    refine ⟨_, rfl, ?_, ?_⟩
    · rw [len_app, len_app]
      have h1 : (Str.empty).length = 0 := by decide +kernel
      have h2 : (Str.ofString "there are fewer such moves: ").length ≤ 100 := by decide +kernel
      have h3 := int_len hi
      exact sz_of (by omega)
    refine ⟨a, He.ga K "NothingLeft", _, rfl, by simp, (x_NothingLeft T).oex, ha, ?_⟩
    exact ⟨_, rfl, _, rfl, a, He.ga K "NothingLeft", rfl, (x_NothingLeft T).oex, (x_NothingLeft T).no, .inl ⟨ha, fun dx hd hda => q dx hd hda⟩⟩
theorem mem_InvalidOption : (("InvalidOption", "name") : Str × Str) ∈ ec := by unfold ec; simp only [List.mem_cons, true_or, or_true]
theorem x_InvalidOption (T : Tx K mg w) : XF K "InvalidOption" "name" := xE T mem_InvalidOption
def sp_InvalidOption_init (K : PySem.W.Frag) : Sp := fun vs H Q _ => ∃ (a : Addr) (x : V), vs = [.ref a, x] ∧ KS x ∧ Made K "InvalidOption" "name" H a x Q
theorem ok_InvalidOption_init (T : Tx K mg w) : OkD P w K mg base 1 d_InvalidOption_init ps_InvalidOption_init (sp_InvalidOption_init K) := by
  refine (h_InvalidOption_init T).ok sc_InvalidOption_init (fun vs H Q E h => ?_) (fun cdv A outer s H vs Q E hr h => ⟨_,
      (pss_cons (ps_expr (pe_ownInit (CL := cL K) (by rfl) (m_LeapError T) (by decide) (x_InvalidOption T).sp (x_InvalidOption T).rd (x_InvalidOption T).vV (pa_cons (pv 0) (pa_cons (pe_joined (.cons pe_str (.cons (pe_fmtR (pv 1)) .nil))) pa_nil))))
      (pss_one (ps_ost (pv 0) (pv 1)))), ?_⟩)
  · obtain ⟨a, x, rfl, _⟩ := h
    rfl
  · obtain ⟨a, x, rfl, ⟨l, rfl, hl, hc⟩, ha, q⟩ := h
    have hrp := reprS_len hl hc
    refine ⟨_, rfl, ?_⟩
    refine ⟨_, rfl, by decide +kernel, ?_⟩
    refine ⟨_, rfl, .inl ⟨_, rfl, sz_of (by omega), ?_⟩⟩
    refine ⟨_, rfl, ?_, ?_⟩
    · rw [len_app, len_app]
      have h1 : (Str.empty).length = 0 := by decide +kernel
      have h2 : (Str.ofString "not an option: ").length ≤ 100 := by decide +kernel
      exact sz_of (by omega)
    refine ⟨a, He.ga K "InvalidOption", _, rfl, by simp, (x_InvalidOption T).oex, ha, ?_⟩
    exact ⟨_, rfl, _, rfl, a, He.ga K "InvalidOption", rfl, (x_InvalidOption T).oex, (x_InvalidOption T).no, .inl ⟨ha, fun dx hd hda => q dx hd hda⟩⟩
end
end K00
namespace K00
open PySem PySem.Spec PyProof.Rows L2 Lc Evl
section
variable {P : Program} {w : World} {K : PySem.W.Frag} {mg : Str → Option Value} {base : Heap}
/-! ### what is raised -/
def Bad (K : PySem.W.Frag) (c f : Str) (H : Hp) (E : XK) (x : V) : Prop := ∀ d H', H d = none → Ex H H' → H' d = some (.xd [(f, x)]) → E (.ref (He.ga K c)) (some d) H'
theorem Bad.ex {c f : Str} {H H' : Hp} {E : XK} {x : V} (h : Bad K c f H E x) (e : Ex H H') : Bad K c f H' E x := fun d H2 hd e2 hx => h d H2 (fresh_back e hd) (e.trans e2) hx
/-- raise C(x) -/
theorem bad_go {c f : Str} {H : Hp} {E : XK} {x : V} {a dx : Addr} {o1 : HO} (q : Bad K c f H E x) (ha : H a = none) (hd : upd H a o1 dx = none) (hda : dx ≠ a) (u v : HO) :
    E (.ref (He.ga K c)) (some dx) (upd (del (upd (upd (upd H a o1) dx u) a v) a) dx (.xd [(f, x)])) := by
  rw [upd_ne hda] at hd
  refine q dx _ hd ?_ upd_same
  intro b o hb
  have n1 : b ≠ dx := fun z => by rw [z, hd] at hb; cases hb
  have n2 : b ≠ a := fun z => by rw [z, ha] at hb; cases hb
  rw [upd_ne n1, del_ne n2, upd_ne n2, upd_ne n1, upd_ne n2]
  exact hb
theorem mk_go {c f : Str} {H : Hp} {E : XK} {x : V} {a : Addr} (q : Bad K c f H E x) (ha : H a = none) :
    Made K c f (upd H a (exo a (He.ga K c) none)) a x fun v H2 => v = .non ∧ ∃ (d : Addr) (fs : List (Str × V)), H2 a = some (exo a (He.ga K c) (some d)) ∧ H2 d = some (exd d fs) ∧ H d = none ∧ E (.ref (He.ga K c)) (some d) (upd (del H2 a) d (.xd fs)) := by
  refine ⟨upd_same, fun dx hd hda => ⟨rfl, dx, _, upd_same, by rw [upd_ne hda, upd_same], ?_, bad_go q ha hd hda _ _⟩⟩
  rw [upd_ne hda] at hd
  exact hd
theorem b_check_row (T : Tx K mg w) : ∃ ds, Vals [V.str "#.:ABCDabcd"] ds ∧ Binds K (fdOf K (d_check_row.at_ K)) ps_check_row ds :=
  FunD.binds1 (ps := ps_check_row) (h_check_row T) 1 0 (by simp [He5.DefA.dvs, d_check_row]) rfl fun T kV doc pm an cdv ct us its hu hi => match us, its, hu, hi with
    | [_], [_], _, _ => ⟨_, rfl, rfl⟩
def sp_check_row (K : PySem.W.Frag) : Sp := fun vs H Q E => ∃ (l g : List Nat), vs = [.str (S l), .str (S g)] ∧ l.length ≤ 1000 ∧ g.length ≤ 1000 ∧ (∀ c ∈ l, c < 128) ∧ ((∀ c ∈ l, c ∈ g) → RetV .non H Q) ∧ ((¬ ∀ c ∈ l, c ∈ g) → Bad K "InvalidRow" "row" H E (.str (S l)))
theorem ok_check_row (T : Tx K mg w) : OkD P w K mg base 3 d_check_row ps_check_row (sp_check_row K) := by
  refine (h_check_row T).ok sc_check_row (fun vs H Q E h => ?_) (fun cdv A outer s H vs Q E hr h => ⟨_,
      (pss_one (ps_for (passes_of rfl) rfl (pi_str (pv 0)) (pg_name (i := 2) sc_check_row.nd rfl (Or.inl rfl)) (pss_one (ps_if (pt_cmpR op_notIn_sign (pv 2) (pv 1) (by rfl)) (pss_one (L2N.ps_raise rfl (L2N.takes_of rfl rfl rfl rfl) (pmkN_oex (x_InvalidRow T).oex (x_InvalidRow T).iC (x_InvalidRow T).tI (ok_InvalidRow_init (P := P) (w := w) (base := base) T) (hr.mono (by decide)) (b_InvalidRow_init T) .nil passN (by rfl) (m_InvalidRow T) (pa_cons (pv 0) pa_nil)))) pss_nil)))), ?_⟩)
  · obtain ⟨l, g, rfl, _⟩ := h
    rfl
  · obtain ⟨l, g, rfl, hl, hg, hc, q1, q2⟩ := h
    refine s_forS (l := l) (by repeat' (first | ((with_reducible refine ev_pow10 ?_ ?_ ?_) <;> first | rfl | decide) | (with_reducible refine fun (_ : _ = true) => ?_) | (with_reducible refine fun (_ : _ = false) => ?_) | (with_reducible exact ev_c) | ((with_reducible apply ev_var); rfl) | (with_reducible apply ev_op) | (with_reducible apply ev_un) | (with_reducible apply ev_cb) | (with_reducible apply ea_cons) | (with_reducible apply ev_andV) | (with_reducible apply ev_orV) | (with_reducible apply ev_notV) | (with_reducible apply ev_if) | (with_reducible apply eo_some) | (with_reducible apply el_lst) | (with_reducible exact ea_nil) | (with_reducible exact rv_I0) | (with_reducible exact ru_neg) | (with_reducible exact rv_ltS) | (with_reducible exact rv_inC) | (with_reducible exact rv_notInC) | (with_reducible exact rc_intI) | (with_reducible exact rc_intB) | (with_reducible exact rc_min2) | (with_reducible exact rc_isStr) | (with_reducible exact eo_none) | (with_reducible exact rv_inSS) | (with_reducible exact rv_notInSS) | (with_reducible exact rv_ltSS) | (with_reducible exact rv_eqSS) | (with_reducible exact rv_eqII) | (with_reducible exact rv_neII) | (with_reducible exact rv_neSS) | ((with_reducible refine rc_lenSS ?_); (first | assumption | omega | decide | (simp only [S_len] at *; omega))) | ((with_reducible refine rc_lenStr ?_); (first | assumption | omega | decide | (simp only [S_len] at *; omega))) | ((with_reducible refine rv_catSS ?_); (first | assumption | omega | decide | (simp only [S_len] at *; omega))) | (with_reducible exact rv_eq rfl) | (with_reducible exact rv_ne rfl) | ((with_reducible refine rc_lenS ?_); (first | assumption | omega | decide | (simp only [S_len] at *; omega))) | ((with_reducible refine rc_lenL ?_); assumption) | ((with_reducible apply rv_ixL); assumption; rfl) | ((with_reducible refine rv_catS ?_); (first | assumption | omega | decide | (simp only [S_len] at *; omega))) | ((with_reducible refine rv_I ?_); (first | (show (0 : Int) < _; (first | assumption | omega | decide | (simp only [S_len] at *; omega))) | exact .inr ⟨by decide, by decide⟩ | exact .inl ⟨by (first | assumption | omega | decide | (simp only [S_len] at *; omega)), by (first | assumption | omega | decide | (simp only [S_len] at *; omega))⟩ | exact .inr ⟨by (first | assumption | omega | decide | (simp only [S_len] at *; omega)), by (first | assumption | omega | decide | (simp only [S_len] at *; omega))⟩ | exact ⟨by decide, by decide, by decide⟩ | exact wide_div (b := 128) (by (first | assumption | omega | decide | (simp only [S_len] at *; omega))) (by (first | assumption | omega | decide | (simp only [S_len] at *; omega))) (by decide) (by decide))))) (fun i σ' H' => Ex H H' ∧ (∀ c ∈ l.take i, c ∈ g) ∧ ∃ kv, σ' = [some (.str (S l)), some (.str (S g)), kv]) (fun H1 e1 => ⟨e1, by simp, none, rfl⟩) ?_ ?_
    · rintro i c σ' H' hi ⟨e, hp, kv, rfl⟩
      refine s_if (b := !decide (c ∈ g)) (by first | ((with_reducible apply et_test); (repeat' (first | ((with_reducible refine ev_pow10 ?_ ?_ ?_) <;> first | rfl | decide) | (with_reducible refine fun (_ : _ = true) => ?_) | (with_reducible refine fun (_ : _ = false) => ?_) | (with_reducible exact ev_c) | ((with_reducible apply ev_var); rfl) | (with_reducible apply ev_op) | (with_reducible apply ev_un) | (with_reducible apply ev_cb) | (with_reducible apply ea_cons) | (with_reducible apply ev_andV) | (with_reducible apply ev_orV) | (with_reducible apply ev_notV) | (with_reducible apply ev_if) | (with_reducible apply eo_some) | (with_reducible apply el_lst) | (with_reducible exact ea_nil) | (with_reducible exact rv_I0) | (with_reducible exact ru_neg) | (with_reducible exact rv_ltS) | (with_reducible exact rv_inC) | (with_reducible exact rv_notInC) | (with_reducible exact rc_intI) | (with_reducible exact rc_intB) | (with_reducible exact rc_min2) | (with_reducible exact rc_isStr) | (with_reducible exact eo_none) | (with_reducible exact rv_inSS) | (with_reducible exact rv_notInSS) | (with_reducible exact rv_ltSS) | (with_reducible exact rv_eqSS) | (with_reducible exact rv_eqII) | (with_reducible exact rv_neII) | (with_reducible exact rv_neSS) | ((with_reducible refine rc_lenSS ?_); (first | assumption | omega | decide | (simp only [S_len] at *; omega))) | ((with_reducible refine rc_lenStr ?_); (first | assumption | omega | decide | (simp only [S_len] at *; omega))) | ((with_reducible refine rv_catSS ?_); (first | assumption | omega | decide | (simp only [S_len] at *; omega))) | (with_reducible exact rv_eq rfl) | (with_reducible exact rv_ne rfl) | ((with_reducible refine rc_lenS ?_); (first | assumption | omega | decide | (simp only [S_len] at *; omega))) | ((with_reducible refine rc_lenL ?_); assumption) | ((with_reducible apply rv_ixL); assumption; rfl) | ((with_reducible refine rv_catS ?_); (first | assumption | omega | decide | (simp only [S_len] at *; omega))) | ((with_reducible refine rv_I ?_); (first | (show (0 : Int) < _; (first | assumption | omega | decide | (simp only [S_len] at *; omega))) | exact .inr ⟨by decide, by decide⟩ | exact .inl ⟨by (first | assumption | omega | decide | (simp only [S_len] at *; omega)), by (first | assumption | omega | decide | (simp only [S_len] at *; omega))⟩ | exact .inr ⟨by (first | assumption | omega | decide | (simp only [S_len] at *; omega)), by (first | assumption | omega | decide | (simp only [S_len] at *; omega))⟩ | exact ⟨by decide, by decide, by decide⟩ | exact wide_div (b := 128) (by (first | assumption | omega | decide | (simp only [S_len] at *; omega))) (by (first | assumption | omega | decide | (simp only [S_len] at *; omega))) (by decide) (by decide)))))) | ((with_reducible apply et_B); (repeat' (first | ((with_reducible refine ev_pow10 ?_ ?_ ?_) <;> first | rfl | decide) | (with_reducible refine fun (_ : _ = true) => ?_) | (with_reducible refine fun (_ : _ = false) => ?_) | (with_reducible exact ev_c) | ((with_reducible apply ev_var); rfl) | (with_reducible apply ev_op) | (with_reducible apply ev_un) | (with_reducible apply ev_cb) | (with_reducible apply ea_cons) | (with_reducible apply ev_andV) | (with_reducible apply ev_orV) | (with_reducible apply ev_notV) | (with_reducible apply ev_if) | (with_reducible apply eo_some) | (with_reducible apply el_lst) | (with_reducible exact ea_nil) | (with_reducible exact rv_I0) | (with_reducible exact ru_neg) | (with_reducible exact rv_ltS) | (with_reducible exact rv_inC) | (with_reducible exact rv_notInC) | (with_reducible exact rc_intI) | (with_reducible exact rc_intB) | (with_reducible exact rc_min2) | (with_reducible exact rc_isStr) | (with_reducible exact eo_none) | (with_reducible exact rv_inSS) | (with_reducible exact rv_notInSS) | (with_reducible exact rv_ltSS) | (with_reducible exact rv_eqSS) | (with_reducible exact rv_eqII) | (with_reducible exact rv_neII) | (with_reducible exact rv_neSS) | ((with_reducible refine rc_lenSS ?_); (first | assumption | omega | decide | (simp only [S_len] at *; omega))) | ((with_reducible refine rc_lenStr ?_); (first | assumption | omega | decide | (simp only [S_len] at *; omega))) | ((with_reducible refine rv_catSS ?_); (first | assumption | omega | decide | (simp only [S_len] at *; omega))) | (with_reducible exact rv_eq rfl) | (with_reducible exact rv_ne rfl) | ((with_reducible refine rc_lenS ?_); (first | assumption | omega | decide | (simp only [S_len] at *; omega))) | ((with_reducible refine rc_lenL ?_); assumption) | ((with_reducible apply rv_ixL); assumption; rfl) | ((with_reducible refine rv_catS ?_); (first | assumption | omega | decide | (simp only [S_len] at *; omega))) | ((with_reducible refine rv_I ?_); (first | (show (0 : Int) < _; (first | assumption | omega | decide | (simp only [S_len] at *; omega))) | exact .inr ⟨by decide, by decide⟩ | exact .inl ⟨by (first | assumption | omega | decide | (simp only [S_len] at *; omega)), by (first | assumption | omega | decide | (simp only [S_len] at *; omega))⟩ | exact .inr ⟨by (first | assumption | omega | decide | (simp only [S_len] at *; omega)), by (first | assumption | omega | decide | (simp only [S_len] at *; omega))⟩ | exact ⟨by decide, by decide, by decide⟩ | exact wide_div (b := 128) (by (first | assumption | omega | decide | (simp only [S_len] at *; omega))) (by (first | assumption | omega | decide | (simp only [S_len] at *; omega))) (by decide) (by decide))))))) (fun hb H1 e1 => ?_) (fun hb H1 e1 => ?_)
      · have hcg : c ∉ g := by simpa using hb
        have q3 := (q2 fun hall => hcg (hall c (List.mem_of_getElem? hi))).ex (e.trans e1)
        exact ⟨_, rfl, by simp, fun a ha => ⟨a, _, rfl, ⟨l, rfl, hl, hc⟩, mk_go q3 ha⟩⟩
      · have hcg : c ∈ g := by simpa using hb
        refine ⟨e.trans e1, ?_, _, rfl⟩
        intro x hx
        rw [List.take_add_one, List.mem_append] at hx
        rcases hx with hx | hx
        · exact hp x hx
        · rw [hi] at hx
          have : x = c := by simpa using hx
          rw [this]
          exact hcg
    · rintro σ' H' ⟨e, hp, kv, rfl⟩
      rw [List.take_length] at hp
      exact q1 hp H' e
/-! ### signs marked and unmarked -/
theorem sg_low : ∀ c ∈ SG, c < 128 := by decide +kernel
theorem Good.low {l : List Nat} (h : Good l) : ∀ c ∈ l, c < 128 := fun c hc => sg_low c (h c hc)
def sp_unmarked : Sp := fun vs H Q _ => ∃ l : List Nat, vs = [.str (S l)] ∧ l.length ≤ 1000 ∧ (∀ c ∈ l, c < 128) ∧ RetV (.str (S (l.map um))) H Q
theorem ok_unmarked (T : Tx K mg w) : OkD P w K mg base 1 d_unmarked ps_unmarked sp_unmarked := by
  refine okT (h_unmarked T) sc_unmarked (by decide +kernel) (by decide) (fun vs H Q E h => ?_) (fun cdv A outer s H vs Q E hr h => ⟨_,
      CwR.psst_one (CwR.pst_ret (pet_m0 F.slot_str_lower F.type_str_lower mt_lower (CwR.pet_replC (pv 0)))), ?_⟩)
  · obtain ⟨l, rfl, _⟩ := h
    rfl
  · obtain ⟨l, rfl, hl, hc, q⟩ := h
    have k1 : Str.ofString ":" = S [58] := by decide +kernel
    have k2 : Str.ofString "." = S [46] := by decide +kernel
    simp only [k1, k2]
    exact s_ret (ev_unm (by exact ev_var rfl) hl hc) fun H1 e1 => q H1 e1
def sp_all_marked : Sp := fun vs H Q _ => ∃ l : List Nat, vs = [.str (S l)] ∧ l.length ≤ 1000 ∧ (∀ c ∈ l, c < 128) ∧ RetV (.str (S (l.map am))) H Q
theorem ok_all_marked (T : Tx K mg w) : OkD P w K mg base 1 d_all_marked ps_all_marked sp_all_marked := by
  refine okT (h_all_marked T) sc_all_marked (by decide +kernel) (by decide) (fun vs H Q E h => ?_) (fun cdv A outer s H vs Q E hr h => ⟨_,
      CwR.psst_one (CwR.pst_ret (pet_m0 F.slot_str_upper F.type_str_upper mt_upper (CwR.pet_replC (pv 0)))), ?_⟩)
  · obtain ⟨l, rfl, _⟩ := h
    rfl
  · obtain ⟨l, rfl, hl, hc, q⟩ := h
    have k1 : Str.ofString ":" = S [58] := by decide +kernel
    have k2 : Str.ofString "." = S [46] := by decide +kernel
    simp only [k1, k2]
    exact s_ret (ev_alm (by exact ev_var rfl) hl hc) fun H1 e1 => q H1 e1
/-! ### what a row shows -/
def sp_plain (K : PySem.W.Frag) : Sp := fun vs H Q E => ∃ l, vs = [.str (S l)] ∧ Row l ∧ (Good l → RetV (.str (S (l.map um))) H Q) ∧ (¬ Good l → Bad K "InvalidRow" "row" H E (.str (S l)))
theorem ok_plain (T : Tx K mg w) : OkD P w K mg base 4 d_plain ps_plain (sp_plain K) := by
  obtain ⟨ds, vd, bd⟩ := b_check_row T
  refine (h_plain T).ok sc_plain (fun vs H Q E h => ?_) (fun cdv A outer s H vs Q E hr h => ⟨_,
      (pss_cons (ps_expr (pe_callSD (ok_check_row (P := P) (w := w) (base := base) T) (hr.mono (by decide)) (by rfl) (m_check_row T) (k_check_row T) bd vd (fun σ => L2N.passAt (L2N.takes_of rfl rfl rfl rfl) σ) (pa_cons (pv 0) pa_nil)))
      (pss_one (ps_ret (pe_call (ok_unmarked (P := P) (w := w) (base := base) T) (hr.mono (by decide)) (by rfl) (m_unmarked T) (k_unmarked T) (b_unmarked T) .nil passN (pa_cons (pv 0) pa_nil))))), ?_⟩)
  · obtain ⟨l, rfl, _⟩ := h
    rfl
  · obtain ⟨l, rfl, ⟨hl, hc⟩, q1, q2⟩ := h
    refine ⟨_, rfl, l, SG, by rw [sg_eq]; rfl, hl, by decide, hc, fun hg H1 e1 => ?_, fun hb => q2 hb⟩
    dsimp only
    refine s_ret (v := .str (S (l.map um))) (ev_call (ea_cons (by exact ev_var rfl) ea_nil) fun H2 e2 Q3 q3 E3 => ⟨l, rfl, hl, hc, q3⟩) fun H2 e2 => ?_
    exact q1 hg H2 (e1.trans e2)
def MK : List Nat := [58, 65, 66, 67, 68]
def PG : List Nat := [65, 66, 67, 68, 97, 98, 99, 100]
def mpl (l : List Nat) : List V := given l.length (fun i => decide (l.getD i 0 ∈ MK)) (fun i => .int (i : Nat))
theorem at_getD {l : List Nat} {i c : Nat} (h : l[i]? = some c) : l.getD i 0 = c := by
  rw [List.getD_eq_getElem?_getD, h]
  rfl
def sp_marked_places (K : PySem.W.Frag) : Sp := fun vs H Q E => ∃ l, vs = [.str (S l)] ∧ Row l ∧ (Good l → RetL (mpl l) H Q) ∧ (¬ Good l → Bad K "InvalidRow" "row" H E (.str (S l)))
theorem ok_marked_places (T : Tx K mg w) : OkD P w K mg base 4 d_marked_places ps_marked_places (sp_marked_places K) := by
  obtain ⟨ds, vd, bd⟩ := b_check_row T
  refine (h_marked_places T).ok sc_marked_places (fun vs H Q E h => ?_) (fun cdv A outer s H vs Q E hr h => ⟨_,
      (pss_cons (ps_expr (pe_callSD (ok_check_row (P := P) (w := w) (base := base) T) (hr.mono (by decide)) (by rfl) (m_check_row T) (k_check_row T) bd vd (fun σ => L2N.passAt (L2N.takes_of rfl rfl rfl rfl) σ) (pa_cons (pv 0) pa_nil)))
      (pss_one (ps_ret (pe_lc (own := [("place", 1), ("sign", 2)]) (g := gTup K 2 (gCons (gName 1) (gCons (gName 2) gNil))) rfl sc_marked_places.nd (pi_enumS (by rfl) (m_enumerate T) (pa_cons (pv 0) pa_nil)) (blkOk_by (own := [("place", 1), ("sign", 2)]) (N := ns_marked_places) (sc := defScope st_marked_places) (by decide +kernel)) (fun _ _ _ _ _ => (pg_tup rfl (pgs_cons (pg_name (i := 1) sc_marked_places.nd rfl (Or.inl rfl)) (pgs_cons (pg_name (i := 2) sc_marked_places.nd rfl (Or.inl rfl)) pgs_nil)))) (fun _ _ _ _ _ => (pts_one (pt_cmpR op_in_sign (pv 2) (pe_glob (v := .str ":ABCD") rfl (m_MARKED T).choose_spec ⟨_, rfl⟩) (by rfl)))) (fun _ _ _ _ _ => (pv 1)))))), ?_⟩)
  · obtain ⟨l, rfl, _⟩ := h
    rfl
  · obtain ⟨l, rfl, ⟨hl, hc⟩, q1, q2⟩ := h
    have k1 : Str.ofString ":ABCD" = S MK := by decide +kernel
    simp only [k1]
    refine ⟨_, rfl, l, SG, by rw [sg_eq]; rfl, hl, by decide, hc, fun hg H1 e1 => ?_, fun hb => q2 hb⟩
    dsimp only
    exact s_retL (xs := mpl l) (el_lcE (fun i => decide (l.getD i 0 ∈ MK)) (fun i => .int (i : Nat)) (ea_cons (by exact ev_var rfl) ea_nil) (by omega) (fun x y => rfl) (fun i c H2 _ hi => et_test (by rw [at_getD hi]; exact ev_op (ev_var rfl) ev_c rv_inSS)) (fun i c H2 _ hi _ => by exact ev_var rfl)) fun p H2 hp e2 h2 => q1 hg p H2 (fresh_back e1 hp) (e1.trans e2) h2
def sp_pegs (K : PySem.W.Frag) : Sp := fun vs H Q E => ∃ l, vs = [.str (S l)] ∧ Row l ∧ (Good l → RetV (.int ((l.filter fun c => decide (c ∈ PG)).length : Nat)) H Q) ∧ (¬ Good l → Bad K "InvalidRow" "row" H E (.str (S l)))
theorem ok_pegs (T : Tx K mg w) : OkD P w K mg base 4 d_pegs ps_pegs (sp_pegs K) := by
  obtain ⟨ds, vd, bd⟩ := b_check_row T
  refine (h_pegs T).ok sc_pegs (fun vs H Q E h => ?_) (fun cdv A outer s H vs Q E hr h => ⟨_,
      (pss_cons (ps_expr (pe_callSD (ok_check_row (P := P) (w := w) (base := base) T) (hr.mono (by decide)) (by rfl) (m_check_row T) (k_check_row T) bd vd (fun σ => L2N.passAt (L2N.takes_of rfl rfl rfl rfl) σ) (pa_cons (pv 0) pa_nil)))
      (pss_one (ps_ret (pe_callB call_len (by rfl) (m_len T) (by decide +kernel) (pa_cons (pe_lc (own := [("sign", 1)]) (g := gName 1) rfl sc_pegs.nd (pi_str (pv 0)) (blkOk_by (own := [("sign", 1)]) (N := ns_pegs) (sc := defScope st_pegs) (by decide +kernel)) (fun _ _ _ _ _ => pg_name (i := 1) sc_pegs.nd rfl (Or.inl rfl)) (fun _ _ _ _ _ => (pts_one (pt_cmpR op_in_sign (pv 1) (pe_glob (v := .str "ABCDabcd") rfl (m_PEGS T).choose_spec ⟨_, rfl⟩) (by rfl)))) (fun _ _ _ _ _ => (pv 1))) pa_nil))))), ?_⟩)
  · obtain ⟨l, rfl, _⟩ := h
    rfl
  · obtain ⟨l, rfl, ⟨hl, hc⟩, q1, q2⟩ := h
    have k1 : Str.ofString "ABCDabcd" = S PG := by decide +kernel
    simp only [k1]
    refine ⟨_, rfl, l, SG, by rw [sg_eq]; rfl, hl, by decide, hc, fun hg H1 e1 => ?_, fun hb => q2 hb⟩
    have h := el_lcS (σ := L2.start ns_pegs [V.str (S l)]) (H := H1) (l := l) (tl := tVar 0) (j := 1) (vs := [1]) (t := tTest (tOp (fun x y H Q => ∃ (c : Nat) (z : Str), x = .str ⟨#[c]⟩ ∧ y = .str z ∧ Q (.bl (decide (c ∈ z.cps.toList))) H) (tVar 1) (tC (.str (S PG))))) (te := tVar 1)
      (fun i => decide (l.getD i 0 ∈ PG)) (fun i => V.str (S [l.getD i 0])) (by exact ev_var rfl) (by omega) (fun x => rfl)
      (fun i c H2 _ hi => et_test (by rw [at_getD hi]; exact ev_op (ev_var rfl) ev_c rv_inSS)) (fun i c H2 _ hi _ => by rw [at_getD hi]; exact ev_var rfl)
    rw [given_filter l 0 (fun c => decide (c ∈ PG)) (fun c => V.str (S [c]))] at h
    dsimp only
    refine s_ret (v := .int ((l.filter fun c => decide (c ∈ PG)).length : Nat)) ?_ fun H2 e2 => ?_
    rotate_left
    · exact q1 hg H2 (e1.trans e2)
    refine ev_cbL h fun p H2 hp e2 => ?_
    have h2 := rc_lenL (K := K) (sq_of (K := K) hp)
    rw [List.length_map] at h2
    exact h2
end
end K00
namespace K00
open PySem PySem.Spec PyProof.Rows L2 Lc Evl
section
variable {P : Program} {w : World} {K : PySem.W.Frag} {mg : Str → Option Value} {base : Heap}
/-! ### one place marked -/
theorem ev_chain {σ : L2.St} {H : Hp} {ta tb tc : TE} {r r' : R2} {x y z : V} {a b : Bool} (ha : Ev ta σ H x) (hb : Ev tb σ H y) (hr : RV r x y H (.bl a)) (hc : a = true → Ev tc σ H z) (hr2 : a = true → RV r' y z H (.bl b)) : Ev (tChain r r' ta tb tc) σ H (.bl (a && b)) := fun H1 e Q q =>
  ha H1 e _ fun H2 e2 => hb H2 (e.trans e2) _ fun H3 e3 => hr H3 ((e.trans e2).trans e3) _ fun H4 e4 => ⟨a, rfl, by
    cases a with
    | false => exact q H4 ((e2.trans e3).trans e4)
    | true => exact hc rfl H4 (((e.trans e2).trans e3).trans e4) _ fun H5 e5 => hr2 rfl H5 ((((e.trans e2).trans e3).trans e4).trans e5) _ fun H6 e6 => q H6 ((((e2.trans e3).trans e4).trans e5).trans e6)⟩
def okPl (l : List Nat) (p : Int) : Bool := (decide (0 ≤ p) && decide (p < (l.length : Int))) && !decide ([l.getD p.toNat 0] = [35])
theorem okPl_iff {l : List Nat} {p : Int} : okPl l p = true ↔ (0 ≤ p ∧ p < l.length) ∧ l.getD p.toNat 0 ≠ 35 := by
  unfold okPl
  simp
def mrk (l : List Nat) (p : Nat) : List Nat := l.take p ++ [am (l.getD p 0)] ++ l.drop (p + 1)
def sp_marked (K : PySem.W.Frag) : Sp := fun vs H Q E => ∃ (l : List Nat) (p : Int), vs = [.str (S l), .int p] ∧ Row l ∧ p.natAbs.log2 < 1900 ∧ (Good l → okPl l p = true → RetV (.str (S (mrk l p.toNat))) H Q) ∧ (Good l → okPl l p = false → Bad K "InvalidPlace" "place" H E (.int p)) ∧ (¬ Good l → Bad K "InvalidRow" "row" H E (.str (S l)))
theorem ok_marked (T : Tx K mg w) : OkD P w K mg base 4 d_marked ps_marked (sp_marked K) := by
  obtain ⟨ds, vd, bd⟩ := b_check_row T
  refine (h_marked T).ok sc_marked (fun vs H Q E h => ?_) (fun cdv A outer s H vs Q E hr h => ⟨_,
      (pss_cons (ps_expr (pe_callSD (ok_check_row (P := P) (w := w) (base := base) T) (hr.mono (by decide)) (by rfl) (m_check_row T) (k_check_row T) bd vd (fun σ => L2N.passAt (L2N.takes_of rfl rfl rfl rfl) σ) (pa_cons (pv 0) pa_nil)))
      (pss_cons (ps_if (PW.pt (pw_or (pt_not (pt_chain op_le op_lt pe_int (pv 1) (pe_callB call_len_str (by rfl) (m_len T) (by decide +kernel) (pa_cons (pv 0) pa_nil)))) (pw_or1 (pt_cmpR op_eq (pe_ix ix_str (pv 0) (pv 1) (fun _ _ => rfl)) pe_str (nomark _))))) (pss_one (L2N.ps_raise rfl (L2N.takes_of rfl rfl rfl rfl) (pmkN_oex (x_InvalidPlace T).oex (x_InvalidPlace T).iC (x_InvalidPlace T).tI (ok_InvalidPlace_init (P := P) (w := w) (base := base) T) (hr.mono (by decide)) (b_InvalidPlace_init T) .nil passN (by rfl) (m_InvalidPlace T) (pa_cons (pv 1) pa_nil)))) pss_nil)
      (pss_one (ps_ret (pe_op op_add_str (pe_op op_add_str (pe_slice sl_str (pv 0) po_none (po_some (pv 1))) (pe_call (ok_all_marked (P := P) (w := w) (base := base) T) (hr.mono (by decide)) (by rfl) (m_all_marked T) (k_all_marked T) (b_all_marked T) .nil passN (pa_cons (pe_ix ix_str (pv 0) (pv 1) (fun _ _ => rfl)) pa_nil))) (pe_slice sl_str (pv 0) (po_some (pe_op op_add (pv 1) pe_int)) po_none)))))), ?_⟩)
  · obtain ⟨l, p, rfl, _⟩ := h
    rfl
  · obtain ⟨l, p, rfl, ⟨hl, hc⟩, hp, q1, q2, q3⟩ := h
    have k1 : Str.ofString "#" = S [35] := by decide +kernel
    simp only [k1]
    refine ⟨_, rfl, l, SG, by rw [sg_eq]; rfl, hl, by decide, hc, fun hg H1 e1 => ?_, fun hb => q3 hb⟩
    dsimp only
    refine q_when (b := !(decide (0 ≤ p) && decide (p < (l.length : Int))) || decide ([l.getD p.toNat 0] = [35])) (et_or (et_not (et_test (ev_chain ev_c (by exact ev_var rfl) rv_I0 (fun _ => ev_cb (ea_cons (by exact ev_var rfl) ea_nil) (rc_lenStr (by omega))) fun _ => rv_I0))) fun hf => ?_) (fun hx H2 e2 => ?_) (fun hx H2 e2 => ?_)
    · simp only [Bool.not_eq_false', Bool.and_eq_true, decide_eq_true_eq] at hf
      exact et_test (ev_op (ev_op (by exact ev_var rfl) (by exact ev_var rfl) (rv_ixSS (by omega) hf.1 hf.2)) ev_c rv_eqSS)
    · have hno : okPl l p = false := by
        unfold okPl
        cases h1 : (decide (0 ≤ p) && decide (p < (l.length : Int))) with
        | false => rfl
        | true =>
          rw [h1] at hx
          simp only [Bool.not_true, Bool.false_or] at hx
          rw [hx]
          rfl
      have q4 := (q2 hg hno).ex (e1.trans e2)
      exact ⟨_, rfl, by simp, fun a ha => ⟨a, _, rfl, ⟨p, rfl, hp⟩, mk_go q4 ha⟩⟩
    · simp only [Bool.or_eq_false_iff, Bool.not_eq_false', Bool.and_eq_true, decide_eq_true_eq, decide_eq_false_iff_not] at hx
      obtain ⟨⟨h0, h1⟩, h2⟩ := hx
      have hok : okPl l p = true := okPl_iff.mpr ⟨⟨h0, h1⟩, by simpa using h2⟩
      obtain ⟨k, rfl⟩ : ∃ k : Nat, p = (k : Int) := ⟨p.toNat, by omega⟩
      have hk : k < l.length := by omega
      have hin : l.getD k 0 < 128 := hc _ (getD_in hk)
      refine s_ret (v := .str (S (mrk l k))) (ev_op (ev_op (ev_to (k := k) (by exact ev_var rfl) (by exact ev_var rfl) (by omega)) (y := .str (S [am (l.getD k 0)])) (ev_call (ea_cons (ev_op (by exact ev_var rfl) (by exact ev_var rfl) (rv_ixSS (i := (k : Int)) (by omega) (by omega) (by omega))) ea_nil) fun H3 e3 Q3 w3 E3 => ⟨[l.getD k 0], rfl, by simp, fun c hcc => by rw [List.mem_singleton.mp hcc]; exact hin, w3⟩) (rv_catSS (by rw [List.length_take]; simp; omega)))
        (ev_from (k := k + 1) (by exact ev_var rfl) (by rw [show ((k + 1 : Nat) : Int) = (k : Int) + 1 by omega]; exact ev_op (ev_var rfl) ev_c rv_I0) (by omega)) (rv_catSS (by rw [List.length_append, List.length_take, List.length_drop]; simp; omega))) fun H3 e3 => ?_
      exact q1 hg hok H3 ((e1.trans e2).trans e3)
/-! ### sign strings -/
def KL : List Nat := [97, 98, 99, 100]
def pln (k : Nat) : List Nat := [46] ++ KL.take k
def cho (k : Nat) (w m : Bool) : List Nat := (if w then [35] else []) ++ ((if m then (pln k).map am else []) ++ pln k)
theorem cho_ok : ∀ k ∈ [1, 2, 3, 4], ∀ w m : Bool, (stv (k : Nat) w m).isPerm (cho k w m) = true ∧ (stv (k : Nat) w m).Pairwise (· ≤ ·) ∧ (cho k w m).length < 64 := by decide +kernel
theorem pln_low : ∀ k ∈ [1, 2, 3, 4], (∀ c ∈ pln k, c < 128) ∧ (pln k).length ≤ 5 := by decide +kernel
def sp_signs_of : Sp := fun vs H Q _ => ∃ (k : Nat) (w m : Bool), vs = [.int (k : Int), .bl w, .bl m] ∧ k ∈ [1, 2, 3, 4] ∧ RetV (.str (S (stv (k : Nat) w m))) H Q
theorem ok_signs_of (T : Tx K mg w) : OkD P w K mg base 2 d_signs_of ps_signs_of sp_signs_of := by
  refine (h_signs_of T).ok sc_signs_of (fun vs H Q E h => ?_) (fun cdv A outer s H vs Q E hr h => ⟨_,
      (pss_cons (ps_set (i := 3) sc_signs_of.nd rfl (Or.inl rfl) (pe_op op_add_str pe_str (pe_slice sl_str (pe_glob (v := .str "abcd") rfl (m_KINDS T).choose_spec ⟨_, rfl⟩) po_none (po_some (pv 0)))))
      (pss_cons (ps_set (i := 4) sc_signs_of.nd rfl (Or.inl rfl) (pv 3))
      (pss_cons (ps_if (pt_val (pv 2)) (pss_one (ps_set (i := 4) sc_signs_of.nd rfl (Or.inl rfl) (pe_op op_add_str (pe_call (ok_all_marked (P := P) (w := w) (base := base) T) (hr.mono (by decide)) (by rfl) (m_all_marked T) (k_all_marked T) (b_all_marked T) .nil passN (pa_cons (pv 3) pa_nil)) (pv 4)))) pss_nil)
      (pss_cons (ps_if (pt_val (pv 1)) (pss_one (ps_set (i := 4) sc_signs_of.nd rfl (Or.inl rfl) (pe_op op_add_str pe_str (pv 4)))) pss_nil)
      (pss_one (ps_ret (pe_join pe_str (pe_callB (call_sortedStr rfl) (by rfl) (m_sorted T) (by decide +kernel) (pa_cons (pv 4) pa_nil))))))))), ?_⟩)
  · obtain ⟨k, w, m, rfl, _⟩ := h
    rfl
  · obtain ⟨k, w, m, rfl, hk, q⟩ := h
    obtain ⟨hp, hs, hz⟩ := cho_ok k hk w m
    obtain ⟨lw, ln⟩ := pln_low k hk
    have k1 : Str.ofString "#" = S [35] := by decide +kernel
    have k2 : Str.ofString "." = S [46] := by decide +kernel
    have k3 : Str.ofString "abcd" = S KL := by decide +kernel
    have k4 : Str.ofString "" = S [] := by decide +kernel
    simp only [k1, k2, k3, k4]
    have hkl : (KL.take k).length ≤ 4 := by rw [List.length_take]; exact Nat.min_le_right _ _
    refine q_asg (v := .str (S (pln k))) (ev_op ev_c (ev_to (l := KL) (k := k) ev_c (by exact ev_var rfl) (by decide)) (rv_catSS (a := [46]) (by have h46 : ([46] : List Nat).length = 1 := rfl; omega))) fun H1 e1 => ?_
    refine q_asg (v := .str (S (pln k))) (by exact ev_var rfl) fun H2 e2 => ?_
    have ha : ((if m then (pln k).map am else []) ++ pln k).length ≤ 10 := by
      rw [List.length_append]
      split
      · rw [List.length_map]; omega
      · simp; omega
    refine q_ifAsg (b := m) (v := .str (S ((if m then (pln k).map am else []) ++ pln k))) (et_B (by exact ev_var rfl)) (fun hm => ?_) (fun hm => ?_) fun H3 e3 => ?_
    · rw [if_pos hm]
      exact ev_op (ev_call (ea_cons (by exact ev_var rfl) ea_nil) fun H4 e4 Q4 w4 E4 => ⟨pln k, rfl, by omega, lw, w4⟩) (by exact ev_var rfl) (rv_catSS (by rw [List.length_map]; omega))
    · rw [if_neg (by rw [hm]; decide)]
      rfl
    refine q_ifAsg (b := w) (v := .str (S (cho k w m))) (et_B (by exact ev_var rfl)) (fun hw => ?_) (fun hw => ?_) fun H4 e4 => ?_
    · unfold cho
      rw [if_pos hw]
      exact ev_op ev_c (by exact ev_var rfl) (rv_catSS (a := [35]) (by simp at ha ⊢; omega))
    · unfold cho
      rw [if_neg (c := w = true) (by rw [hw]; decide)]
      rfl
    refine s_ret (v := .str (Txt.join (S []) ((stv (k : Nat) w m).map fun c => S [c]))) (ev_join (by exact ev_c) ?_ (join_sz _ (Nat.le_trans (stv_len _ _ _) (by decide)))) fun H5 e5 => ?_
    · refine el_cb (ea_cons (by exact ev_var rfl) ea_nil) fun H6 e6 Q6 q6 => ⟨S (cho k w m), rfl, by rw [S_len]; exact hz, fun ys p H' h1 h2 h3 h4 => ?_⟩
      have hys : ys = (stv (k : Nat) w m).map fun c => S [c] := sorted_signs (l := cho k w m) h1 h2 (List.isPerm_iff.mp hp) hs
      subst hys h4
      exact q6 p _ h3 (Ex.new h3) upd_same
    · rw [join_S]
      exact q H5 ((((e1.trans e2).trans e3).trans e4).trans e5)
theorem b_signs_of (T : Tx K mg w) : ∃ ds, Vals [V.bl false, V.bl false] ds ∧ Binds K (fdOf K (d_signs_of.at_ K)) ps_signs_of ds :=
  FunD.binds0 (ps := ps_signs_of) (h_signs_of T) 1 (by simp [He5.DefA.kws, d_signs_of]) rfl fun D doc pm an cdv ct us ks hu hk => match us, ks, hu, hk with
    | [_], [_, _], _, _ => ⟨_, _, _, _, _, _, rfl, rfl, _, _, _, _, _, _, rfl, rfl, rfl⟩
theorem kb2_signs_of (T : Tx K mg w) : ∃ mv : List Value, KBn K (fdOf K (d_signs_of.at_ K)) ps_signs_of 1 ["walls", "marks"] (fun us ws => us ++ ws) (fun vs zs => vs ++ zs) :=
  kbinds0 (ps := ps_signs_of) (h_signs_of T) 1 ["walls", "marks"] [] (fun us _ ws => us ++ ws) (by simp [He5.DefA.kws, d_signs_of]) (by simp) (fun a _ c _ => a.append c) fun D doc pm an cdv ct us mv ws hu hm hw => match us, mv, ws, hu, hm, hw with
    | [_], [], [_, _], _, _, _ => rfl
theorem kbW_signs_of (T : Tx K mg w) : ∃ mv : List Value, KBn K (fdOf K (d_signs_of.at_ K)) ps_signs_of 1 ["walls"] (fun us ws => us ++ (ws ++ mv)) (fun vs zs => vs ++ (zs ++ [V.bl false])) :=
  kbinds0 (ps := ps_signs_of) (h_signs_of T) 1 ["walls"] [("marks", .bl false)] (fun us mv ws => us ++ (ws ++ mv)) (by simp [He5.DefA.kws, d_signs_of]) (fun q hq => by rw [List.mem_singleton.mp hq]; exact .tail _ (.head _)) (fun a b c _ => a.append (c.append b)) fun D doc pm an cdv ct us mv ws hu hm hw => match us, mv, ws, hu, hm, hw with
    | [_], [_], [_], _, _, _ => ⟨_, _, _, _, _, _, rfl, rfl, rfl⟩
theorem kbM_signs_of (T : Tx K mg w) : ∃ mv : List Value, KBn K (fdOf K (d_signs_of.at_ K)) ps_signs_of 1 ["marks"] (fun us ws => us ++ (mv ++ ws)) (fun vs zs => vs ++ ([V.bl false] ++ zs)) :=
  kbinds0 (ps := ps_signs_of) (h_signs_of T) 1 ["marks"] [("walls", .bl false)] (fun us mv ws => us ++ (mv ++ ws)) (by simp [He5.DefA.kws, d_signs_of]) (fun q hq => by rw [List.mem_singleton.mp hq]; exact .head _) (fun a b c _ => a.append (b.append c)) fun D doc pm an cdv ct us mv ws hu hm hw => match us, mv, ws, hu, hm, hw with
    | [_], [_], [_], _, _, _ => ⟨_, _, _, _, _, _, rfl, rfl, rfl⟩
end
end K00
namespace K00
open PySem PySem.Spec PyProof.Rows L2 Lc Evl
section
variable {P : Program} {w : World} {K : PySem.W.Frag} {mg : Str → Option Value} {base : Heap}
/-! ### the law's own marks -/
def BARE : List Nat := [35, 46, 46, 97, 98, 99, 100, 97, 98, 99, 100]
def DOT : List Nat := [58, 58, 65, 66, 67, 68, 65, 66, 67, 68]
def SD : List Nat := [46, 58, 65, 66, 67, 68, 97, 98, 99, 100]
theorem bare_at : ∀ c ∈ SG, ∃ k, k < 11 ∧ Txt.index0 (S SG) (S [c]) = some k ∧ BARE.getD k 0 = um c := by decide +kernel
theorem dot_at : ∀ c ∈ SG, c ≠ 35 → ∃ k, k < 10 ∧ Txt.index0 (S SD) (S [c]) = some k ∧ DOT.getD k 0 = am c := by decide +kernel
def sp_law_bare : Sp := fun vs H Q _ => ∃ c : Nat, vs = [.str (S [c])] ∧ c ∈ SG ∧ RetV (.str (S [um c])) H Q
theorem ok_law_bare (T : Tx K mg w) : OkD P w K mg base 1 d_law_bare ps_law_bare sp_law_bare := by
  refine (h_law_bare T).ok sc_law_bare (fun vs H Q E h => ?_) (fun cdv A outer s H vs Q E hr h => ⟨_,
      (pss_one (ps_ret (pe_ix ix_str pe_str (pe_bmS PySem.F.plainAttrs_str PySem.F.slot_str_index PySem.F.type_str_index (mt_indexX rfl takes0) pe_str (pa_cons (pv 0) pa_nil)) (fun _ _ => rfl)))), ?_⟩)
  · obtain ⟨c, rfl, _⟩ := h
    rfl
  · obtain ⟨c, rfl, hc, q⟩ := h
    obtain ⟨k, hk, hi, he⟩ := bare_at c hc
    have k1 : Str.ofString "#.:ABCDabcd" = S SG := by decide +kernel
    have k2 : Str.ofString "#..abcdabcd" = S BARE := by decide +kernel
    simp only [k1, k2]
    have hb : BARE.length = 11 := by decide
    refine s_ret (ev_op ev_c (ev_index ev_c (ea_cons (by exact ev_var rfl) ea_nil) hi) (rv_ixSS (l := BARE) (i := (k : Int)) (by decide) (by omega) (by rw [hb]; omega))) fun H1 e1 => ?_
    rw [Int.toNat_natCast, he]
    exact q H1 e1
def sp_law_dotted : Sp := fun vs H Q _ => ∃ c : Nat, vs = [.str (S [c])] ∧ c ∈ SG ∧ c ≠ 35 ∧ RetV (.str (S [am c])) H Q
theorem ok_law_dotted (T : Tx K mg w) : OkD P w K mg base 1 d_law_dotted ps_law_dotted sp_law_dotted := by
  refine (h_law_dotted T).ok sc_law_dotted (fun vs H Q E h => ?_) (fun cdv A outer s H vs Q E hr h => ⟨_,
      (pss_one (ps_ret (pe_ix ix_str pe_str (pe_bmS PySem.F.plainAttrs_str PySem.F.slot_str_index PySem.F.type_str_index (mt_indexX rfl takes0) pe_str (pa_cons (pv 0) pa_nil)) (fun _ _ => rfl)))), ?_⟩)
  · obtain ⟨c, rfl, _⟩ := h
    rfl
  · obtain ⟨c, rfl, hc, hn, q⟩ := h
    obtain ⟨k, hk, hi, he⟩ := dot_at c hc hn
    have k1 : Str.ofString ".:ABCDabcd" = S SD := by decide +kernel
    have k2 : Str.ofString "::ABCDABCD" = S DOT := by decide +kernel
    simp only [k1, k2]
    have hb : DOT.length = 10 := by decide
    refine s_ret (ev_op ev_c (ev_index ev_c (ea_cons (by exact ev_var rfl) ea_nil) hi) (rv_ixSS (l := DOT) (i := (k : Int)) (by decide) (by omega) (by rw [hb]; omega))) fun H1 e1 => ?_
    rw [Int.toNat_natCast, he]
    exact q H1 e1
/-! ### a row with a strange sign -/
def ST : List Nat := [32, 33, 34, 36, 38, 39, 40, 41, 42, 43, 44, 45, 47, 48, 49, 50, 51, 52, 53, 54, 55, 56, 57, 59, 60, 61, 62, 63, 64, 69, 70, 71, 72, 73, 74, 75, 76, 77, 78, 79, 80, 81, 82, 83, 84, 85, 86, 87, 88, 89, 90, 91, 92, 93, 94, 95, 96] ++ [101, 102, 103, 104, 105, 106, 107, 108, 109, 110, 111, 112, 113, 114, 115, 116, 117, 118, 119, 120, 121, 122, 123, 124, 125, 126, 10, 9]
theorem st_bad : ∀ c ∈ ST, c ∉ SG ∧ c < 128 := by decide +kernel
def sp_law_bent : Sp := fun vs H Q _ => ∃ (b : Addr) (l : List Nat), vs = [.ref b, .str (S l)] ∧ Bx H b ∧ Good l ∧ l.length ≤ 1000 ∧ ∀ m H', Row m → ¬ Good m → ExB b H H' → Bx H' b → Q (.str (S m)) H'
theorem ok_law_bent (T : Tx K mg w) : OkD P w K mg base 2 d_law_bent ps_law_bent sp_law_bent := by
  refine (h_law_bent T).ok sc_law_bent (fun vs H Q E h => ?_) (fun cdv A outer s H vs Q E hr h => ⟨_,
      (pss_cons (ps_set (i := 2) sc_law_bent.nd rfl (Or.inl rfl) pe_str)
      (pss_cons (ps_set (i := 2) sc_law_bent.nd rfl (Or.inl rfl) (pe_op op_add_str (pv 2) pe_str))
      (pss_cons (ps_set (i := 3) sc_law_bent.nd rfl (Or.inl rfl) (pe_ix ix_str (pv 2) (pe_call (ok_law_take (P := P) (w := w) (base := base) T) (hr.mono (by decide)) (by rfl) (m_law_take T) (k_law_take T) (b_law_take T) .nil passN (pa_cons (pv 0) (pa_cons (pe_callB call_len_str (by rfl) (m_len T) (by decide +kernel) (pa_cons (pv 2) pa_nil)) pa_nil))) (fun _ _ => rfl)))
      (pss_cons (ps_set (i := 4) sc_law_bent.nd rfl (Or.inl rfl) (pe_slice sl_str (pv 1) po_none (po_some pe_int)))
      (pss_cons (ps_set (i := 5) sc_law_bent.nd rfl (Or.inl rfl) (pe_call (ok_law_take (P := P) (w := w) (base := base) T) (hr.mono (by decide)) (by rfl) (m_law_take T) (k_law_take T) (b_law_take T) .nil passN (pa_cons (pv 0) (pa_cons (pe_op op_add (pe_callB call_len_str (by rfl) (m_len T) (by decide +kernel) (pa_cons (pv 4) pa_nil)) pe_int) pa_nil))))
      (pss_one (ps_ret (pe_op op_add_str (pe_op op_add_str (pe_slice sl_str (pv 4) po_none (po_some (pv 5))) (pv 3)) (pe_slice sl_str (pv 4) (po_some (pe_op op_add (pv 5) (pe_call (ok_law_take (P := P) (w := w) (base := base) T) (hr.mono (by decide)) (by rfl) (m_law_take T) (k_law_take T) (b_law_take T) .nil passN (pa_cons (pv 0) (pa_cons pe_int pa_nil))))) po_none))))))))), ?_⟩)
  · obtain ⟨b, l, rfl, _⟩ := h
    rfl
  · obtain ⟨b, l, rfl, hb, hg, hl, q⟩ := h
    simp only [kc_2, kc_3, kc_4, kc_5, kc_7, kc_8, kc_9, kc_10, kc_11, kc_12, kc_13, kc_14, kc_15, kc_16, kc_17, kc_18, kc_19, kc_20, kc_21, kc_22, kc_23, kc_24, kc_25, kc_26, kc_27, kc_28, kc_29, kc_30, kc_31, kc_32, kc_33, kc_34, kc_35, kc_36, kc_37]
    refine q_asg (by exact ev_c) fun H1 e1 => ?_
    refine q_asg (v := .str (S ST)) (by exact ev_op (ev_var rfl) ev_c (rv_catSS (by decide))) fun H2 e2 => ?_
    replace e1 := e1.trans e2
    refine ⟨_, rfl, ?_⟩
    have hst : ST.length = 85 := by decide +kernel
    refine sp_take_then (b := b) (many := 85) rfl (hb.ex e1) ?_ (by decide) (by decide) fun d H3 d0 d1 e3 b3 => ?_
    · have h := ev_cb (ea_cons (ta := tVar 2) (ev_var (σ := [some (.ref b), some (.str (S l)), some (.str (S ST)), none, none, none]) (H := H2) (i := 2) rfl) ea_nil) (rc_lenStr (l := ST) (by rw [hst]; decide))
      rw [hst] at h
      exact h
    refine ⟨S ST, d, ST.getD d.toNat 0, rfl, rfl, sz_of (by rw [S_len, hst]; decide), atI_i d0 (by rw [tl_S, hst]; exact d1) 0, ?_⟩
    have hc := st_bad _ (getD_in (l := ST) (k := d.toNat) (by omega))
    generalize ST.getD d.toNat 0 = c at hc
    replace e1 := (ExB.of (b := b) e1).trans e3
    dsimp only
    refine q_asg (v := .str (S (l.take 59))) (by exact ev_to (k := 59) (ev_var rfl) ev_c (by omega)) fun H4 e4 => ?_
    replace e1 := e1.trans (ExB.of e4)
    have hsl : (l.take 59).length ≤ 59 := by rw [List.length_take]; omega
    have hsg : ∀ x ∈ l.take 59, x ∈ SG := fun x hx => hg x (List.mem_of_mem_take hx)
    generalize l.take 59 = sh at hsl hsg
    refine sp_take_then (b := b) (many := (sh.length : Int) + 1) rfl (b3.ex e4) (by repeat' (first | ((with_reducible refine ev_pow10 ?_ ?_ ?_) <;> first | rfl | decide) | (with_reducible refine fun (_ : _ = true) => ?_) | (with_reducible refine fun (_ : _ = false) => ?_) | (with_reducible exact ev_c) | ((with_reducible apply ev_var); rfl) | (with_reducible apply ev_op) | (with_reducible apply ev_un) | (with_reducible apply ev_cb) | (with_reducible apply ea_cons) | (with_reducible apply ev_andV) | (with_reducible apply ev_orV) | (with_reducible apply ev_notV) | (with_reducible apply ev_if) | (with_reducible apply eo_some) | (with_reducible apply el_lst) | (with_reducible exact ea_nil) | (with_reducible exact rv_I0) | (with_reducible exact ru_neg) | (with_reducible exact rv_ltS) | (with_reducible exact rv_inC) | (with_reducible exact rv_notInC) | (with_reducible exact rc_intI) | (with_reducible exact rc_intB) | (with_reducible exact rc_min2) | (with_reducible exact rc_isStr) | (with_reducible exact eo_none) | (with_reducible exact rv_inSS) | (with_reducible exact rv_notInSS) | (with_reducible exact rv_ltSS) | (with_reducible exact rv_eqSS) | (with_reducible exact rv_eqII) | (with_reducible exact rv_neII) | (with_reducible exact rv_neSS) | ((with_reducible refine rc_lenSS ?_); (first | assumption | omega | decide | (simp only [S_len] at *; omega))) | ((with_reducible refine rc_lenStr ?_); (first | assumption | omega | decide | (simp only [S_len] at *; omega))) | ((with_reducible refine rv_catSS ?_); (first | assumption | omega | decide | (simp only [S_len] at *; omega))) | (with_reducible exact rv_eq rfl) | (with_reducible exact rv_ne rfl) | ((with_reducible refine rc_lenS ?_); (first | assumption | omega | decide | (simp only [S_len] at *; omega))) | ((with_reducible refine rc_lenL ?_); assumption) | ((with_reducible apply rv_ixL); assumption; rfl) | ((with_reducible refine rv_catS ?_); (first | assumption | omega | decide | (simp only [S_len] at *; omega))) | ((with_reducible refine rv_I ?_); (first | (show (0 : Int) < _; (first | assumption | omega | decide | (simp only [S_len] at *; omega))) | exact .inr ⟨by decide, by decide⟩ | exact .inl ⟨by (first | assumption | omega | decide | (simp only [S_len] at *; omega)), by (first | assumption | omega | decide | (simp only [S_len] at *; omega))⟩ | exact .inr ⟨by (first | assumption | omega | decide | (simp only [S_len] at *; omega)), by (first | assumption | omega | decide | (simp only [S_len] at *; omega))⟩ | exact ⟨by decide, by decide, by decide⟩ | exact wide_div (b := 128) (by (first | assumption | omega | decide | (simp only [S_len] at *; omega))) (by (first | assumption | omega | decide | (simp only [S_len] at *; omega))) (by decide) (by decide))))) (by omega) (Nat.lt_of_le_of_lt (show ((sh.length : Int) + 1).natAbs ≤ 100 by omega) (by decide)) fun k H5 k0 k1 e5 b5 => ?_
    replace e1 := e1.trans e5
    obtain ⟨k, rfl⟩ : ∃ j : Nat, k = (j : Int) := ⟨k.toNat, by omega⟩
    have hfirst : Ev (tOp (fun x y H Q => ∃ i j, x = .str i ∧ y = .str j ∧ i.length + j.length ≤ sizeLine ∧ Q (.str (i ++ j)) H) (tSl rSlS (tVar 4) tNoPart (tPart (tVar 5))) (tVar 3)) [some (.ref b), some (.str (S l)), some (.str (S ST)), some (.str (S [c])), some (.str (S sh)), some (.int (k : Int))] H5 (.str (S (sh.take k ++ [c]))) :=
      ev_op (ev_to (te := tVar 4) (ti := tVar 5) (l := sh) (k := k) (ev_var rfl) (ev_var rfl) (by omega)) (ev_var (i := 3) rfl) (rv_catSS (b := [c]) (by rw [List.length_take]; simp; omega))
    dsimp only [gName]
    show tRet _ _ [some (.ref b), some (.str (S l)), some (.str (S ST)), some (.str (S [c])), some (.str (S sh)), some (.int (k : Int))] H5
    refine ret_op hfirst fun H6 e6 => ?_
    refine ⟨_, rfl, _, rfl, ?_⟩
    refine sp_take_then (b := b) (many := 2) rfl (b5.ex e6) (by exact ev_c) (by decide) (by decide) fun d2 H7 d20 d21 e7 b7 => ?_
    obtain ⟨j, rfl⟩ : ∃ j : Nat, d2 = (j : Int) := ⟨d2.toNat, by omega⟩
    refine ⟨_, _, rfl, rfl, _, rfl, S sh, rfl, sz_of (by rw [S_len]; omega), ?_⟩
    rw [show (k : Int) + (j : Int) = ((k + j : Nat) : Int) by omega, cut_from]
    refine ⟨S (sh.take k ++ [c]), S (sh.drop (k + j)), rfl, rfl, sz_of (by rw [S_len, S_len, List.length_append, List.length_take, List.length_drop]; simp; omega), ?_⟩
    rw [S_app]
    refine q _ H7 ⟨?_, ?_⟩ (fun hgood => hc.1 (hgood c (by simp))) ((e1.trans (ExB.of e6)).trans e7) b7
    · rw [List.length_append, List.length_append, List.length_take, List.length_drop]
      simp
      omega
    · intro x hx
      rcases List.mem_append.mp hx with hx | hx
      · rcases List.mem_append.mp hx with hx | hx
        · exact sg_low x (hsg x (List.mem_of_mem_take hx))
        · have hx2 : x = c := by simpa using hx
          rw [hx2]
          exact hc.2
      · exact sg_low x (hsg x (List.mem_of_mem_drop hx))
/-! ### all sign strings -/
theorem ev_text {σ : L2.St} {H : Hp} {te tb : TE} {l m : List Nat} (h : Ev te σ H (.str (S l))) (hb : Ev tb σ H (.str (S m))) (e : l = m) : Ev (tCall sp_law_text [] E0 (tCons te (tCons tb tNil))) σ H (.bl true) :=
  ev_call (ea_cons h (ea_cons hb ea_nil)) fun H1 e1 Q q E => ⟨l, m, rfl, by rw [decide_eq_true e] at *; exact q⟩
theorem ev_string {σ : L2.St} {H : Hp} {t1 t2 t3 : TE} {k : Int} {a b : Bool} (h1 : Ev t1 σ H (.int k)) (h2 : Ev t2 σ H (.bl a)) (h3 : Ev t3 σ H (.bl b)) : Ev (tCall sp_law_string [] E0 (tCons t1 (tCons t2 (tCons t3 tNil)))) σ H (.str (S (stv k a b))) :=
  ev_call (ea_cons h1 (ea_cons h2 (ea_cons h3 ea_nil))) fun H1 e1 Q q E => ⟨k, a, b, rfl, q⟩
theorem ev_so {σ : L2.St} {H : Hp} {t1 : TE} {k : Nat} (h1 : Ev t1 σ H (.int (k : Int))) (hk : k ∈ [1, 2, 3, 4]) : Ev (tCall sp_signs_of [V.bl false, V.bl false] E0 (tCons t1 tNil)) σ H (.str (S (stv (k : Nat) false false))) :=
  ev_call (ea_cons h1 ea_nil) fun H1 e1 Q q E => ⟨k, false, false, rfl, hk, q⟩
theorem ev_callN {σ : L2.St} {H : Hp} {n m : Nat} {sp : Sp} {gV : List V → List V → List V} {E : XK} {ta tk : TA} {vs zs : List V} {z : V} (h : EvA ta σ H vs) (hk : EvA tk σ H zs) (l1 : vs.length = n) (l2 : zs.length = m) (hs : SpV sp (gV vs zs) H z) : Ev (tCallN n m sp gV E ta tk) σ H z := fun H1 e Q q =>
  h H1 e _ fun H2 e2 => hk H2 (e.trans e2) _ fun H3 e3 => ⟨l1, l2, hs H3 ((e.trans e2).trans e3) _ (fun H4 e4 => q H4 ((e2.trans e3).trans e4)) _⟩
def sp_law_strings : Sp := fun vs H Q _ => vs = [] ∧ RetV (.bl true) H Q
theorem ok_law_strings (T : Tx K mg w) : OkD P w K mg base 3 d_law_strings ps_law_strings sp_law_strings := by
  obtain ⟨ds, vd_signs_of, bd_signs_of⟩ := b_signs_of T
  obtain ⟨mv1, kb_signs_of_walls_marks⟩ := kb2_signs_of T
  obtain ⟨mv2, kb_signs_of_walls⟩ := kbW_signs_of T
  obtain ⟨mv3, kb_signs_of_marks⟩ := kbM_signs_of T
  refine (h_law_strings T).ok sc_law_strings (fun vs H Q E h => ?_) (fun cdv A outer s H vs Q E hr h => ⟨_,
      (pss_cons (ps_if (pt_not (pt_val (pe_call (ok_law_text (P := P) (w := w) (base := base) T) (hr.mono (by decide)) (by rfl) (m_law_text T) (k_law_text T) (b_law_text T) .nil passN (pa_cons (pe_glob (v := .str "#.:ABCDabcd") rfl (m_SIGNS T).choose_spec ⟨_, rfl⟩) (pa_cons pe_str pa_nil))))) (pss_one (ps_ret pe_bl)) pss_nil)
      (pss_cons (ps_for (passes_of rfl) rfl (pi_range1 rfl (m_range T) (pa_cons pe_int pa_nil)) (pg_name (i := 0) sc_law_strings.nd rfl (Or.inl rfl)) (pss_cons (ps_set (i := 1) sc_law_strings.nd rfl (Or.inl rfl) (pe_op op_add pe_int (pe_op op_fdivW (pv 0) pe_int)))
      (pss_cons (ps_set (i := 2) sc_law_strings.nd rfl (Or.inl rfl) (pe_cmpR op_eq (pe_op op_mod (pv 0) pe_int) pe_int (nomark _)))
      (pss_cons (ps_set (i := 3) sc_law_strings.nd rfl (Or.inl rfl) (pe_cmpR op_eq (pe_op op_mod (pe_op op_fdivW (pv 0) pe_int) pe_int) pe_int (nomark _)))
      (pss_cons (ps_set (i := 4) sc_law_strings.nd rfl (Or.inl rfl) (pe_callN (ok_signs_of (P := P) (w := w) (base := base) T) (hr.mono (by decide)) (by rfl) (m_signs_of T) (k_signs_of T) kb_signs_of_walls_marks passN (pa_cons (pv 1) pa_nil) (pk_cons (pv 2) (pk_cons (pv 3) pk_nil))))
      (pss_one (ps_if (pt_not (pt_val (pe_call (ok_law_text (P := P) (w := w) (base := base) T) (hr.mono (by decide)) (by rfl) (m_law_text T) (k_law_text T) (b_law_text T) .nil passN (pa_cons (pv 4) (pa_cons (pe_call (ok_law_string (P := P) (w := w) (base := base) T) (hr.mono (by decide)) (by rfl) (m_law_string T) (k_law_string T) (b_law_string T) .nil passN (pa_cons (pv 1) (pa_cons (pv 2) (pa_cons (pv 3) pa_nil)))) pa_nil))))) (pss_one (ps_ret pe_bl)) pss_nil)))))))
      (pss_cons (ps_for (passes_of rfl) rfl (pi_list (pe_lst (pa_cons pe_int (pa_cons pe_int (pa_cons pe_int (pa_cons pe_int pa_nil)))))) (pg_name (i := 1) sc_law_strings.nd rfl (Or.inl rfl)) (pss_cons (ps_if (pt_not (pt_val (pe_call (ok_law_text (P := P) (w := w) (base := base) T) (hr.mono (by decide)) (by rfl) (m_law_text T) (k_law_text T) (b_law_text T) .nil passN (pa_cons (pe_call (ok_signs_of (P := P) (w := w) (base := base) T) (hr.mono (by decide)) (by rfl) (m_signs_of T) (k_signs_of T) bd_signs_of vd_signs_of passN (pa_cons (pv 1) pa_nil)) (pa_cons (pe_call (ok_law_string (P := P) (w := w) (base := base) T) (hr.mono (by decide)) (by rfl) (m_law_string T) (k_law_string T) (b_law_string T) .nil passN (pa_cons (pv 1) (pa_cons pe_bl (pa_cons pe_bl pa_nil)))) pa_nil))))) (pss_one (ps_ret pe_bl)) pss_nil)
      (pss_cons (ps_if (pt_not (pt_val (pe_call (ok_law_text (P := P) (w := w) (base := base) T) (hr.mono (by decide)) (by rfl) (m_law_text T) (k_law_text T) (b_law_text T) .nil passN (pa_cons (pe_callN (ok_signs_of (P := P) (w := w) (base := base) T) (hr.mono (by decide)) (by rfl) (m_signs_of T) (k_signs_of T) kb_signs_of_walls passN (pa_cons (pv 1) pa_nil) (pk_cons pe_bl pk_nil)) (pa_cons (pe_call (ok_law_string (P := P) (w := w) (base := base) T) (hr.mono (by decide)) (by rfl) (m_law_string T) (k_law_string T) (b_law_string T) .nil passN (pa_cons (pv 1) (pa_cons pe_bl (pa_cons pe_bl pa_nil)))) pa_nil))))) (pss_one (ps_ret pe_bl)) pss_nil)
      (pss_one (ps_if (pt_not (pt_val (pe_call (ok_law_text (P := P) (w := w) (base := base) T) (hr.mono (by decide)) (by rfl) (m_law_text T) (k_law_text T) (b_law_text T) .nil passN (pa_cons (pe_callN (ok_signs_of (P := P) (w := w) (base := base) T) (hr.mono (by decide)) (by rfl) (m_signs_of T) (k_signs_of T) kb_signs_of_marks passN (pa_cons (pv 1) pa_nil) (pk_cons pe_bl pk_nil)) (pa_cons (pe_call (ok_law_string (P := P) (w := w) (base := base) T) (hr.mono (by decide)) (by rfl) (m_law_string T) (k_law_string T) (b_law_string T) .nil passN (pa_cons (pv 1) (pa_cons pe_bl (pa_cons pe_bl pa_nil)))) pa_nil))))) (pss_one (ps_ret pe_bl)) pss_nil)))))
      (pss_one (ps_ret pe_bl))))), ?_⟩)
  · obtain ⟨rfl, _⟩ := h
    rfl
  · obtain ⟨rfl, q⟩ := h
    have k1 : Str.ofString "#.:ABCDabcd" = S SG := by decide +kernel
    simp only [k1]
    refine q_when (b := !true) (et_not (et_B (ev_text ev_c ev_c rfl))) (fun hc => by cases hc) (fun _ H1 e1 => ?_)
    refine q_forR1 (n := 16) (by exact ea_cons ev_c ea_nil) (by decide) (fun i σ' H' => Ex H H' ∧ ∃ v0 v1 v2 v3 v4, σ' = [v0, v1, v2, v3, v4]) (fun H2 e2 => ⟨e1.trans e2, none, none, none, none, none, rfl⟩) ?_ ?_
    · rintro i σ' H' hi ⟨e, v0, v1, v2, v3, v4, rfl⟩
      have hk : 1 + i / 4 ∈ [1, 2, 3, 4] := by
        have hi' : i < 16 := by omega
        have : 1 + i / 4 = 1 ∨ 1 + i / 4 = 2 ∨ 1 + i / 4 = 3 ∨ 1 + i / 4 = 4 := by omega
        simp only [List.mem_cons, List.not_mem_nil, or_false]
        exact this
      refine q_asg (v := .int ((1 + i / 4 : Nat) : Int)) (by rw [show ((1 + i / 4 : Nat) : Int) = 1 + (i : Int) / 4 by omega]; repeat' (first | ((with_reducible refine ev_pow10 ?_ ?_ ?_) <;> first | rfl | decide) | (with_reducible refine fun (_ : _ = true) => ?_) | (with_reducible refine fun (_ : _ = false) => ?_) | (with_reducible exact ev_c) | ((with_reducible apply ev_var); rfl) | (with_reducible apply ev_op) | (with_reducible apply ev_un) | (with_reducible apply ev_cb) | (with_reducible apply ea_cons) | (with_reducible apply ev_andV) | (with_reducible apply ev_orV) | (with_reducible apply ev_notV) | (with_reducible apply ev_if) | (with_reducible apply eo_some) | (with_reducible apply el_lst) | (with_reducible exact ea_nil) | (with_reducible exact rv_I0) | (with_reducible exact ru_neg) | (with_reducible exact rv_ltS) | (with_reducible exact rv_inC) | (with_reducible exact rv_notInC) | (with_reducible exact rc_intI) | (with_reducible exact rc_intB) | (with_reducible exact rc_min2) | (with_reducible exact rc_isStr) | (with_reducible exact eo_none) | (with_reducible exact rv_inSS) | (with_reducible exact rv_notInSS) | (with_reducible exact rv_ltSS) | (with_reducible exact rv_eqSS) | (with_reducible exact rv_eqII) | (with_reducible exact rv_neII) | (with_reducible exact rv_neSS) | ((with_reducible refine rc_lenSS ?_); (first | assumption | omega | decide | (simp only [S_len] at *; omega))) | ((with_reducible refine rc_lenStr ?_); (first | assumption | omega | decide | (simp only [S_len] at *; omega))) | ((with_reducible refine rv_catSS ?_); (first | assumption | omega | decide | (simp only [S_len] at *; omega))) | (with_reducible exact rv_eq rfl) | (with_reducible exact rv_ne rfl) | ((with_reducible refine rc_lenS ?_); (first | assumption | omega | decide | (simp only [S_len] at *; omega))) | ((with_reducible refine rc_lenL ?_); assumption) | ((with_reducible apply rv_ixL); assumption; rfl) | ((with_reducible refine rv_catS ?_); (first | assumption | omega | decide | (simp only [S_len] at *; omega))) | ((with_reducible refine rv_I ?_); (first | (show (0 : Int) < _; (first | assumption | omega | decide | (simp only [S_len] at *; omega))) | exact .inr ⟨by decide, by decide⟩ | exact .inl ⟨by (first | assumption | omega | decide | (simp only [S_len] at *; omega)), by (first | assumption | omega | decide | (simp only [S_len] at *; omega))⟩ | exact .inr ⟨by (first | assumption | omega | decide | (simp only [S_len] at *; omega)), by (first | assumption | omega | decide | (simp only [S_len] at *; omega))⟩ | exact ⟨by decide, by decide, by decide⟩ | exact wide_div (b := 128) (by (first | assumption | omega | decide | (simp only [S_len] at *; omega))) (by (first | assumption | omega | decide | (simp only [S_len] at *; omega))) (by decide) (by decide))))) fun H2 e2 => ?_
      refine q_asg (v := .bl (decide ((i : Int) % 2 = 1))) (by repeat' (first | ((with_reducible refine ev_pow10 ?_ ?_ ?_) <;> first | rfl | decide) | (with_reducible refine fun (_ : _ = true) => ?_) | (with_reducible refine fun (_ : _ = false) => ?_) | (with_reducible exact ev_c) | ((with_reducible apply ev_var); rfl) | (with_reducible apply ev_op) | (with_reducible apply ev_un) | (with_reducible apply ev_cb) | (with_reducible apply ea_cons) | (with_reducible apply ev_andV) | (with_reducible apply ev_orV) | (with_reducible apply ev_notV) | (with_reducible apply ev_if) | (with_reducible apply eo_some) | (with_reducible apply el_lst) | (with_reducible exact ea_nil) | (with_reducible exact rv_I0) | (with_reducible exact ru_neg) | (with_reducible exact rv_ltS) | (with_reducible exact rv_inC) | (with_reducible exact rv_notInC) | (with_reducible exact rc_intI) | (with_reducible exact rc_intB) | (with_reducible exact rc_min2) | (with_reducible exact rc_isStr) | (with_reducible exact eo_none) | (with_reducible exact rv_inSS) | (with_reducible exact rv_notInSS) | (with_reducible exact rv_ltSS) | (with_reducible exact rv_eqSS) | (with_reducible exact rv_eqII) | (with_reducible exact rv_neII) | (with_reducible exact rv_neSS) | ((with_reducible refine rc_lenSS ?_); (first | assumption | omega | decide | (simp only [S_len] at *; omega))) | ((with_reducible refine rc_lenStr ?_); (first | assumption | omega | decide | (simp only [S_len] at *; omega))) | ((with_reducible refine rv_catSS ?_); (first | assumption | omega | decide | (simp only [S_len] at *; omega))) | (with_reducible exact rv_eq rfl) | (with_reducible exact rv_ne rfl) | ((with_reducible refine rc_lenS ?_); (first | assumption | omega | decide | (simp only [S_len] at *; omega))) | ((with_reducible refine rc_lenL ?_); assumption) | ((with_reducible apply rv_ixL); assumption; rfl) | ((with_reducible refine rv_catS ?_); (first | assumption | omega | decide | (simp only [S_len] at *; omega))) | ((with_reducible refine rv_I ?_); (first | (show (0 : Int) < _; (first | assumption | omega | decide | (simp only [S_len] at *; omega))) | exact .inr ⟨by decide, by decide⟩ | exact .inl ⟨by (first | assumption | omega | decide | (simp only [S_len] at *; omega)), by (first | assumption | omega | decide | (simp only [S_len] at *; omega))⟩ | exact .inr ⟨by (first | assumption | omega | decide | (simp only [S_len] at *; omega)), by (first | assumption | omega | decide | (simp only [S_len] at *; omega))⟩ | exact ⟨by decide, by decide, by decide⟩ | exact wide_div (b := 128) (by (first | assumption | omega | decide | (simp only [S_len] at *; omega))) (by (first | assumption | omega | decide | (simp only [S_len] at *; omega))) (by decide) (by decide))))) fun H3 e3 => ?_
      refine q_asg (v := .bl (decide ((i : Int) / 2 % 2 = 1))) (by repeat' (first | ((with_reducible refine ev_pow10 ?_ ?_ ?_) <;> first | rfl | decide) | (with_reducible refine fun (_ : _ = true) => ?_) | (with_reducible refine fun (_ : _ = false) => ?_) | (with_reducible exact ev_c) | ((with_reducible apply ev_var); rfl) | (with_reducible apply ev_op) | (with_reducible apply ev_un) | (with_reducible apply ev_cb) | (with_reducible apply ea_cons) | (with_reducible apply ev_andV) | (with_reducible apply ev_orV) | (with_reducible apply ev_notV) | (with_reducible apply ev_if) | (with_reducible apply eo_some) | (with_reducible apply el_lst) | (with_reducible exact ea_nil) | (with_reducible exact rv_I0) | (with_reducible exact ru_neg) | (with_reducible exact rv_ltS) | (with_reducible exact rv_inC) | (with_reducible exact rv_notInC) | (with_reducible exact rc_intI) | (with_reducible exact rc_intB) | (with_reducible exact rc_min2) | (with_reducible exact rc_isStr) | (with_reducible exact eo_none) | (with_reducible exact rv_inSS) | (with_reducible exact rv_notInSS) | (with_reducible exact rv_ltSS) | (with_reducible exact rv_eqSS) | (with_reducible exact rv_eqII) | (with_reducible exact rv_neII) | (with_reducible exact rv_neSS) | ((with_reducible refine rc_lenSS ?_); (first | assumption | omega | decide | (simp only [S_len] at *; omega))) | ((with_reducible refine rc_lenStr ?_); (first | assumption | omega | decide | (simp only [S_len] at *; omega))) | ((with_reducible refine rv_catSS ?_); (first | assumption | omega | decide | (simp only [S_len] at *; omega))) | (with_reducible exact rv_eq rfl) | (with_reducible exact rv_ne rfl) | ((with_reducible refine rc_lenS ?_); (first | assumption | omega | decide | (simp only [S_len] at *; omega))) | ((with_reducible refine rc_lenL ?_); assumption) | ((with_reducible apply rv_ixL); assumption; rfl) | ((with_reducible refine rv_catS ?_); (first | assumption | omega | decide | (simp only [S_len] at *; omega))) | ((with_reducible refine rv_I ?_); (first | (show (0 : Int) < _; (first | assumption | omega | decide | (simp only [S_len] at *; omega))) | exact .inr ⟨by decide, by decide⟩ | exact .inl ⟨by (first | assumption | omega | decide | (simp only [S_len] at *; omega)), by (first | assumption | omega | decide | (simp only [S_len] at *; omega))⟩ | exact .inr ⟨by (first | assumption | omega | decide | (simp only [S_len] at *; omega)), by (first | assumption | omega | decide | (simp only [S_len] at *; omega))⟩ | exact ⟨by decide, by decide, by decide⟩ | exact wide_div (b := 128) (by (first | assumption | omega | decide | (simp only [S_len] at *; omega))) (by (first | assumption | omega | decide | (simp only [S_len] at *; omega))) (by decide) (by decide))))) fun H4 e4 => ?_
      refine q_asg (v := .str (S (stv ((1 + i / 4 : Nat) : Int) (decide ((i : Int) % 2 = 1)) (decide ((i : Int) / 2 % 2 = 1))))) (ev_callN (ea_cons (by exact ev_var rfl) ea_nil) (ea_cons (by exact ev_var rfl) (ea_cons (by exact ev_var rfl) ea_nil)) rfl rfl fun H5 e5 Q5 q5 E5 => ⟨1 + i / 4, _, _, rfl, hk, q5⟩) fun H5 e5 => ?_
      refine s_when (b := !true) (et_not (et_B (ev_text (by exact ev_var rfl) (ev_string (by exact ev_var rfl) (by exact ev_var rfl) (by exact ev_var rfl)) rfl))) (fun hc => by cases hc) (fun _ H6 e6 => ?_)
      exact ⟨((((e.trans e2).trans e3).trans e4).trans e5).trans e6, _, _, _, _, _, rfl⟩
    · rintro σ' H' ⟨e, v0, v1, v2, v3, v4, rfl⟩
      refine q_forNLn (xs := [V.int 1, V.int 2, V.int 3, V.int 4]) (el_lst (ea_cons ev_c (ea_cons ev_c (ea_cons ev_c (ea_cons ev_c ea_nil)))) (by simp)) (fun p i σ' H' => H' p = some (.lst [V.int 1, V.int 2, V.int 3, V.int 4]) ∧ Ex H H' ∧ ∃ v0 v1 v2 v3 v4, σ' = [v0, v1, v2, v3, v4]) (fun p H6 hp e6 h6 => ⟨h6, e.trans e6, _, _, _, _, _, rfl⟩) (fun p i σ' H' _ hP => SqL.of hP.1) ?_ ?_
      · rintro p i x σ' H' hx ⟨hp, e, v0, v1, v2, v3, v4, rfl⟩
        obtain ⟨k, rfl, hk⟩ : ∃ k : Nat, x = .int (k : Int) ∧ k ∈ [1, 2, 3, 4] := by
          have hm := List.mem_of_getElem? hx
          simp only [List.mem_cons, List.not_mem_nil, or_false] at hm
          rcases hm with rfl | rfl | rfl | rfl
          · exact ⟨1, rfl, by simp⟩
          · exact ⟨2, rfl, by simp⟩
          · exact ⟨3, rfl, by simp⟩
          · exact ⟨4, rfl, by simp⟩
        refine q_when (b := !true) (et_not (et_B (ev_text (ev_so (by exact ev_var rfl) hk) (ev_string (by exact ev_var rfl) ev_c ev_c) rfl))) (fun hc => by cases hc) (fun _ H2 e2 => ?_)
        refine q_when (b := !true) (et_not (et_B (ev_text (l := stv (k : Nat) true false) (ev_callN (ea_cons (by exact ev_var rfl) ea_nil) (ea_cons ev_c ea_nil) rfl rfl fun H5 e5 Q5 q5 E5 => ⟨k, true, false, rfl, hk, q5⟩) (ev_string (by exact ev_var rfl) ev_c ev_c) rfl))) (fun hc => by cases hc) (fun _ H3 e3 => ?_)
        refine s_when (b := !true) (et_not (et_B (ev_text (l := stv (k : Nat) false true) (ev_callN (ea_cons (by exact ev_var rfl) ea_nil) (ea_cons ev_c ea_nil) rfl rfl fun H5 e5 Q5 q5 E5 => ⟨k, false, true, rfl, hk, q5⟩) (ev_string (by exact ev_var rfl) ev_c ev_c) rfl))) (fun hc => by cases hc) (fun _ H4 e4 => ?_)
        exact ⟨e4 _ _ (e3 _ _ (e2 _ _ hp)), ((e.trans e2).trans e3).trans e4, _, _, _, _, _, rfl⟩
      · rintro p σ' H' ⟨hp, e, v0, v1, v2, v3, v4, rfl⟩
        exact s_ret (by exact ev_c) fun H2 e2 => q H2 (e.trans e2)
end
end K00
namespace K00
open PySem PySem.Spec PyProof.Rows L2 Lc Evl
section
variable {P : Program} {w : World} {K : PySem.W.Frag} {mg : Str → Option Value} {base : Heap}
/-! ### errors as values -/
def INTS : List Nat := [1, 5, 6, 9, 12, 17, 18]
def TUPS : List Nat := [15, 16]
def eC (k : Nat) : Str := (ec.getD k ("", "")).1
def eF (k : Nat) : Str := (ec.getD k ("", "")).2
theorem eC_inj : ∀ k < 20, ∀ j < 20, decide (eC k = eC j) = decide (k = j) := by decide +kernel
theorem e_mem {k : Nat} (h : k < 20) : (eC k, eF k) ∈ ec := by
  have hl : ec.length = 20 := rfl
  unfold eC eF
  rw [List.getD_eq_getElem?_getD, List.getElem?_eq_getElem (by omega)]
  exact List.getElem_mem _
def FitV (H : Hp) (k : Nat) (x : V) : Prop := (k ∈ INTS → KI x) ∧ (k ∈ TUPS → KT H x) ∧ (k ∉ INTS → k ∉ TUPS → KS x)
theorem KT.ex {H H' : Hp} {x : V} (h : KT H x) (e : Ex H H') : KT H' x := by
  obtain ⟨t, l, h1, h2, h3⟩ := h
  exact ⟨t, l, h1, e _ _ h2, h3⟩
theorem FitV.ex {H H' : Hp} {k : Nat} {x : V} (h : FitV H k x) (e : Ex H H') : FitV H' k x := ⟨h.1, fun m => (h.2.1 m).ex e, h.2.2⟩
/-- an error of the class number k that keeps x, at a -/
def IsE (K : PySem.W.Frag) (H : Hp) (a : Addr) (k : Nat) (x : V) : Prop := ∃ dx, H a = some (exo a (He.ga K (eC k)) (some dx)) ∧ H dx = some (exd dx [(eF k, x)])
theorem IsE.ex {H H' : Hp} {a : Addr} {k : Nat} {x : V} (h : IsE K H a k x) (e : Ex H H') : IsE K H' a k x := by
  obtain ⟨dx, h1, h2⟩ := h
  exact ⟨dx, e _ _ h1, e _ _ h2⟩
def RetE (K : PySem.W.Frag) (H : Hp) (k : Nat) (x : V) (Q : VK) : Prop := ∀ a H', H a = none → Ex H H' → IsE K H' a k x → Q (.ref a) H'
theorem mk_val {k : Nat} {H H1 : Hp} {a : Addr} {x : V} {Q : VK} (q : RetE K H k x Q) (e : Ex H H1) (ha : H1 a = none) : Made K (eC k) (eF k) (upd H1 a (exo a (He.ga K (eC k)) none)) a x fun v H2 => v = .non ∧ Q (.ref a) H2 := by
  refine ⟨upd_same, fun dx hd hda => ⟨rfl, ?_⟩⟩
  rw [upd_ne hda] at hd
  refine q a _ (fresh_back e ha) ?_ ⟨dx, upd_same, by rw [upd_ne hda, upd_same]⟩
  refine e.trans fun b o hb => ?_
  have n1 : b ≠ dx := fun z => by rw [z, hd] at hb; cases hb
  have n2 : b ≠ a := fun z => by rw [z, ha] at hb; cases hb
  rw [upd_ne n2, upd_ne n1, upd_ne n2]
  exact hb
theorem dk {k : Nat} {j : Nat} : decide ((k : Int) = (j : Int)) = decide (k = j) := decide_eq_decide.mpr ⟨fun h => by omega, fun h => by omega⟩
def sp_law_error (K : PySem.W.Frag) : Sp := fun vs H Q _ => ∃ (k : Nat) (x : V), vs = [.int (k : Int), x] ∧ k < 20 ∧ FitV H k x ∧ RetE K H k x Q
theorem ok_law_error (T : Tx K mg w) : OkD P w K mg base 3 d_law_error ps_law_error (sp_law_error K) := by
  refine (h_law_error T).ok sc_law_error (fun vs H Q E h => ?_) (fun cdv A outer s H vs Q E hr h => ⟨_,
      (pss_cons (ps_if (pt_cmpR op_eq (pv 0) pe_int (nomark _)) (pss_one (ps_ret (pe_mkV (x_InvalidRow T).oex (x_InvalidRow T).iC (x_InvalidRow T).tI (ok_InvalidRow_init (P := P) (w := w) (base := base) T) (hr.mono (by decide)) (b_InvalidRow_init T) .nil passN (by rfl) (m_InvalidRow T) (pa_cons (pv 1) pa_nil)))) pss_nil)
      (pss_cons (ps_if (pt_cmpR op_eq (pv 0) pe_int (nomark _)) (pss_one (ps_ret (pe_mkV (x_InvalidPlace T).oex (x_InvalidPlace T).iC (x_InvalidPlace T).tI (ok_InvalidPlace_init (P := P) (w := w) (base := base) T) (hr.mono (by decide)) (b_InvalidPlace_init T) .nil passN (by rfl) (m_InvalidPlace T) (pa_cons (pv 1) pa_nil)))) pss_nil)
      (pss_cons (ps_if (pt_cmpR op_eq (pv 0) pe_int (nomark _)) (pss_one (ps_ret (pe_mkV (x_InvalidJump T).oex (x_InvalidJump T).iC (x_InvalidJump T).tI (ok_InvalidJump_init (P := P) (w := w) (base := base) T) (hr.mono (by decide)) (b_InvalidJump_init T) .nil passN (by rfl) (m_InvalidJump T) (pa_cons (pv 1) pa_nil)))) pss_nil)
      (pss_cons (ps_if (pt_cmpR op_eq (pv 0) pe_int (nomark _)) (pss_one (ps_ret (pe_mkV (x_InvalidCard T).oex (x_InvalidCard T).iC (x_InvalidCard T).tI (ok_InvalidCard_init (P := P) (w := w) (base := base) T) (hr.mono (by decide)) (b_InvalidCard_init T) .nil passN (by rfl) (m_InvalidCard T) (pa_cons (pv 1) pa_nil)))) pss_nil)
      (pss_cons (ps_if (pt_cmpR op_eq (pv 0) pe_int (nomark _)) (pss_one (ps_ret (pe_mkV (x_InvalidBoard T).oex (x_InvalidBoard T).iC (x_InvalidBoard T).tI (ok_InvalidBoard_init (P := P) (w := w) (base := base) T) (hr.mono (by decide)) (b_InvalidBoard_init T) .nil passN (by rfl) (m_InvalidBoard T) (pa_cons (pv 1) pa_nil)))) pss_nil)
      (pss_cons (ps_if (pt_cmpR op_eq (pv 0) pe_int (nomark _)) (pss_one (ps_ret (pe_mkV (x_NoJump T).oex (x_NoJump T).iC (x_NoJump T).tI (ok_NoJump_init (P := P) (w := w) (base := base) T) (hr.mono (by decide)) (b_NoJump_init T) .nil passN (by rfl) (m_NoJump T) (pa_cons (pv 1) pa_nil)))) pss_nil)
      (pss_cons (ps_if (pt_cmpR op_eq (pv 0) pe_int (nomark _)) (pss_one (ps_ret (pe_mkV (x_TooMany T).oex (x_TooMany T).iC (x_TooMany T).tI (ok_TooMany_init (P := P) (w := w) (base := base) T) (hr.mono (by decide)) (b_TooMany_init T) .nil passN (by rfl) (m_TooMany T) (pa_cons (pv 1) pa_nil)))) pss_nil)
      (pss_cons (ps_if (pt_cmpR op_eq (pv 0) pe_int (nomark _)) (pss_one (ps_ret (pe_mkV (x_InvalidMachine T).oex (x_InvalidMachine T).iC (x_InvalidMachine T).tI (ok_InvalidMachine_init (P := P) (w := w) (base := base) T) (hr.mono (by decide)) (b_InvalidMachine_init T) .nil passN (by rfl) (m_InvalidMachine T) (pa_cons (pv 1) pa_nil)))) pss_nil)
      (pss_cons (ps_if (pt_cmpR op_eq (pv 0) pe_int (nomark _)) (pss_one (ps_ret (pe_mkV (x_Unlike T).oex (x_Unlike T).iC (x_Unlike T).tI (ok_Unlike_init (P := P) (w := w) (base := base) T) (hr.mono (by decide)) (b_Unlike_init T) .nil passN (by rfl) (m_Unlike T) (pa_cons (pv 1) pa_nil)))) pss_nil)
      (pss_cons (ps_if (pt_cmpR op_eq (pv 0) pe_int (nomark _)) (pss_one (ps_ret (pe_mkV (x_InvalidPattern T).oex (x_InvalidPattern T).iC (x_InvalidPattern T).tI (ok_InvalidPattern_init (P := P) (w := w) (base := base) T) (hr.mono (by decide)) (b_InvalidPattern_init T) .nil passN (by rfl) (m_InvalidPattern T) (pa_cons (pv 1) pa_nil)))) pss_nil)
      (pss_cons (ps_if (pt_cmpR op_eq (pv 0) pe_int (nomark _)) (pss_one (ps_ret (pe_mkV (x_InvalidTarget T).oex (x_InvalidTarget T).iC (x_InvalidTarget T).tI (ok_InvalidTarget_init (P := P) (w := w) (base := base) T) (hr.mono (by decide)) (b_InvalidTarget_init T) .nil passN (by rfl) (m_InvalidTarget T) (pa_cons (pv 1) pa_nil)))) pss_nil)
      (pss_cons (ps_if (pt_cmpR op_eq (pv 0) pe_int (nomark _)) (pss_one (ps_ret (pe_mkV (x_NotExact T).oex (x_NotExact T).iC (x_NotExact T).tI (ok_NotExact_init (P := P) (w := w) (base := base) T) (hr.mono (by decide)) (b_NotExact_init T) .nil passN (by rfl) (m_NotExact T) (pa_cons (pv 1) pa_nil)))) pss_nil)
      (pss_cons (ps_if (pt_cmpR op_eq (pv 0) pe_int (nomark _)) (pss_one (ps_ret (pe_mkV (x_NoMachine T).oex (x_NoMachine T).iC (x_NoMachine T).tI (ok_NoMachine_init (P := P) (w := w) (base := base) T) (hr.mono (by decide)) (b_NoMachine_init T) .nil passN (by rfl) (m_NoMachine T) (pa_cons (pv 1) pa_nil)))) pss_nil)
      (pss_cons (ps_if (pt_cmpR op_eq (pv 0) pe_int (nomark _)) (pss_one (ps_ret (pe_mkV (x_InvalidMeasure T).oex (x_InvalidMeasure T).iC (x_InvalidMeasure T).tI (ok_InvalidMeasure_init (P := P) (w := w) (base := base) T) (hr.mono (by decide)) (b_InvalidMeasure_init T) .nil passN (by rfl) (m_InvalidMeasure T) (pa_cons (pv 1) pa_nil)))) pss_nil)
      (pss_cons (ps_if (pt_cmpR op_eq (pv 0) pe_int (nomark _)) (pss_one (ps_ret (pe_mkV (x_InvalidWeight T).oex (x_InvalidWeight T).iC (x_InvalidWeight T).tI (ok_InvalidWeight_init (P := P) (w := w) (base := base) T) (hr.mono (by decide)) (b_InvalidWeight_init T) .nil passN (by rfl) (m_InvalidWeight T) (pa_cons (pv 1) pa_nil)))) pss_nil)
      (pss_cons (ps_if (pt_cmpR op_eq (pv 0) pe_int (nomark _)) (pss_one (ps_ret (pe_mkV (x_InvalidSight T).oex (x_InvalidSight T).iC (x_InvalidSight T).tI (ok_InvalidSight_init (P := P) (w := w) (base := base) T) (hr.mono (by decide)) (b_InvalidSight_init T) .nil passN (by rfl) (m_InvalidSight T) (pa_cons (pv 1) pa_nil)))) pss_nil)
      (pss_cons (ps_if (pt_cmpR op_eq (pv 0) pe_int (nomark _)) (pss_one (ps_ret (pe_mkV (x_InvalidFact T).oex (x_InvalidFact T).iC (x_InvalidFact T).tI (ok_InvalidFact_init (P := P) (w := w) (base := base) T) (hr.mono (by decide)) (b_InvalidFact_init T) .nil passN (by rfl) (m_InvalidFact T) (pa_cons (pv 1) pa_nil)))) pss_nil)
      (pss_cons (ps_if (pt_cmpR op_eq (pv 0) pe_int (nomark _)) (pss_one (ps_ret (pe_mkV (x_OverQuota T).oex (x_OverQuota T).iC (x_OverQuota T).tI (ok_OverQuota_init (P := P) (w := w) (base := base) T) (hr.mono (by decide)) (b_OverQuota_init T) .nil passN (by rfl) (m_OverQuota T) (pa_cons (pv 1) pa_nil)))) pss_nil)
      (pss_cons (ps_if (pt_cmpR op_eq (pv 0) pe_int (nomark _)) (pss_one (ps_ret (pe_mkV (x_NothingLeft T).oex (x_NothingLeft T).iC (x_NothingLeft T).tI (ok_NothingLeft_init (P := P) (w := w) (base := base) T) (hr.mono (by decide)) (b_NothingLeft_init T) .nil passN (by rfl) (m_NothingLeft T) (pa_cons (pv 1) pa_nil)))) pss_nil)
      (pss_one (ps_ret (pe_mkV (x_InvalidOption T).oex (x_InvalidOption T).iC (x_InvalidOption T).tI (ok_InvalidOption_init (P := P) (w := w) (base := base) T) (hr.mono (by decide)) (b_InvalidOption_init T) .nil passN (by rfl) (m_InvalidOption T) (pa_cons (pv 1) pa_nil))))))))))))))))))))))), ?_⟩)
  · obtain ⟨k, x, rfl, _⟩ := h
    rfl
  · obtain ⟨k, x, rfl, hk, hf, q⟩ := h
    have e0 : Ex H H := Ex.refl H
    refine q_when (b := decide ((k : Int) = 0)) (by first | ((with_reducible apply et_test); (repeat' (first | ((with_reducible refine ev_pow10 ?_ ?_ ?_) <;> first | rfl | decide) | (with_reducible refine fun (_ : _ = true) => ?_) | (with_reducible refine fun (_ : _ = false) => ?_) | (with_reducible exact ev_c) | ((with_reducible apply ev_var); rfl) | (with_reducible apply ev_op) | (with_reducible apply ev_un) | (with_reducible apply ev_cb) | (with_reducible apply ea_cons) | (with_reducible apply ev_andV) | (with_reducible apply ev_orV) | (with_reducible apply ev_notV) | (with_reducible apply ev_if) | (with_reducible apply eo_some) | (with_reducible apply el_lst) | (with_reducible exact ea_nil) | (with_reducible exact rv_I0) | (with_reducible exact ru_neg) | (with_reducible exact rv_ltS) | (with_reducible exact rv_inC) | (with_reducible exact rv_notInC) | (with_reducible exact rc_intI) | (with_reducible exact rc_intB) | (with_reducible exact rc_min2) | (with_reducible exact rc_isStr) | (with_reducible exact eo_none) | (with_reducible exact rv_inSS) | (with_reducible exact rv_notInSS) | (with_reducible exact rv_ltSS) | (with_reducible exact rv_eqSS) | (with_reducible exact rv_eqII) | (with_reducible exact rv_neII) | (with_reducible exact rv_neSS) | ((with_reducible refine rc_lenSS ?_); (first | assumption | omega | decide | (simp only [S_len] at *; omega))) | ((with_reducible refine rc_lenStr ?_); (first | assumption | omega | decide | (simp only [S_len] at *; omega))) | ((with_reducible refine rv_catSS ?_); (first | assumption | omega | decide | (simp only [S_len] at *; omega))) | (with_reducible exact rv_eq rfl) | (with_reducible exact rv_ne rfl) | ((with_reducible refine rc_lenS ?_); (first | assumption | omega | decide | (simp only [S_len] at *; omega))) | ((with_reducible refine rc_lenL ?_); assumption) | ((with_reducible apply rv_ixL); assumption; rfl) | ((with_reducible refine rv_catS ?_); (first | assumption | omega | decide | (simp only [S_len] at *; omega))) | ((with_reducible refine rv_I ?_); (first | (show (0 : Int) < _; (first | assumption | omega | decide | (simp only [S_len] at *; omega))) | exact .inr ⟨by decide, by decide⟩ | exact .inl ⟨by (first | assumption | omega | decide | (simp only [S_len] at *; omega)), by (first | assumption | omega | decide | (simp only [S_len] at *; omega))⟩ | exact .inr ⟨by (first | assumption | omega | decide | (simp only [S_len] at *; omega)), by (first | assumption | omega | decide | (simp only [S_len] at *; omega))⟩ | exact ⟨by decide, by decide, by decide⟩ | exact wide_div (b := 128) (by (first | assumption | omega | decide | (simp only [S_len] at *; omega))) (by (first | assumption | omega | decide | (simp only [S_len] at *; omega))) (by decide) (by decide)))))) | ((with_reducible apply et_B); (repeat' (first | ((with_reducible refine ev_pow10 ?_ ?_ ?_) <;> first | rfl | decide) | (with_reducible refine fun (_ : _ = true) => ?_) | (with_reducible refine fun (_ : _ = false) => ?_) | (with_reducible exact ev_c) | ((with_reducible apply ev_var); rfl) | (with_reducible apply ev_op) | (with_reducible apply ev_un) | (with_reducible apply ev_cb) | (with_reducible apply ea_cons) | (with_reducible apply ev_andV) | (with_reducible apply ev_orV) | (with_reducible apply ev_notV) | (with_reducible apply ev_if) | (with_reducible apply eo_some) | (with_reducible apply el_lst) | (with_reducible exact ea_nil) | (with_reducible exact rv_I0) | (with_reducible exact ru_neg) | (with_reducible exact rv_ltS) | (with_reducible exact rv_inC) | (with_reducible exact rv_notInC) | (with_reducible exact rc_intI) | (with_reducible exact rc_intB) | (with_reducible exact rc_min2) | (with_reducible exact rc_isStr) | (with_reducible exact eo_none) | (with_reducible exact rv_inSS) | (with_reducible exact rv_notInSS) | (with_reducible exact rv_ltSS) | (with_reducible exact rv_eqSS) | (with_reducible exact rv_eqII) | (with_reducible exact rv_neII) | (with_reducible exact rv_neSS) | ((with_reducible refine rc_lenSS ?_); (first | assumption | omega | decide | (simp only [S_len] at *; omega))) | ((with_reducible refine rc_lenStr ?_); (first | assumption | omega | decide | (simp only [S_len] at *; omega))) | ((with_reducible refine rv_catSS ?_); (first | assumption | omega | decide | (simp only [S_len] at *; omega))) | (with_reducible exact rv_eq rfl) | (with_reducible exact rv_ne rfl) | ((with_reducible refine rc_lenS ?_); (first | assumption | omega | decide | (simp only [S_len] at *; omega))) | ((with_reducible refine rc_lenL ?_); assumption) | ((with_reducible apply rv_ixL); assumption; rfl) | ((with_reducible refine rv_catS ?_); (first | assumption | omega | decide | (simp only [S_len] at *; omega))) | ((with_reducible refine rv_I ?_); (first | (show (0 : Int) < _; (first | assumption | omega | decide | (simp only [S_len] at *; omega))) | exact .inr ⟨by decide, by decide⟩ | exact .inl ⟨by (first | assumption | omega | decide | (simp only [S_len] at *; omega)), by (first | assumption | omega | decide | (simp only [S_len] at *; omega))⟩ | exact .inr ⟨by (first | assumption | omega | decide | (simp only [S_len] at *; omega)), by (first | assumption | omega | decide | (simp only [S_len] at *; omega))⟩ | exact ⟨by decide, by decide, by decide⟩ | exact wide_div (b := 128) (by (first | assumption | omega | decide | (simp only [S_len] at *; omega))) (by (first | assumption | omega | decide | (simp only [S_len] at *; omega))) (by decide) (by decide))))))) (fun hc H1 e1 => ?_) (fun hc0 H1' e1' => ?_)
    · have hc2 : k = 0 := by
        have := of_decide_eq_true hc
        omega
      subst hc2
      exact ⟨_, rfl, by simp, fun a ha => ⟨a, _, rfl, (hf.2.2 (by decide) (by decide)), mk_val (k := 0) q (e0.trans e1) ha⟩⟩
    replace e0 := e0.trans e1'
    refine q_when (b := decide ((k : Int) = 1)) (by first | ((with_reducible apply et_test); (repeat' (first | ((with_reducible refine ev_pow10 ?_ ?_ ?_) <;> first | rfl | decide) | (with_reducible refine fun (_ : _ = true) => ?_) | (with_reducible refine fun (_ : _ = false) => ?_) | (with_reducible exact ev_c) | ((with_reducible apply ev_var); rfl) | (with_reducible apply ev_op) | (with_reducible apply ev_un) | (with_reducible apply ev_cb) | (with_reducible apply ea_cons) | (with_reducible apply ev_andV) | (with_reducible apply ev_orV) | (with_reducible apply ev_notV) | (with_reducible apply ev_if) | (with_reducible apply eo_some) | (with_reducible apply el_lst) | (with_reducible exact ea_nil) | (with_reducible exact rv_I0) | (with_reducible exact ru_neg) | (with_reducible exact rv_ltS) | (with_reducible exact rv_inC) | (with_reducible exact rv_notInC) | (with_reducible exact rc_intI) | (with_reducible exact rc_intB) | (with_reducible exact rc_min2) | (with_reducible exact rc_isStr) | (with_reducible exact eo_none) | (with_reducible exact rv_inSS) | (with_reducible exact rv_notInSS) | (with_reducible exact rv_ltSS) | (with_reducible exact rv_eqSS) | (with_reducible exact rv_eqII) | (with_reducible exact rv_neII) | (with_reducible exact rv_neSS) | ((with_reducible refine rc_lenSS ?_); (first | assumption | omega | decide | (simp only [S_len] at *; omega))) | ((with_reducible refine rc_lenStr ?_); (first | assumption | omega | decide | (simp only [S_len] at *; omega))) | ((with_reducible refine rv_catSS ?_); (first | assumption | omega | decide | (simp only [S_len] at *; omega))) | (with_reducible exact rv_eq rfl) | (with_reducible exact rv_ne rfl) | ((with_reducible refine rc_lenS ?_); (first | assumption | omega | decide | (simp only [S_len] at *; omega))) | ((with_reducible refine rc_lenL ?_); assumption) | ((with_reducible apply rv_ixL); assumption; rfl) | ((with_reducible refine rv_catS ?_); (first | assumption | omega | decide | (simp only [S_len] at *; omega))) | ((with_reducible refine rv_I ?_); (first | (show (0 : Int) < _; (first | assumption | omega | decide | (simp only [S_len] at *; omega))) | exact .inr ⟨by decide, by decide⟩ | exact .inl ⟨by (first | assumption | omega | decide | (simp only [S_len] at *; omega)), by (first | assumption | omega | decide | (simp only [S_len] at *; omega))⟩ | exact .inr ⟨by (first | assumption | omega | decide | (simp only [S_len] at *; omega)), by (first | assumption | omega | decide | (simp only [S_len] at *; omega))⟩ | exact ⟨by decide, by decide, by decide⟩ | exact wide_div (b := 128) (by (first | assumption | omega | decide | (simp only [S_len] at *; omega))) (by (first | assumption | omega | decide | (simp only [S_len] at *; omega))) (by decide) (by decide)))))) | ((with_reducible apply et_B); (repeat' (first | ((with_reducible refine ev_pow10 ?_ ?_ ?_) <;> first | rfl | decide) | (with_reducible refine fun (_ : _ = true) => ?_) | (with_reducible refine fun (_ : _ = false) => ?_) | (with_reducible exact ev_c) | ((with_reducible apply ev_var); rfl) | (with_reducible apply ev_op) | (with_reducible apply ev_un) | (with_reducible apply ev_cb) | (with_reducible apply ea_cons) | (with_reducible apply ev_andV) | (with_reducible apply ev_orV) | (with_reducible apply ev_notV) | (with_reducible apply ev_if) | (with_reducible apply eo_some) | (with_reducible apply el_lst) | (with_reducible exact ea_nil) | (with_reducible exact rv_I0) | (with_reducible exact ru_neg) | (with_reducible exact rv_ltS) | (with_reducible exact rv_inC) | (with_reducible exact rv_notInC) | (with_reducible exact rc_intI) | (with_reducible exact rc_intB) | (with_reducible exact rc_min2) | (with_reducible exact rc_isStr) | (with_reducible exact eo_none) | (with_reducible exact rv_inSS) | (with_reducible exact rv_notInSS) | (with_reducible exact rv_ltSS) | (with_reducible exact rv_eqSS) | (with_reducible exact rv_eqII) | (with_reducible exact rv_neII) | (with_reducible exact rv_neSS) | ((with_reducible refine rc_lenSS ?_); (first | assumption | omega | decide | (simp only [S_len] at *; omega))) | ((with_reducible refine rc_lenStr ?_); (first | assumption | omega | decide | (simp only [S_len] at *; omega))) | ((with_reducible refine rv_catSS ?_); (first | assumption | omega | decide | (simp only [S_len] at *; omega))) | (with_reducible exact rv_eq rfl) | (with_reducible exact rv_ne rfl) | ((with_reducible refine rc_lenS ?_); (first | assumption | omega | decide | (simp only [S_len] at *; omega))) | ((with_reducible refine rc_lenL ?_); assumption) | ((with_reducible apply rv_ixL); assumption; rfl) | ((with_reducible refine rv_catS ?_); (first | assumption | omega | decide | (simp only [S_len] at *; omega))) | ((with_reducible refine rv_I ?_); (first | (show (0 : Int) < _; (first | assumption | omega | decide | (simp only [S_len] at *; omega))) | exact .inr ⟨by decide, by decide⟩ | exact .inl ⟨by (first | assumption | omega | decide | (simp only [S_len] at *; omega)), by (first | assumption | omega | decide | (simp only [S_len] at *; omega))⟩ | exact .inr ⟨by (first | assumption | omega | decide | (simp only [S_len] at *; omega)), by (first | assumption | omega | decide | (simp only [S_len] at *; omega))⟩ | exact ⟨by decide, by decide, by decide⟩ | exact wide_div (b := 128) (by (first | assumption | omega | decide | (simp only [S_len] at *; omega))) (by (first | assumption | omega | decide | (simp only [S_len] at *; omega))) (by decide) (by decide))))))) (fun hc H1 e1 => ?_) (fun hc1 H2' e2' => ?_)
    · have hc2 : k = 1 := by
        have := of_decide_eq_true hc
        omega
      subst hc2
      exact ⟨_, rfl, by simp, fun a ha => ⟨a, _, rfl, (hf.1 (by decide)), mk_val (k := 1) q (e0.trans e1) ha⟩⟩
    replace e0 := e0.trans e2'
    refine q_when (b := decide ((k : Int) = 2)) (by first | ((with_reducible apply et_test); (repeat' (first | ((with_reducible refine ev_pow10 ?_ ?_ ?_) <;> first | rfl | decide) | (with_reducible refine fun (_ : _ = true) => ?_) | (with_reducible refine fun (_ : _ = false) => ?_) | (with_reducible exact ev_c) | ((with_reducible apply ev_var); rfl) | (with_reducible apply ev_op) | (with_reducible apply ev_un) | (with_reducible apply ev_cb) | (with_reducible apply ea_cons) | (with_reducible apply ev_andV) | (with_reducible apply ev_orV) | (with_reducible apply ev_notV) | (with_reducible apply ev_if) | (with_reducible apply eo_some) | (with_reducible apply el_lst) | (with_reducible exact ea_nil) | (with_reducible exact rv_I0) | (with_reducible exact ru_neg) | (with_reducible exact rv_ltS) | (with_reducible exact rv_inC) | (with_reducible exact rv_notInC) | (with_reducible exact rc_intI) | (with_reducible exact rc_intB) | (with_reducible exact rc_min2) | (with_reducible exact rc_isStr) | (with_reducible exact eo_none) | (with_reducible exact rv_inSS) | (with_reducible exact rv_notInSS) | (with_reducible exact rv_ltSS) | (with_reducible exact rv_eqSS) | (with_reducible exact rv_eqII) | (with_reducible exact rv_neII) | (with_reducible exact rv_neSS) | ((with_reducible refine rc_lenSS ?_); (first | assumption | omega | decide | (simp only [S_len] at *; omega))) | ((with_reducible refine rc_lenStr ?_); (first | assumption | omega | decide | (simp only [S_len] at *; omega))) | ((with_reducible refine rv_catSS ?_); (first | assumption | omega | decide | (simp only [S_len] at *; omega))) | (with_reducible exact rv_eq rfl) | (with_reducible exact rv_ne rfl) | ((with_reducible refine rc_lenS ?_); (first | assumption | omega | decide | (simp only [S_len] at *; omega))) | ((with_reducible refine rc_lenL ?_); assumption) | ((with_reducible apply rv_ixL); assumption; rfl) | ((with_reducible refine rv_catS ?_); (first | assumption | omega | decide | (simp only [S_len] at *; omega))) | ((with_reducible refine rv_I ?_); (first | (show (0 : Int) < _; (first | assumption | omega | decide | (simp only [S_len] at *; omega))) | exact .inr ⟨by decide, by decide⟩ | exact .inl ⟨by (first | assumption | omega | decide | (simp only [S_len] at *; omega)), by (first | assumption | omega | decide | (simp only [S_len] at *; omega))⟩ | exact .inr ⟨by (first | assumption | omega | decide | (simp only [S_len] at *; omega)), by (first | assumption | omega | decide | (simp only [S_len] at *; omega))⟩ | exact ⟨by decide, by decide, by decide⟩ | exact wide_div (b := 128) (by (first | assumption | omega | decide | (simp only [S_len] at *; omega))) (by (first | assumption | omega | decide | (simp only [S_len] at *; omega))) (by decide) (by decide)))))) | ((with_reducible apply et_B); (repeat' (first | ((with_reducible refine ev_pow10 ?_ ?_ ?_) <;> first | rfl | decide) | (with_reducible refine fun (_ : _ = true) => ?_) | (with_reducible refine fun (_ : _ = false) => ?_) | (with_reducible exact ev_c) | ((with_reducible apply ev_var); rfl) | (with_reducible apply ev_op) | (with_reducible apply ev_un) | (with_reducible apply ev_cb) | (with_reducible apply ea_cons) | (with_reducible apply ev_andV) | (with_reducible apply ev_orV) | (with_reducible apply ev_notV) | (with_reducible apply ev_if) | (with_reducible apply eo_some) | (with_reducible apply el_lst) | (with_reducible exact ea_nil) | (with_reducible exact rv_I0) | (with_reducible exact ru_neg) | (with_reducible exact rv_ltS) | (with_reducible exact rv_inC) | (with_reducible exact rv_notInC) | (with_reducible exact rc_intI) | (with_reducible exact rc_intB) | (with_reducible exact rc_min2) | (with_reducible exact rc_isStr) | (with_reducible exact eo_none) | (with_reducible exact rv_inSS) | (with_reducible exact rv_notInSS) | (with_reducible exact rv_ltSS) | (with_reducible exact rv_eqSS) | (with_reducible exact rv_eqII) | (with_reducible exact rv_neII) | (with_reducible exact rv_neSS) | ((with_reducible refine rc_lenSS ?_); (first | assumption | omega | decide | (simp only [S_len] at *; omega))) | ((with_reducible refine rc_lenStr ?_); (first | assumption | omega | decide | (simp only [S_len] at *; omega))) | ((with_reducible refine rv_catSS ?_); (first | assumption | omega | decide | (simp only [S_len] at *; omega))) | (with_reducible exact rv_eq rfl) | (with_reducible exact rv_ne rfl) | ((with_reducible refine rc_lenS ?_); (first | assumption | omega | decide | (simp only [S_len] at *; omega))) | ((with_reducible refine rc_lenL ?_); assumption) | ((with_reducible apply rv_ixL); assumption; rfl) | ((with_reducible refine rv_catS ?_); (first | assumption | omega | decide | (simp only [S_len] at *; omega))) | ((with_reducible refine rv_I ?_); (first | (show (0 : Int) < _; (first | assumption | omega | decide | (simp only [S_len] at *; omega))) | exact .inr ⟨by decide, by decide⟩ | exact .inl ⟨by (first | assumption | omega | decide | (simp only [S_len] at *; omega)), by (first | assumption | omega | decide | (simp only [S_len] at *; omega))⟩ | exact .inr ⟨by (first | assumption | omega | decide | (simp only [S_len] at *; omega)), by (first | assumption | omega | decide | (simp only [S_len] at *; omega))⟩ | exact ⟨by decide, by decide, by decide⟩ | exact wide_div (b := 128) (by (first | assumption | omega | decide | (simp only [S_len] at *; omega))) (by (first | assumption | omega | decide | (simp only [S_len] at *; omega))) (by decide) (by decide))))))) (fun hc H1 e1 => ?_) (fun hc2 H3' e3' => ?_)
    · have hc2 : k = 2 := by
        have := of_decide_eq_true hc
        omega
      subst hc2
      exact ⟨_, rfl, by simp, fun a ha => ⟨a, _, rfl, (hf.2.2 (by decide) (by decide)), mk_val (k := 2) q (e0.trans e1) ha⟩⟩
    replace e0 := e0.trans e3'
    refine q_when (b := decide ((k : Int) = 3)) (by first | ((with_reducible apply et_test); (repeat' (first | ((with_reducible refine ev_pow10 ?_ ?_ ?_) <;> first | rfl | decide) | (with_reducible refine fun (_ : _ = true) => ?_) | (with_reducible refine fun (_ : _ = false) => ?_) | (with_reducible exact ev_c) | ((with_reducible apply ev_var); rfl) | (with_reducible apply ev_op) | (with_reducible apply ev_un) | (with_reducible apply ev_cb) | (with_reducible apply ea_cons) | (with_reducible apply ev_andV) | (with_reducible apply ev_orV) | (with_reducible apply ev_notV) | (with_reducible apply ev_if) | (with_reducible apply eo_some) | (with_reducible apply el_lst) | (with_reducible exact ea_nil) | (with_reducible exact rv_I0) | (with_reducible exact ru_neg) | (with_reducible exact rv_ltS) | (with_reducible exact rv_inC) | (with_reducible exact rv_notInC) | (with_reducible exact rc_intI) | (with_reducible exact rc_intB) | (with_reducible exact rc_min2) | (with_reducible exact rc_isStr) | (with_reducible exact eo_none) | (with_reducible exact rv_inSS) | (with_reducible exact rv_notInSS) | (with_reducible exact rv_ltSS) | (with_reducible exact rv_eqSS) | (with_reducible exact rv_eqII) | (with_reducible exact rv_neII) | (with_reducible exact rv_neSS) | ((with_reducible refine rc_lenSS ?_); (first | assumption | omega | decide | (simp only [S_len] at *; omega))) | ((with_reducible refine rc_lenStr ?_); (first | assumption | omega | decide | (simp only [S_len] at *; omega))) | ((with_reducible refine rv_catSS ?_); (first | assumption | omega | decide | (simp only [S_len] at *; omega))) | (with_reducible exact rv_eq rfl) | (with_reducible exact rv_ne rfl) | ((with_reducible refine rc_lenS ?_); (first | assumption | omega | decide | (simp only [S_len] at *; omega))) | ((with_reducible refine rc_lenL ?_); assumption) | ((with_reducible apply rv_ixL); assumption; rfl) | ((with_reducible refine rv_catS ?_); (first | assumption | omega | decide | (simp only [S_len] at *; omega))) | ((with_reducible refine rv_I ?_); (first | (show (0 : Int) < _; (first | assumption | omega | decide | (simp only [S_len] at *; omega))) | exact .inr ⟨by decide, by decide⟩ | exact .inl ⟨by (first | assumption | omega | decide | (simp only [S_len] at *; omega)), by (first | assumption | omega | decide | (simp only [S_len] at *; omega))⟩ | exact .inr ⟨by (first | assumption | omega | decide | (simp only [S_len] at *; omega)), by (first | assumption | omega | decide | (simp only [S_len] at *; omega))⟩ | exact ⟨by decide, by decide, by decide⟩ | exact wide_div (b := 128) (by (first | assumption | omega | decide | (simp only [S_len] at *; omega))) (by (first | assumption | omega | decide | (simp only [S_len] at *; omega))) (by decide) (by decide)))))) | ((with_reducible apply et_B); (repeat' (first | ((with_reducible refine ev_pow10 ?_ ?_ ?_) <;> first | rfl | decide) | (with_reducible refine fun (_ : _ = true) => ?_) | (with_reducible refine fun (_ : _ = false) => ?_) | (with_reducible exact ev_c) | ((with_reducible apply ev_var); rfl) | (with_reducible apply ev_op) | (with_reducible apply ev_un) | (with_reducible apply ev_cb) | (with_reducible apply ea_cons) | (with_reducible apply ev_andV) | (with_reducible apply ev_orV) | (with_reducible apply ev_notV) | (with_reducible apply ev_if) | (with_reducible apply eo_some) | (with_reducible apply el_lst) | (with_reducible exact ea_nil) | (with_reducible exact rv_I0) | (with_reducible exact ru_neg) | (with_reducible exact rv_ltS) | (with_reducible exact rv_inC) | (with_reducible exact rv_notInC) | (with_reducible exact rc_intI) | (with_reducible exact rc_intB) | (with_reducible exact rc_min2) | (with_reducible exact rc_isStr) | (with_reducible exact eo_none) | (with_reducible exact rv_inSS) | (with_reducible exact rv_notInSS) | (with_reducible exact rv_ltSS) | (with_reducible exact rv_eqSS) | (with_reducible exact rv_eqII) | (with_reducible exact rv_neII) | (with_reducible exact rv_neSS) | ((with_reducible refine rc_lenSS ?_); (first | assumption | omega | decide | (simp only [S_len] at *; omega))) | ((with_reducible refine rc_lenStr ?_); (first | assumption | omega | decide | (simp only [S_len] at *; omega))) | ((with_reducible refine rv_catSS ?_); (first | assumption | omega | decide | (simp only [S_len] at *; omega))) | (with_reducible exact rv_eq rfl) | (with_reducible exact rv_ne rfl) | ((with_reducible refine rc_lenS ?_); (first | assumption | omega | decide | (simp only [S_len] at *; omega))) | ((with_reducible refine rc_lenL ?_); assumption) | ((with_reducible apply rv_ixL); assumption; rfl) | ((with_reducible refine rv_catS ?_); (first | assumption | omega | decide | (simp only [S_len] at *; omega))) | ((with_reducible refine rv_I ?_); (first | (show (0 : Int) < _; (first | assumption | omega | decide | (simp only [S_len] at *; omega))) | exact .inr ⟨by decide, by decide⟩ | exact .inl ⟨by (first | assumption | omega | decide | (simp only [S_len] at *; omega)), by (first | assumption | omega | decide | (simp only [S_len] at *; omega))⟩ | exact .inr ⟨by (first | assumption | omega | decide | (simp only [S_len] at *; omega)), by (first | assumption | omega | decide | (simp only [S_len] at *; omega))⟩ | exact ⟨by decide, by decide, by decide⟩ | exact wide_div (b := 128) (by (first | assumption | omega | decide | (simp only [S_len] at *; omega))) (by (first | assumption | omega | decide | (simp only [S_len] at *; omega))) (by decide) (by decide))))))) (fun hc H1 e1 => ?_) (fun hc3 H4' e4' => ?_)
    · have hc2 : k = 3 := by
        have := of_decide_eq_true hc
        omega
      subst hc2
      exact ⟨_, rfl, by simp, fun a ha => ⟨a, _, rfl, (hf.2.2 (by decide) (by decide)), mk_val (k := 3) q (e0.trans e1) ha⟩⟩
    replace e0 := e0.trans e4'
    refine q_when (b := decide ((k : Int) = 4)) (by first | ((with_reducible apply et_test); (repeat' (first | ((with_reducible refine ev_pow10 ?_ ?_ ?_) <;> first | rfl | decide) | (with_reducible refine fun (_ : _ = true) => ?_) | (with_reducible refine fun (_ : _ = false) => ?_) | (with_reducible exact ev_c) | ((with_reducible apply ev_var); rfl) | (with_reducible apply ev_op) | (with_reducible apply ev_un) | (with_reducible apply ev_cb) | (with_reducible apply ea_cons) | (with_reducible apply ev_andV) | (with_reducible apply ev_orV) | (with_reducible apply ev_notV) | (with_reducible apply ev_if) | (with_reducible apply eo_some) | (with_reducible apply el_lst) | (with_reducible exact ea_nil) | (with_reducible exact rv_I0) | (with_reducible exact ru_neg) | (with_reducible exact rv_ltS) | (with_reducible exact rv_inC) | (with_reducible exact rv_notInC) | (with_reducible exact rc_intI) | (with_reducible exact rc_intB) | (with_reducible exact rc_min2) | (with_reducible exact rc_isStr) | (with_reducible exact eo_none) | (with_reducible exact rv_inSS) | (with_reducible exact rv_notInSS) | (with_reducible exact rv_ltSS) | (with_reducible exact rv_eqSS) | (with_reducible exact rv_eqII) | (with_reducible exact rv_neII) | (with_reducible exact rv_neSS) | ((with_reducible refine rc_lenSS ?_); (first | assumption | omega | decide | (simp only [S_len] at *; omega))) | ((with_reducible refine rc_lenStr ?_); (first | assumption | omega | decide | (simp only [S_len] at *; omega))) | ((with_reducible refine rv_catSS ?_); (first | assumption | omega | decide | (simp only [S_len] at *; omega))) | (with_reducible exact rv_eq rfl) | (with_reducible exact rv_ne rfl) | ((with_reducible refine rc_lenS ?_); (first | assumption | omega | decide | (simp only [S_len] at *; omega))) | ((with_reducible refine rc_lenL ?_); assumption) | ((with_reducible apply rv_ixL); assumption; rfl) | ((with_reducible refine rv_catS ?_); (first | assumption | omega | decide | (simp only [S_len] at *; omega))) | ((with_reducible refine rv_I ?_); (first | (show (0 : Int) < _; (first | assumption | omega | decide | (simp only [S_len] at *; omega))) | exact .inr ⟨by decide, by decide⟩ | exact .inl ⟨by (first | assumption | omega | decide | (simp only [S_len] at *; omega)), by (first | assumption | omega | decide | (simp only [S_len] at *; omega))⟩ | exact .inr ⟨by (first | assumption | omega | decide | (simp only [S_len] at *; omega)), by (first | assumption | omega | decide | (simp only [S_len] at *; omega))⟩ | exact ⟨by decide, by decide, by decide⟩ | exact wide_div (b := 128) (by (first | assumption | omega | decide | (simp only [S_len] at *; omega))) (by (first | assumption | omega | decide | (simp only [S_len] at *; omega))) (by decide) (by decide)))))) | ((with_reducible apply et_B); (repeat' (first | ((with_reducible refine ev_pow10 ?_ ?_ ?_) <;> first | rfl | decide) | (with_reducible refine fun (_ : _ = true) => ?_) | (with_reducible refine fun (_ : _ = false) => ?_) | (with_reducible exact ev_c) | ((with_reducible apply ev_var); rfl) | (with_reducible apply ev_op) | (with_reducible apply ev_un) | (with_reducible apply ev_cb) | (with_reducible apply ea_cons) | (with_reducible apply ev_andV) | (with_reducible apply ev_orV) | (with_reducible apply ev_notV) | (with_reducible apply ev_if) | (with_reducible apply eo_some) | (with_reducible apply el_lst) | (with_reducible exact ea_nil) | (with_reducible exact rv_I0) | (with_reducible exact ru_neg) | (with_reducible exact rv_ltS) | (with_reducible exact rv_inC) | (with_reducible exact rv_notInC) | (with_reducible exact rc_intI) | (with_reducible exact rc_intB) | (with_reducible exact rc_min2) | (with_reducible exact rc_isStr) | (with_reducible exact eo_none) | (with_reducible exact rv_inSS) | (with_reducible exact rv_notInSS) | (with_reducible exact rv_ltSS) | (with_reducible exact rv_eqSS) | (with_reducible exact rv_eqII) | (with_reducible exact rv_neII) | (with_reducible exact rv_neSS) | ((with_reducible refine rc_lenSS ?_); (first | assumption | omega | decide | (simp only [S_len] at *; omega))) | ((with_reducible refine rc_lenStr ?_); (first | assumption | omega | decide | (simp only [S_len] at *; omega))) | ((with_reducible refine rv_catSS ?_); (first | assumption | omega | decide | (simp only [S_len] at *; omega))) | (with_reducible exact rv_eq rfl) | (with_reducible exact rv_ne rfl) | ((with_reducible refine rc_lenS ?_); (first | assumption | omega | decide | (simp only [S_len] at *; omega))) | ((with_reducible refine rc_lenL ?_); assumption) | ((with_reducible apply rv_ixL); assumption; rfl) | ((with_reducible refine rv_catS ?_); (first | assumption | omega | decide | (simp only [S_len] at *; omega))) | ((with_reducible refine rv_I ?_); (first | (show (0 : Int) < _; (first | assumption | omega | decide | (simp only [S_len] at *; omega))) | exact .inr ⟨by decide, by decide⟩ | exact .inl ⟨by (first | assumption | omega | decide | (simp only [S_len] at *; omega)), by (first | assumption | omega | decide | (simp only [S_len] at *; omega))⟩ | exact .inr ⟨by (first | assumption | omega | decide | (simp only [S_len] at *; omega)), by (first | assumption | omega | decide | (simp only [S_len] at *; omega))⟩ | exact ⟨by decide, by decide, by decide⟩ | exact wide_div (b := 128) (by (first | assumption | omega | decide | (simp only [S_len] at *; omega))) (by (first | assumption | omega | decide | (simp only [S_len] at *; omega))) (by decide) (by decide))))))) (fun hc H1 e1 => ?_) (fun hc4 H5' e5' => ?_)
    · have hc2 : k = 4 := by
        have := of_decide_eq_true hc
        omega
      subst hc2
      exact ⟨_, rfl, by simp, fun a ha => ⟨a, _, rfl, (hf.2.2 (by decide) (by decide)), mk_val (k := 4) q (e0.trans e1) ha⟩⟩
    replace e0 := e0.trans e5'
    refine q_when (b := decide ((k : Int) = 5)) (by first | ((with_reducible apply et_test); (repeat' (first | ((with_reducible refine ev_pow10 ?_ ?_ ?_) <;> first | rfl | decide) | (with_reducible refine fun (_ : _ = true) => ?_) | (with_reducible refine fun (_ : _ = false) => ?_) | (with_reducible exact ev_c) | ((with_reducible apply ev_var); rfl) | (with_reducible apply ev_op) | (with_reducible apply ev_un) | (with_reducible apply ev_cb) | (with_reducible apply ea_cons) | (with_reducible apply ev_andV) | (with_reducible apply ev_orV) | (with_reducible apply ev_notV) | (with_reducible apply ev_if) | (with_reducible apply eo_some) | (with_reducible apply el_lst) | (with_reducible exact ea_nil) | (with_reducible exact rv_I0) | (with_reducible exact ru_neg) | (with_reducible exact rv_ltS) | (with_reducible exact rv_inC) | (with_reducible exact rv_notInC) | (with_reducible exact rc_intI) | (with_reducible exact rc_intB) | (with_reducible exact rc_min2) | (with_reducible exact rc_isStr) | (with_reducible exact eo_none) | (with_reducible exact rv_inSS) | (with_reducible exact rv_notInSS) | (with_reducible exact rv_ltSS) | (with_reducible exact rv_eqSS) | (with_reducible exact rv_eqII) | (with_reducible exact rv_neII) | (with_reducible exact rv_neSS) | ((with_reducible refine rc_lenSS ?_); (first | assumption | omega | decide | (simp only [S_len] at *; omega))) | ((with_reducible refine rc_lenStr ?_); (first | assumption | omega | decide | (simp only [S_len] at *; omega))) | ((with_reducible refine rv_catSS ?_); (first | assumption | omega | decide | (simp only [S_len] at *; omega))) | (with_reducible exact rv_eq rfl) | (with_reducible exact rv_ne rfl) | ((with_reducible refine rc_lenS ?_); (first | assumption | omega | decide | (simp only [S_len] at *; omega))) | ((with_reducible refine rc_lenL ?_); assumption) | ((with_reducible apply rv_ixL); assumption; rfl) | ((with_reducible refine rv_catS ?_); (first | assumption | omega | decide | (simp only [S_len] at *; omega))) | ((with_reducible refine rv_I ?_); (first | (show (0 : Int) < _; (first | assumption | omega | decide | (simp only [S_len] at *; omega))) | exact .inr ⟨by decide, by decide⟩ | exact .inl ⟨by (first | assumption | omega | decide | (simp only [S_len] at *; omega)), by (first | assumption | omega | decide | (simp only [S_len] at *; omega))⟩ | exact .inr ⟨by (first | assumption | omega | decide | (simp only [S_len] at *; omega)), by (first | assumption | omega | decide | (simp only [S_len] at *; omega))⟩ | exact ⟨by decide, by decide, by decide⟩ | exact wide_div (b := 128) (by (first | assumption | omega | decide | (simp only [S_len] at *; omega))) (by (first | assumption | omega | decide | (simp only [S_len] at *; omega))) (by decide) (by decide)))))) | ((with_reducible apply et_B); (repeat' (first | ((with_reducible refine ev_pow10 ?_ ?_ ?_) <;> first | rfl | decide) | (with_reducible refine fun (_ : _ = true) => ?_) | (with_reducible refine fun (_ : _ = false) => ?_) | (with_reducible exact ev_c) | ((with_reducible apply ev_var); rfl) | (with_reducible apply ev_op) | (with_reducible apply ev_un) | (with_reducible apply ev_cb) | (with_reducible apply ea_cons) | (with_reducible apply ev_andV) | (with_reducible apply ev_orV) | (with_reducible apply ev_notV) | (with_reducible apply ev_if) | (with_reducible apply eo_some) | (with_reducible apply el_lst) | (with_reducible exact ea_nil) | (with_reducible exact rv_I0) | (with_reducible exact ru_neg) | (with_reducible exact rv_ltS) | (with_reducible exact rv_inC) | (with_reducible exact rv_notInC) | (with_reducible exact rc_intI) | (with_reducible exact rc_intB) | (with_reducible exact rc_min2) | (with_reducible exact rc_isStr) | (with_reducible exact eo_none) | (with_reducible exact rv_inSS) | (with_reducible exact rv_notInSS) | (with_reducible exact rv_ltSS) | (with_reducible exact rv_eqSS) | (with_reducible exact rv_eqII) | (with_reducible exact rv_neII) | (with_reducible exact rv_neSS) | ((with_reducible refine rc_lenSS ?_); (first | assumption | omega | decide | (simp only [S_len] at *; omega))) | ((with_reducible refine rc_lenStr ?_); (first | assumption | omega | decide | (simp only [S_len] at *; omega))) | ((with_reducible refine rv_catSS ?_); (first | assumption | omega | decide | (simp only [S_len] at *; omega))) | (with_reducible exact rv_eq rfl) | (with_reducible exact rv_ne rfl) | ((with_reducible refine rc_lenS ?_); (first | assumption | omega | decide | (simp only [S_len] at *; omega))) | ((with_reducible refine rc_lenL ?_); assumption) | ((with_reducible apply rv_ixL); assumption; rfl) | ((with_reducible refine rv_catS ?_); (first | assumption | omega | decide | (simp only [S_len] at *; omega))) | ((with_reducible refine rv_I ?_); (first | (show (0 : Int) < _; (first | assumption | omega | decide | (simp only [S_len] at *; omega))) | exact .inr ⟨by decide, by decide⟩ | exact .inl ⟨by (first | assumption | omega | decide | (simp only [S_len] at *; omega)), by (first | assumption | omega | decide | (simp only [S_len] at *; omega))⟩ | exact .inr ⟨by (first | assumption | omega | decide | (simp only [S_len] at *; omega)), by (first | assumption | omega | decide | (simp only [S_len] at *; omega))⟩ | exact ⟨by decide, by decide, by decide⟩ | exact wide_div (b := 128) (by (first | assumption | omega | decide | (simp only [S_len] at *; omega))) (by (first | assumption | omega | decide | (simp only [S_len] at *; omega))) (by decide) (by decide))))))) (fun hc H1 e1 => ?_) (fun hc5 H6' e6' => ?_)
    · have hc2 : k = 5 := by
        have := of_decide_eq_true hc
        omega
      subst hc2
      exact ⟨_, rfl, by simp, fun a ha => ⟨a, _, rfl, (hf.1 (by decide)), mk_val (k := 5) q (e0.trans e1) ha⟩⟩
    replace e0 := e0.trans e6'
    refine q_when (b := decide ((k : Int) = 6)) (by first | ((with_reducible apply et_test); (repeat' (first | ((with_reducible refine ev_pow10 ?_ ?_ ?_) <;> first | rfl | decide) | (with_reducible refine fun (_ : _ = true) => ?_) | (with_reducible refine fun (_ : _ = false) => ?_) | (with_reducible exact ev_c) | ((with_reducible apply ev_var); rfl) | (with_reducible apply ev_op) | (with_reducible apply ev_un) | (with_reducible apply ev_cb) | (with_reducible apply ea_cons) | (with_reducible apply ev_andV) | (with_reducible apply ev_orV) | (with_reducible apply ev_notV) | (with_reducible apply ev_if) | (with_reducible apply eo_some) | (with_reducible apply el_lst) | (with_reducible exact ea_nil) | (with_reducible exact rv_I0) | (with_reducible exact ru_neg) | (with_reducible exact rv_ltS) | (with_reducible exact rv_inC) | (with_reducible exact rv_notInC) | (with_reducible exact rc_intI) | (with_reducible exact rc_intB) | (with_reducible exact rc_min2) | (with_reducible exact rc_isStr) | (with_reducible exact eo_none) | (with_reducible exact rv_inSS) | (with_reducible exact rv_notInSS) | (with_reducible exact rv_ltSS) | (with_reducible exact rv_eqSS) | (with_reducible exact rv_eqII) | (with_reducible exact rv_neII) | (with_reducible exact rv_neSS) | ((with_reducible refine rc_lenSS ?_); (first | assumption | omega | decide | (simp only [S_len] at *; omega))) | ((with_reducible refine rc_lenStr ?_); (first | assumption | omega | decide | (simp only [S_len] at *; omega))) | ((with_reducible refine rv_catSS ?_); (first | assumption | omega | decide | (simp only [S_len] at *; omega))) | (with_reducible exact rv_eq rfl) | (with_reducible exact rv_ne rfl) | ((with_reducible refine rc_lenS ?_); (first | assumption | omega | decide | (simp only [S_len] at *; omega))) | ((with_reducible refine rc_lenL ?_); assumption) | ((with_reducible apply rv_ixL); assumption; rfl) | ((with_reducible refine rv_catS ?_); (first | assumption | omega | decide | (simp only [S_len] at *; omega))) | ((with_reducible refine rv_I ?_); (first | (show (0 : Int) < _; (first | assumption | omega | decide | (simp only [S_len] at *; omega))) | exact .inr ⟨by decide, by decide⟩ | exact .inl ⟨by (first | assumption | omega | decide | (simp only [S_len] at *; omega)), by (first | assumption | omega | decide | (simp only [S_len] at *; omega))⟩ | exact .inr ⟨by (first | assumption | omega | decide | (simp only [S_len] at *; omega)), by (first | assumption | omega | decide | (simp only [S_len] at *; omega))⟩ | exact ⟨by decide, by decide, by decide⟩ | exact wide_div (b := 128) (by (first | assumption | omega | decide | (simp only [S_len] at *; omega))) (by (first | assumption | omega | decide | (simp only [S_len] at *; omega))) (by decide) (by decide)))))) | ((with_reducible apply et_B); (repeat' (first | ((with_reducible refine ev_pow10 ?_ ?_ ?_) <;> first | rfl | decide) | (with_reducible refine fun (_ : _ = true) => ?_) | (with_reducible refine fun (_ : _ = false) => ?_) | (with_reducible exact ev_c) | ((with_reducible apply ev_var); rfl) | (with_reducible apply ev_op) | (with_reducible apply ev_un) | (with_reducible apply ev_cb) | (with_reducible apply ea_cons) | (with_reducible apply ev_andV) | (with_reducible apply ev_orV) | (with_reducible apply ev_notV) | (with_reducible apply ev_if) | (with_reducible apply eo_some) | (with_reducible apply el_lst) | (with_reducible exact ea_nil) | (with_reducible exact rv_I0) | (with_reducible exact ru_neg) | (with_reducible exact rv_ltS) | (with_reducible exact rv_inC) | (with_reducible exact rv_notInC) | (with_reducible exact rc_intI) | (with_reducible exact rc_intB) | (with_reducible exact rc_min2) | (with_reducible exact rc_isStr) | (with_reducible exact eo_none) | (with_reducible exact rv_inSS) | (with_reducible exact rv_notInSS) | (with_reducible exact rv_ltSS) | (with_reducible exact rv_eqSS) | (with_reducible exact rv_eqII) | (with_reducible exact rv_neII) | (with_reducible exact rv_neSS) | ((with_reducible refine rc_lenSS ?_); (first | assumption | omega | decide | (simp only [S_len] at *; omega))) | ((with_reducible refine rc_lenStr ?_); (first | assumption | omega | decide | (simp only [S_len] at *; omega))) | ((with_reducible refine rv_catSS ?_); (first | assumption | omega | decide | (simp only [S_len] at *; omega))) | (with_reducible exact rv_eq rfl) | (with_reducible exact rv_ne rfl) | ((with_reducible refine rc_lenS ?_); (first | assumption | omega | decide | (simp only [S_len] at *; omega))) | ((with_reducible refine rc_lenL ?_); assumption) | ((with_reducible apply rv_ixL); assumption; rfl) | ((with_reducible refine rv_catS ?_); (first | assumption | omega | decide | (simp only [S_len] at *; omega))) | ((with_reducible refine rv_I ?_); (first | (show (0 : Int) < _; (first | assumption | omega | decide | (simp only [S_len] at *; omega))) | exact .inr ⟨by decide, by decide⟩ | exact .inl ⟨by (first | assumption | omega | decide | (simp only [S_len] at *; omega)), by (first | assumption | omega | decide | (simp only [S_len] at *; omega))⟩ | exact .inr ⟨by (first | assumption | omega | decide | (simp only [S_len] at *; omega)), by (first | assumption | omega | decide | (simp only [S_len] at *; omega))⟩ | exact ⟨by decide, by decide, by decide⟩ | exact wide_div (b := 128) (by (first | assumption | omega | decide | (simp only [S_len] at *; omega))) (by (first | assumption | omega | decide | (simp only [S_len] at *; omega))) (by decide) (by decide))))))) (fun hc H1 e1 => ?_) (fun hc6 H7' e7' => ?_)
    · have hc2 : k = 6 := by
        have := of_decide_eq_true hc
        omega
      subst hc2
      exact ⟨_, rfl, by simp, fun a ha => ⟨a, _, rfl, (hf.1 (by decide)), mk_val (k := 6) q (e0.trans e1) ha⟩⟩
    replace e0 := e0.trans e7'
    refine q_when (b := decide ((k : Int) = 7)) (by first | ((with_reducible apply et_test); (repeat' (first | ((with_reducible refine ev_pow10 ?_ ?_ ?_) <;> first | rfl | decide) | (with_reducible refine fun (_ : _ = true) => ?_) | (with_reducible refine fun (_ : _ = false) => ?_) | (with_reducible exact ev_c) | ((with_reducible apply ev_var); rfl) | (with_reducible apply ev_op) | (with_reducible apply ev_un) | (with_reducible apply ev_cb) | (with_reducible apply ea_cons) | (with_reducible apply ev_andV) | (with_reducible apply ev_orV) | (with_reducible apply ev_notV) | (with_reducible apply ev_if) | (with_reducible apply eo_some) | (with_reducible apply el_lst) | (with_reducible exact ea_nil) | (with_reducible exact rv_I0) | (with_reducible exact ru_neg) | (with_reducible exact rv_ltS) | (with_reducible exact rv_inC) | (with_reducible exact rv_notInC) | (with_reducible exact rc_intI) | (with_reducible exact rc_intB) | (with_reducible exact rc_min2) | (with_reducible exact rc_isStr) | (with_reducible exact eo_none) | (with_reducible exact rv_inSS) | (with_reducible exact rv_notInSS) | (with_reducible exact rv_ltSS) | (with_reducible exact rv_eqSS) | (with_reducible exact rv_eqII) | (with_reducible exact rv_neII) | (with_reducible exact rv_neSS) | ((with_reducible refine rc_lenSS ?_); (first | assumption | omega | decide | (simp only [S_len] at *; omega))) | ((with_reducible refine rc_lenStr ?_); (first | assumption | omega | decide | (simp only [S_len] at *; omega))) | ((with_reducible refine rv_catSS ?_); (first | assumption | omega | decide | (simp only [S_len] at *; omega))) | (with_reducible exact rv_eq rfl) | (with_reducible exact rv_ne rfl) | ((with_reducible refine rc_lenS ?_); (first | assumption | omega | decide | (simp only [S_len] at *; omega))) | ((with_reducible refine rc_lenL ?_); assumption) | ((with_reducible apply rv_ixL); assumption; rfl) | ((with_reducible refine rv_catS ?_); (first | assumption | omega | decide | (simp only [S_len] at *; omega))) | ((with_reducible refine rv_I ?_); (first | (show (0 : Int) < _; (first | assumption | omega | decide | (simp only [S_len] at *; omega))) | exact .inr ⟨by decide, by decide⟩ | exact .inl ⟨by (first | assumption | omega | decide | (simp only [S_len] at *; omega)), by (first | assumption | omega | decide | (simp only [S_len] at *; omega))⟩ | exact .inr ⟨by (first | assumption | omega | decide | (simp only [S_len] at *; omega)), by (first | assumption | omega | decide | (simp only [S_len] at *; omega))⟩ | exact ⟨by decide, by decide, by decide⟩ | exact wide_div (b := 128) (by (first | assumption | omega | decide | (simp only [S_len] at *; omega))) (by (first | assumption | omega | decide | (simp only [S_len] at *; omega))) (by decide) (by decide)))))) | ((with_reducible apply et_B); (repeat' (first | ((with_reducible refine ev_pow10 ?_ ?_ ?_) <;> first | rfl | decide) | (with_reducible refine fun (_ : _ = true) => ?_) | (with_reducible refine fun (_ : _ = false) => ?_) | (with_reducible exact ev_c) | ((with_reducible apply ev_var); rfl) | (with_reducible apply ev_op) | (with_reducible apply ev_un) | (with_reducible apply ev_cb) | (with_reducible apply ea_cons) | (with_reducible apply ev_andV) | (with_reducible apply ev_orV) | (with_reducible apply ev_notV) | (with_reducible apply ev_if) | (with_reducible apply eo_some) | (with_reducible apply el_lst) | (with_reducible exact ea_nil) | (with_reducible exact rv_I0) | (with_reducible exact ru_neg) | (with_reducible exact rv_ltS) | (with_reducible exact rv_inC) | (with_reducible exact rv_notInC) | (with_reducible exact rc_intI) | (with_reducible exact rc_intB) | (with_reducible exact rc_min2) | (with_reducible exact rc_isStr) | (with_reducible exact eo_none) | (with_reducible exact rv_inSS) | (with_reducible exact rv_notInSS) | (with_reducible exact rv_ltSS) | (with_reducible exact rv_eqSS) | (with_reducible exact rv_eqII) | (with_reducible exact rv_neII) | (with_reducible exact rv_neSS) | ((with_reducible refine rc_lenSS ?_); (first | assumption | omega | decide | (simp only [S_len] at *; omega))) | ((with_reducible refine rc_lenStr ?_); (first | assumption | omega | decide | (simp only [S_len] at *; omega))) | ((with_reducible refine rv_catSS ?_); (first | assumption | omega | decide | (simp only [S_len] at *; omega))) | (with_reducible exact rv_eq rfl) | (with_reducible exact rv_ne rfl) | ((with_reducible refine rc_lenS ?_); (first | assumption | omega | decide | (simp only [S_len] at *; omega))) | ((with_reducible refine rc_lenL ?_); assumption) | ((with_reducible apply rv_ixL); assumption; rfl) | ((with_reducible refine rv_catS ?_); (first | assumption | omega | decide | (simp only [S_len] at *; omega))) | ((with_reducible refine rv_I ?_); (first | (show (0 : Int) < _; (first | assumption | omega | decide | (simp only [S_len] at *; omega))) | exact .inr ⟨by decide, by decide⟩ | exact .inl ⟨by (first | assumption | omega | decide | (simp only [S_len] at *; omega)), by (first | assumption | omega | decide | (simp only [S_len] at *; omega))⟩ | exact .inr ⟨by (first | assumption | omega | decide | (simp only [S_len] at *; omega)), by (first | assumption | omega | decide | (simp only [S_len] at *; omega))⟩ | exact ⟨by decide, by decide, by decide⟩ | exact wide_div (b := 128) (by (first | assumption | omega | decide | (simp only [S_len] at *; omega))) (by (first | assumption | omega | decide | (simp only [S_len] at *; omega))) (by decide) (by decide))))))) (fun hc H1 e1 => ?_) (fun hc7 H8' e8' => ?_)
    · have hc2 : k = 7 := by
        have := of_decide_eq_true hc
        omega
      subst hc2
      exact ⟨_, rfl, by simp, fun a ha => ⟨a, _, rfl, (hf.2.2 (by decide) (by decide)), mk_val (k := 7) q (e0.trans e1) ha⟩⟩
    replace e0 := e0.trans e8'
    refine q_when (b := decide ((k : Int) = 8)) (by first | ((with_reducible apply et_test); (repeat' (first | ((with_reducible refine ev_pow10 ?_ ?_ ?_) <;> first | rfl | decide) | (with_reducible refine fun (_ : _ = true) => ?_) | (with_reducible refine fun (_ : _ = false) => ?_) | (with_reducible exact ev_c) | ((with_reducible apply ev_var); rfl) | (with_reducible apply ev_op) | (with_reducible apply ev_un) | (with_reducible apply ev_cb) | (with_reducible apply ea_cons) | (with_reducible apply ev_andV) | (with_reducible apply ev_orV) | (with_reducible apply ev_notV) | (with_reducible apply ev_if) | (with_reducible apply eo_some) | (with_reducible apply el_lst) | (with_reducible exact ea_nil) | (with_reducible exact rv_I0) | (with_reducible exact ru_neg) | (with_reducible exact rv_ltS) | (with_reducible exact rv_inC) | (with_reducible exact rv_notInC) | (with_reducible exact rc_intI) | (with_reducible exact rc_intB) | (with_reducible exact rc_min2) | (with_reducible exact rc_isStr) | (with_reducible exact eo_none) | (with_reducible exact rv_inSS) | (with_reducible exact rv_notInSS) | (with_reducible exact rv_ltSS) | (with_reducible exact rv_eqSS) | (with_reducible exact rv_eqII) | (with_reducible exact rv_neII) | (with_reducible exact rv_neSS) | ((with_reducible refine rc_lenSS ?_); (first | assumption | omega | decide | (simp only [S_len] at *; omega))) | ((with_reducible refine rc_lenStr ?_); (first | assumption | omega | decide | (simp only [S_len] at *; omega))) | ((with_reducible refine rv_catSS ?_); (first | assumption | omega | decide | (simp only [S_len] at *; omega))) | (with_reducible exact rv_eq rfl) | (with_reducible exact rv_ne rfl) | ((with_reducible refine rc_lenS ?_); (first | assumption | omega | decide | (simp only [S_len] at *; omega))) | ((with_reducible refine rc_lenL ?_); assumption) | ((with_reducible apply rv_ixL); assumption; rfl) | ((with_reducible refine rv_catS ?_); (first | assumption | omega | decide | (simp only [S_len] at *; omega))) | ((with_reducible refine rv_I ?_); (first | (show (0 : Int) < _; (first | assumption | omega | decide | (simp only [S_len] at *; omega))) | exact .inr ⟨by decide, by decide⟩ | exact .inl ⟨by (first | assumption | omega | decide | (simp only [S_len] at *; omega)), by (first | assumption | omega | decide | (simp only [S_len] at *; omega))⟩ | exact .inr ⟨by (first | assumption | omega | decide | (simp only [S_len] at *; omega)), by (first | assumption | omega | decide | (simp only [S_len] at *; omega))⟩ | exact ⟨by decide, by decide, by decide⟩ | exact wide_div (b := 128) (by (first | assumption | omega | decide | (simp only [S_len] at *; omega))) (by (first | assumption | omega | decide | (simp only [S_len] at *; omega))) (by decide) (by decide)))))) | ((with_reducible apply et_B); (repeat' (first | ((with_reducible refine ev_pow10 ?_ ?_ ?_) <;> first | rfl | decide) | (with_reducible refine fun (_ : _ = true) => ?_) | (with_reducible refine fun (_ : _ = false) => ?_) | (with_reducible exact ev_c) | ((with_reducible apply ev_var); rfl) | (with_reducible apply ev_op) | (with_reducible apply ev_un) | (with_reducible apply ev_cb) | (with_reducible apply ea_cons) | (with_reducible apply ev_andV) | (with_reducible apply ev_orV) | (with_reducible apply ev_notV) | (with_reducible apply ev_if) | (with_reducible apply eo_some) | (with_reducible apply el_lst) | (with_reducible exact ea_nil) | (with_reducible exact rv_I0) | (with_reducible exact ru_neg) | (with_reducible exact rv_ltS) | (with_reducible exact rv_inC) | (with_reducible exact rv_notInC) | (with_reducible exact rc_intI) | (with_reducible exact rc_intB) | (with_reducible exact rc_min2) | (with_reducible exact rc_isStr) | (with_reducible exact eo_none) | (with_reducible exact rv_inSS) | (with_reducible exact rv_notInSS) | (with_reducible exact rv_ltSS) | (with_reducible exact rv_eqSS) | (with_reducible exact rv_eqII) | (with_reducible exact rv_neII) | (with_reducible exact rv_neSS) | ((with_reducible refine rc_lenSS ?_); (first | assumption | omega | decide | (simp only [S_len] at *; omega))) | ((with_reducible refine rc_lenStr ?_); (first | assumption | omega | decide | (simp only [S_len] at *; omega))) | ((with_reducible refine rv_catSS ?_); (first | assumption | omega | decide | (simp only [S_len] at *; omega))) | (with_reducible exact rv_eq rfl) | (with_reducible exact rv_ne rfl) | ((with_reducible refine rc_lenS ?_); (first | assumption | omega | decide | (simp only [S_len] at *; omega))) | ((with_reducible refine rc_lenL ?_); assumption) | ((with_reducible apply rv_ixL); assumption; rfl) | ((with_reducible refine rv_catS ?_); (first | assumption | omega | decide | (simp only [S_len] at *; omega))) | ((with_reducible refine rv_I ?_); (first | (show (0 : Int) < _; (first | assumption | omega | decide | (simp only [S_len] at *; omega))) | exact .inr ⟨by decide, by decide⟩ | exact .inl ⟨by (first | assumption | omega | decide | (simp only [S_len] at *; omega)), by (first | assumption | omega | decide | (simp only [S_len] at *; omega))⟩ | exact .inr ⟨by (first | assumption | omega | decide | (simp only [S_len] at *; omega)), by (first | assumption | omega | decide | (simp only [S_len] at *; omega))⟩ | exact ⟨by decide, by decide, by decide⟩ | exact wide_div (b := 128) (by (first | assumption | omega | decide | (simp only [S_len] at *; omega))) (by (first | assumption | omega | decide | (simp only [S_len] at *; omega))) (by decide) (by decide))))))) (fun hc H1 e1 => ?_) (fun hc8 H9' e9' => ?_)
    · have hc2 : k = 8 := by
        have := of_decide_eq_true hc
        omega
      subst hc2
      exact ⟨_, rfl, by simp, fun a ha => ⟨a, _, rfl, (hf.2.2 (by decide) (by decide)), mk_val (k := 8) q (e0.trans e1) ha⟩⟩
    replace e0 := e0.trans e9'
    refine q_when (b := decide ((k : Int) = 9)) (by first | ((with_reducible apply et_test); (repeat' (first | ((with_reducible refine ev_pow10 ?_ ?_ ?_) <;> first | rfl | decide) | (with_reducible refine fun (_ : _ = true) => ?_) | (with_reducible refine fun (_ : _ = false) => ?_) | (with_reducible exact ev_c) | ((with_reducible apply ev_var); rfl) | (with_reducible apply ev_op) | (with_reducible apply ev_un) | (with_reducible apply ev_cb) | (with_reducible apply ea_cons) | (with_reducible apply ev_andV) | (with_reducible apply ev_orV) | (with_reducible apply ev_notV) | (with_reducible apply ev_if) | (with_reducible apply eo_some) | (with_reducible apply el_lst) | (with_reducible exact ea_nil) | (with_reducible exact rv_I0) | (with_reducible exact ru_neg) | (with_reducible exact rv_ltS) | (with_reducible exact rv_inC) | (with_reducible exact rv_notInC) | (with_reducible exact rc_intI) | (with_reducible exact rc_intB) | (with_reducible exact rc_min2) | (with_reducible exact rc_isStr) | (with_reducible exact eo_none) | (with_reducible exact rv_inSS) | (with_reducible exact rv_notInSS) | (with_reducible exact rv_ltSS) | (with_reducible exact rv_eqSS) | (with_reducible exact rv_eqII) | (with_reducible exact rv_neII) | (with_reducible exact rv_neSS) | ((with_reducible refine rc_lenSS ?_); (first | assumption | omega | decide | (simp only [S_len] at *; omega))) | ((with_reducible refine rc_lenStr ?_); (first | assumption | omega | decide | (simp only [S_len] at *; omega))) | ((with_reducible refine rv_catSS ?_); (first | assumption | omega | decide | (simp only [S_len] at *; omega))) | (with_reducible exact rv_eq rfl) | (with_reducible exact rv_ne rfl) | ((with_reducible refine rc_lenS ?_); (first | assumption | omega | decide | (simp only [S_len] at *; omega))) | ((with_reducible refine rc_lenL ?_); assumption) | ((with_reducible apply rv_ixL); assumption; rfl) | ((with_reducible refine rv_catS ?_); (first | assumption | omega | decide | (simp only [S_len] at *; omega))) | ((with_reducible refine rv_I ?_); (first | (show (0 : Int) < _; (first | assumption | omega | decide | (simp only [S_len] at *; omega))) | exact .inr ⟨by decide, by decide⟩ | exact .inl ⟨by (first | assumption | omega | decide | (simp only [S_len] at *; omega)), by (first | assumption | omega | decide | (simp only [S_len] at *; omega))⟩ | exact .inr ⟨by (first | assumption | omega | decide | (simp only [S_len] at *; omega)), by (first | assumption | omega | decide | (simp only [S_len] at *; omega))⟩ | exact ⟨by decide, by decide, by decide⟩ | exact wide_div (b := 128) (by (first | assumption | omega | decide | (simp only [S_len] at *; omega))) (by (first | assumption | omega | decide | (simp only [S_len] at *; omega))) (by decide) (by decide)))))) | ((with_reducible apply et_B); (repeat' (first | ((with_reducible refine ev_pow10 ?_ ?_ ?_) <;> first | rfl | decide) | (with_reducible refine fun (_ : _ = true) => ?_) | (with_reducible refine fun (_ : _ = false) => ?_) | (with_reducible exact ev_c) | ((with_reducible apply ev_var); rfl) | (with_reducible apply ev_op) | (with_reducible apply ev_un) | (with_reducible apply ev_cb) | (with_reducible apply ea_cons) | (with_reducible apply ev_andV) | (with_reducible apply ev_orV) | (with_reducible apply ev_notV) | (with_reducible apply ev_if) | (with_reducible apply eo_some) | (with_reducible apply el_lst) | (with_reducible exact ea_nil) | (with_reducible exact rv_I0) | (with_reducible exact ru_neg) | (with_reducible exact rv_ltS) | (with_reducible exact rv_inC) | (with_reducible exact rv_notInC) | (with_reducible exact rc_intI) | (with_reducible exact rc_intB) | (with_reducible exact rc_min2) | (with_reducible exact rc_isStr) | (with_reducible exact eo_none) | (with_reducible exact rv_inSS) | (with_reducible exact rv_notInSS) | (with_reducible exact rv_ltSS) | (with_reducible exact rv_eqSS) | (with_reducible exact rv_eqII) | (with_reducible exact rv_neII) | (with_reducible exact rv_neSS) | ((with_reducible refine rc_lenSS ?_); (first | assumption | omega | decide | (simp only [S_len] at *; omega))) | ((with_reducible refine rc_lenStr ?_); (first | assumption | omega | decide | (simp only [S_len] at *; omega))) | ((with_reducible refine rv_catSS ?_); (first | assumption | omega | decide | (simp only [S_len] at *; omega))) | (with_reducible exact rv_eq rfl) | (with_reducible exact rv_ne rfl) | ((with_reducible refine rc_lenS ?_); (first | assumption | omega | decide | (simp only [S_len] at *; omega))) | ((with_reducible refine rc_lenL ?_); assumption) | ((with_reducible apply rv_ixL); assumption; rfl) | ((with_reducible refine rv_catS ?_); (first | assumption | omega | decide | (simp only [S_len] at *; omega))) | ((with_reducible refine rv_I ?_); (first | (show (0 : Int) < _; (first | assumption | omega | decide | (simp only [S_len] at *; omega))) | exact .inr ⟨by decide, by decide⟩ | exact .inl ⟨by (first | assumption | omega | decide | (simp only [S_len] at *; omega)), by (first | assumption | omega | decide | (simp only [S_len] at *; omega))⟩ | exact .inr ⟨by (first | assumption | omega | decide | (simp only [S_len] at *; omega)), by (first | assumption | omega | decide | (simp only [S_len] at *; omega))⟩ | exact ⟨by decide, by decide, by decide⟩ | exact wide_div (b := 128) (by (first | assumption | omega | decide | (simp only [S_len] at *; omega))) (by (first | assumption | omega | decide | (simp only [S_len] at *; omega))) (by decide) (by decide))))))) (fun hc H1 e1 => ?_) (fun hc9 H10' e10' => ?_)
    · have hc2 : k = 9 := by
        have := of_decide_eq_true hc
        omega
      subst hc2
      exact ⟨_, rfl, by simp, fun a ha => ⟨a, _, rfl, (hf.1 (by decide)), mk_val (k := 9) q (e0.trans e1) ha⟩⟩
    replace e0 := e0.trans e10'
    refine q_when (b := decide ((k : Int) = 10)) (by first | ((with_reducible apply et_test); (repeat' (first | ((with_reducible refine ev_pow10 ?_ ?_ ?_) <;> first | rfl | decide) | (with_reducible refine fun (_ : _ = true) => ?_) | (with_reducible refine fun (_ : _ = false) => ?_) | (with_reducible exact ev_c) | ((with_reducible apply ev_var); rfl) | (with_reducible apply ev_op) | (with_reducible apply ev_un) | (with_reducible apply ev_cb) | (with_reducible apply ea_cons) | (with_reducible apply ev_andV) | (with_reducible apply ev_orV) | (with_reducible apply ev_notV) | (with_reducible apply ev_if) | (with_reducible apply eo_some) | (with_reducible apply el_lst) | (with_reducible exact ea_nil) | (with_reducible exact rv_I0) | (with_reducible exact ru_neg) | (with_reducible exact rv_ltS) | (with_reducible exact rv_inC) | (with_reducible exact rv_notInC) | (with_reducible exact rc_intI) | (with_reducible exact rc_intB) | (with_reducible exact rc_min2) | (with_reducible exact rc_isStr) | (with_reducible exact eo_none) | (with_reducible exact rv_inSS) | (with_reducible exact rv_notInSS) | (with_reducible exact rv_ltSS) | (with_reducible exact rv_eqSS) | (with_reducible exact rv_eqII) | (with_reducible exact rv_neII) | (with_reducible exact rv_neSS) | ((with_reducible refine rc_lenSS ?_); (first | assumption | omega | decide | (simp only [S_len] at *; omega))) | ((with_reducible refine rc_lenStr ?_); (first | assumption | omega | decide | (simp only [S_len] at *; omega))) | ((with_reducible refine rv_catSS ?_); (first | assumption | omega | decide | (simp only [S_len] at *; omega))) | (with_reducible exact rv_eq rfl) | (with_reducible exact rv_ne rfl) | ((with_reducible refine rc_lenS ?_); (first | assumption | omega | decide | (simp only [S_len] at *; omega))) | ((with_reducible refine rc_lenL ?_); assumption) | ((with_reducible apply rv_ixL); assumption; rfl) | ((with_reducible refine rv_catS ?_); (first | assumption | omega | decide | (simp only [S_len] at *; omega))) | ((with_reducible refine rv_I ?_); (first | (show (0 : Int) < _; (first | assumption | omega | decide | (simp only [S_len] at *; omega))) | exact .inr ⟨by decide, by decide⟩ | exact .inl ⟨by (first | assumption | omega | decide | (simp only [S_len] at *; omega)), by (first | assumption | omega | decide | (simp only [S_len] at *; omega))⟩ | exact .inr ⟨by (first | assumption | omega | decide | (simp only [S_len] at *; omega)), by (first | assumption | omega | decide | (simp only [S_len] at *; omega))⟩ | exact ⟨by decide, by decide, by decide⟩ | exact wide_div (b := 128) (by (first | assumption | omega | decide | (simp only [S_len] at *; omega))) (by (first | assumption | omega | decide | (simp only [S_len] at *; omega))) (by decide) (by decide)))))) | ((with_reducible apply et_B); (repeat' (first | ((with_reducible refine ev_pow10 ?_ ?_ ?_) <;> first | rfl | decide) | (with_reducible refine fun (_ : _ = true) => ?_) | (with_reducible refine fun (_ : _ = false) => ?_) | (with_reducible exact ev_c) | ((with_reducible apply ev_var); rfl) | (with_reducible apply ev_op) | (with_reducible apply ev_un) | (with_reducible apply ev_cb) | (with_reducible apply ea_cons) | (with_reducible apply ev_andV) | (with_reducible apply ev_orV) | (with_reducible apply ev_notV) | (with_reducible apply ev_if) | (with_reducible apply eo_some) | (with_reducible apply el_lst) | (with_reducible exact ea_nil) | (with_reducible exact rv_I0) | (with_reducible exact ru_neg) | (with_reducible exact rv_ltS) | (with_reducible exact rv_inC) | (with_reducible exact rv_notInC) | (with_reducible exact rc_intI) | (with_reducible exact rc_intB) | (with_reducible exact rc_min2) | (with_reducible exact rc_isStr) | (with_reducible exact eo_none) | (with_reducible exact rv_inSS) | (with_reducible exact rv_notInSS) | (with_reducible exact rv_ltSS) | (with_reducible exact rv_eqSS) | (with_reducible exact rv_eqII) | (with_reducible exact rv_neII) | (with_reducible exact rv_neSS) | ((with_reducible refine rc_lenSS ?_); (first | assumption | omega | decide | (simp only [S_len] at *; omega))) | ((with_reducible refine rc_lenStr ?_); (first | assumption | omega | decide | (simp only [S_len] at *; omega))) | ((with_reducible refine rv_catSS ?_); (first | assumption | omega | decide | (simp only [S_len] at *; omega))) | (with_reducible exact rv_eq rfl) | (with_reducible exact rv_ne rfl) | ((with_reducible refine rc_lenS ?_); (first | assumption | omega | decide | (simp only [S_len] at *; omega))) | ((with_reducible refine rc_lenL ?_); assumption) | ((with_reducible apply rv_ixL); assumption; rfl) | ((with_reducible refine rv_catS ?_); (first | assumption | omega | decide | (simp only [S_len] at *; omega))) | ((with_reducible refine rv_I ?_); (first | (show (0 : Int) < _; (first | assumption | omega | decide | (simp only [S_len] at *; omega))) | exact .inr ⟨by decide, by decide⟩ | exact .inl ⟨by (first | assumption | omega | decide | (simp only [S_len] at *; omega)), by (first | assumption | omega | decide | (simp only [S_len] at *; omega))⟩ | exact .inr ⟨by (first | assumption | omega | decide | (simp only [S_len] at *; omega)), by (first | assumption | omega | decide | (simp only [S_len] at *; omega))⟩ | exact ⟨by decide, by decide, by decide⟩ | exact wide_div (b := 128) (by (first | assumption | omega | decide | (simp only [S_len] at *; omega))) (by (first | assumption | omega | decide | (simp only [S_len] at *; omega))) (by decide) (by decide))))))) (fun hc H1 e1 => ?_) (fun hc10 H11' e11' => ?_)
    · have hc2 : k = 10 := by
        have := of_decide_eq_true hc
        omega
      subst hc2
      exact ⟨_, rfl, by simp, fun a ha => ⟨a, _, rfl, (hf.2.2 (by decide) (by decide)), mk_val (k := 10) q (e0.trans e1) ha⟩⟩
    replace e0 := e0.trans e11'
    refine q_when (b := decide ((k : Int) = 11)) (by first | ((with_reducible apply et_test); (repeat' (first | ((with_reducible refine ev_pow10 ?_ ?_ ?_) <;> first | rfl | decide) | (with_reducible refine fun (_ : _ = true) => ?_) | (with_reducible refine fun (_ : _ = false) => ?_) | (with_reducible exact ev_c) | ((with_reducible apply ev_var); rfl) | (with_reducible apply ev_op) | (with_reducible apply ev_un) | (with_reducible apply ev_cb) | (with_reducible apply ea_cons) | (with_reducible apply ev_andV) | (with_reducible apply ev_orV) | (with_reducible apply ev_notV) | (with_reducible apply ev_if) | (with_reducible apply eo_some) | (with_reducible apply el_lst) | (with_reducible exact ea_nil) | (with_reducible exact rv_I0) | (with_reducible exact ru_neg) | (with_reducible exact rv_ltS) | (with_reducible exact rv_inC) | (with_reducible exact rv_notInC) | (with_reducible exact rc_intI) | (with_reducible exact rc_intB) | (with_reducible exact rc_min2) | (with_reducible exact rc_isStr) | (with_reducible exact eo_none) | (with_reducible exact rv_inSS) | (with_reducible exact rv_notInSS) | (with_reducible exact rv_ltSS) | (with_reducible exact rv_eqSS) | (with_reducible exact rv_eqII) | (with_reducible exact rv_neII) | (with_reducible exact rv_neSS) | ((with_reducible refine rc_lenSS ?_); (first | assumption | omega | decide | (simp only [S_len] at *; omega))) | ((with_reducible refine rc_lenStr ?_); (first | assumption | omega | decide | (simp only [S_len] at *; omega))) | ((with_reducible refine rv_catSS ?_); (first | assumption | omega | decide | (simp only [S_len] at *; omega))) | (with_reducible exact rv_eq rfl) | (with_reducible exact rv_ne rfl) | ((with_reducible refine rc_lenS ?_); (first | assumption | omega | decide | (simp only [S_len] at *; omega))) | ((with_reducible refine rc_lenL ?_); assumption) | ((with_reducible apply rv_ixL); assumption; rfl) | ((with_reducible refine rv_catS ?_); (first | assumption | omega | decide | (simp only [S_len] at *; omega))) | ((with_reducible refine rv_I ?_); (first | (show (0 : Int) < _; (first | assumption | omega | decide | (simp only [S_len] at *; omega))) | exact .inr ⟨by decide, by decide⟩ | exact .inl ⟨by (first | assumption | omega | decide | (simp only [S_len] at *; omega)), by (first | assumption | omega | decide | (simp only [S_len] at *; omega))⟩ | exact .inr ⟨by (first | assumption | omega | decide | (simp only [S_len] at *; omega)), by (first | assumption | omega | decide | (simp only [S_len] at *; omega))⟩ | exact ⟨by decide, by decide, by decide⟩ | exact wide_div (b := 128) (by (first | assumption | omega | decide | (simp only [S_len] at *; omega))) (by (first | assumption | omega | decide | (simp only [S_len] at *; omega))) (by decide) (by decide)))))) | ((with_reducible apply et_B); (repeat' (first | ((with_reducible refine ev_pow10 ?_ ?_ ?_) <;> first | rfl | decide) | (with_reducible refine fun (_ : _ = true) => ?_) | (with_reducible refine fun (_ : _ = false) => ?_) | (with_reducible exact ev_c) | ((with_reducible apply ev_var); rfl) | (with_reducible apply ev_op) | (with_reducible apply ev_un) | (with_reducible apply ev_cb) | (with_reducible apply ea_cons) | (with_reducible apply ev_andV) | (with_reducible apply ev_orV) | (with_reducible apply ev_notV) | (with_reducible apply ev_if) | (with_reducible apply eo_some) | (with_reducible apply el_lst) | (with_reducible exact ea_nil) | (with_reducible exact rv_I0) | (with_reducible exact ru_neg) | (with_reducible exact rv_ltS) | (with_reducible exact rv_inC) | (with_reducible exact rv_notInC) | (with_reducible exact rc_intI) | (with_reducible exact rc_intB) | (with_reducible exact rc_min2) | (with_reducible exact rc_isStr) | (with_reducible exact eo_none) | (with_reducible exact rv_inSS) | (with_reducible exact rv_notInSS) | (with_reducible exact rv_ltSS) | (with_reducible exact rv_eqSS) | (with_reducible exact rv_eqII) | (with_reducible exact rv_neII) | (with_reducible exact rv_neSS) | ((with_reducible refine rc_lenSS ?_); (first | assumption | omega | decide | (simp only [S_len] at *; omega))) | ((with_reducible refine rc_lenStr ?_); (first | assumption | omega | decide | (simp only [S_len] at *; omega))) | ((with_reducible refine rv_catSS ?_); (first | assumption | omega | decide | (simp only [S_len] at *; omega))) | (with_reducible exact rv_eq rfl) | (with_reducible exact rv_ne rfl) | ((with_reducible refine rc_lenS ?_); (first | assumption | omega | decide | (simp only [S_len] at *; omega))) | ((with_reducible refine rc_lenL ?_); assumption) | ((with_reducible apply rv_ixL); assumption; rfl) | ((with_reducible refine rv_catS ?_); (first | assumption | omega | decide | (simp only [S_len] at *; omega))) | ((with_reducible refine rv_I ?_); (first | (show (0 : Int) < _; (first | assumption | omega | decide | (simp only [S_len] at *; omega))) | exact .inr ⟨by decide, by decide⟩ | exact .inl ⟨by (first | assumption | omega | decide | (simp only [S_len] at *; omega)), by (first | assumption | omega | decide | (simp only [S_len] at *; omega))⟩ | exact .inr ⟨by (first | assumption | omega | decide | (simp only [S_len] at *; omega)), by (first | assumption | omega | decide | (simp only [S_len] at *; omega))⟩ | exact ⟨by decide, by decide, by decide⟩ | exact wide_div (b := 128) (by (first | assumption | omega | decide | (simp only [S_len] at *; omega))) (by (first | assumption | omega | decide | (simp only [S_len] at *; omega))) (by decide) (by decide))))))) (fun hc H1 e1 => ?_) (fun hc11 H12' e12' => ?_)
    · have hc2 : k = 11 := by
        have := of_decide_eq_true hc
        omega
      subst hc2
      exact ⟨_, rfl, by simp, fun a ha => ⟨a, _, rfl, (hf.2.2 (by decide) (by decide)), mk_val (k := 11) q (e0.trans e1) ha⟩⟩
    replace e0 := e0.trans e12'
    refine q_when (b := decide ((k : Int) = 12)) (by first | ((with_reducible apply et_test); (repeat' (first | ((with_reducible refine ev_pow10 ?_ ?_ ?_) <;> first | rfl | decide) | (with_reducible refine fun (_ : _ = true) => ?_) | (with_reducible refine fun (_ : _ = false) => ?_) | (with_reducible exact ev_c) | ((with_reducible apply ev_var); rfl) | (with_reducible apply ev_op) | (with_reducible apply ev_un) | (with_reducible apply ev_cb) | (with_reducible apply ea_cons) | (with_reducible apply ev_andV) | (with_reducible apply ev_orV) | (with_reducible apply ev_notV) | (with_reducible apply ev_if) | (with_reducible apply eo_some) | (with_reducible apply el_lst) | (with_reducible exact ea_nil) | (with_reducible exact rv_I0) | (with_reducible exact ru_neg) | (with_reducible exact rv_ltS) | (with_reducible exact rv_inC) | (with_reducible exact rv_notInC) | (with_reducible exact rc_intI) | (with_reducible exact rc_intB) | (with_reducible exact rc_min2) | (with_reducible exact rc_isStr) | (with_reducible exact eo_none) | (with_reducible exact rv_inSS) | (with_reducible exact rv_notInSS) | (with_reducible exact rv_ltSS) | (with_reducible exact rv_eqSS) | (with_reducible exact rv_eqII) | (with_reducible exact rv_neII) | (with_reducible exact rv_neSS) | ((with_reducible refine rc_lenSS ?_); (first | assumption | omega | decide | (simp only [S_len] at *; omega))) | ((with_reducible refine rc_lenStr ?_); (first | assumption | omega | decide | (simp only [S_len] at *; omega))) | ((with_reducible refine rv_catSS ?_); (first | assumption | omega | decide | (simp only [S_len] at *; omega))) | (with_reducible exact rv_eq rfl) | (with_reducible exact rv_ne rfl) | ((with_reducible refine rc_lenS ?_); (first | assumption | omega | decide | (simp only [S_len] at *; omega))) | ((with_reducible refine rc_lenL ?_); assumption) | ((with_reducible apply rv_ixL); assumption; rfl) | ((with_reducible refine rv_catS ?_); (first | assumption | omega | decide | (simp only [S_len] at *; omega))) | ((with_reducible refine rv_I ?_); (first | (show (0 : Int) < _; (first | assumption | omega | decide | (simp only [S_len] at *; omega))) | exact .inr ⟨by decide, by decide⟩ | exact .inl ⟨by (first | assumption | omega | decide | (simp only [S_len] at *; omega)), by (first | assumption | omega | decide | (simp only [S_len] at *; omega))⟩ | exact .inr ⟨by (first | assumption | omega | decide | (simp only [S_len] at *; omega)), by (first | assumption | omega | decide | (simp only [S_len] at *; omega))⟩ | exact ⟨by decide, by decide, by decide⟩ | exact wide_div (b := 128) (by (first | assumption | omega | decide | (simp only [S_len] at *; omega))) (by (first | assumption | omega | decide | (simp only [S_len] at *; omega))) (by decide) (by decide)))))) | ((with_reducible apply et_B); (repeat' (first | ((with_reducible refine ev_pow10 ?_ ?_ ?_) <;> first | rfl | decide) | (with_reducible refine fun (_ : _ = true) => ?_) | (with_reducible refine fun (_ : _ = false) => ?_) | (with_reducible exact ev_c) | ((with_reducible apply ev_var); rfl) | (with_reducible apply ev_op) | (with_reducible apply ev_un) | (with_reducible apply ev_cb) | (with_reducible apply ea_cons) | (with_reducible apply ev_andV) | (with_reducible apply ev_orV) | (with_reducible apply ev_notV) | (with_reducible apply ev_if) | (with_reducible apply eo_some) | (with_reducible apply el_lst) | (with_reducible exact ea_nil) | (with_reducible exact rv_I0) | (with_reducible exact ru_neg) | (with_reducible exact rv_ltS) | (with_reducible exact rv_inC) | (with_reducible exact rv_notInC) | (with_reducible exact rc_intI) | (with_reducible exact rc_intB) | (with_reducible exact rc_min2) | (with_reducible exact rc_isStr) | (with_reducible exact eo_none) | (with_reducible exact rv_inSS) | (with_reducible exact rv_notInSS) | (with_reducible exact rv_ltSS) | (with_reducible exact rv_eqSS) | (with_reducible exact rv_eqII) | (with_reducible exact rv_neII) | (with_reducible exact rv_neSS) | ((with_reducible refine rc_lenSS ?_); (first | assumption | omega | decide | (simp only [S_len] at *; omega))) | ((with_reducible refine rc_lenStr ?_); (first | assumption | omega | decide | (simp only [S_len] at *; omega))) | ((with_reducible refine rv_catSS ?_); (first | assumption | omega | decide | (simp only [S_len] at *; omega))) | (with_reducible exact rv_eq rfl) | (with_reducible exact rv_ne rfl) | ((with_reducible refine rc_lenS ?_); (first | assumption | omega | decide | (simp only [S_len] at *; omega))) | ((with_reducible refine rc_lenL ?_); assumption) | ((with_reducible apply rv_ixL); assumption; rfl) | ((with_reducible refine rv_catS ?_); (first | assumption | omega | decide | (simp only [S_len] at *; omega))) | ((with_reducible refine rv_I ?_); (first | (show (0 : Int) < _; (first | assumption | omega | decide | (simp only [S_len] at *; omega))) | exact .inr ⟨by decide, by decide⟩ | exact .inl ⟨by (first | assumption | omega | decide | (simp only [S_len] at *; omega)), by (first | assumption | omega | decide | (simp only [S_len] at *; omega))⟩ | exact .inr ⟨by (first | assumption | omega | decide | (simp only [S_len] at *; omega)), by (first | assumption | omega | decide | (simp only [S_len] at *; omega))⟩ | exact ⟨by decide, by decide, by decide⟩ | exact wide_div (b := 128) (by (first | assumption | omega | decide | (simp only [S_len] at *; omega))) (by (first | assumption | omega | decide | (simp only [S_len] at *; omega))) (by decide) (by decide))))))) (fun hc H1 e1 => ?_) (fun hc12 H13' e13' => ?_)
    · have hc2 : k = 12 := by
        have := of_decide_eq_true hc
        omega
      subst hc2
      exact ⟨_, rfl, by simp, fun a ha => ⟨a, _, rfl, (hf.1 (by decide)), mk_val (k := 12) q (e0.trans e1) ha⟩⟩
    replace e0 := e0.trans e13'
    refine q_when (b := decide ((k : Int) = 13)) (by first | ((with_reducible apply et_test); (repeat' (first | ((with_reducible refine ev_pow10 ?_ ?_ ?_) <;> first | rfl | decide) | (with_reducible refine fun (_ : _ = true) => ?_) | (with_reducible refine fun (_ : _ = false) => ?_) | (with_reducible exact ev_c) | ((with_reducible apply ev_var); rfl) | (with_reducible apply ev_op) | (with_reducible apply ev_un) | (with_reducible apply ev_cb) | (with_reducible apply ea_cons) | (with_reducible apply ev_andV) | (with_reducible apply ev_orV) | (with_reducible apply ev_notV) | (with_reducible apply ev_if) | (with_reducible apply eo_some) | (with_reducible apply el_lst) | (with_reducible exact ea_nil) | (with_reducible exact rv_I0) | (with_reducible exact ru_neg) | (with_reducible exact rv_ltS) | (with_reducible exact rv_inC) | (with_reducible exact rv_notInC) | (with_reducible exact rc_intI) | (with_reducible exact rc_intB) | (with_reducible exact rc_min2) | (with_reducible exact rc_isStr) | (with_reducible exact eo_none) | (with_reducible exact rv_inSS) | (with_reducible exact rv_notInSS) | (with_reducible exact rv_ltSS) | (with_reducible exact rv_eqSS) | (with_reducible exact rv_eqII) | (with_reducible exact rv_neII) | (with_reducible exact rv_neSS) | ((with_reducible refine rc_lenSS ?_); (first | assumption | omega | decide | (simp only [S_len] at *; omega))) | ((with_reducible refine rc_lenStr ?_); (first | assumption | omega | decide | (simp only [S_len] at *; omega))) | ((with_reducible refine rv_catSS ?_); (first | assumption | omega | decide | (simp only [S_len] at *; omega))) | (with_reducible exact rv_eq rfl) | (with_reducible exact rv_ne rfl) | ((with_reducible refine rc_lenS ?_); (first | assumption | omega | decide | (simp only [S_len] at *; omega))) | ((with_reducible refine rc_lenL ?_); assumption) | ((with_reducible apply rv_ixL); assumption; rfl) | ((with_reducible refine rv_catS ?_); (first | assumption | omega | decide | (simp only [S_len] at *; omega))) | ((with_reducible refine rv_I ?_); (first | (show (0 : Int) < _; (first | assumption | omega | decide | (simp only [S_len] at *; omega))) | exact .inr ⟨by decide, by decide⟩ | exact .inl ⟨by (first | assumption | omega | decide | (simp only [S_len] at *; omega)), by (first | assumption | omega | decide | (simp only [S_len] at *; omega))⟩ | exact .inr ⟨by (first | assumption | omega | decide | (simp only [S_len] at *; omega)), by (first | assumption | omega | decide | (simp only [S_len] at *; omega))⟩ | exact ⟨by decide, by decide, by decide⟩ | exact wide_div (b := 128) (by (first | assumption | omega | decide | (simp only [S_len] at *; omega))) (by (first | assumption | omega | decide | (simp only [S_len] at *; omega))) (by decide) (by decide)))))) | ((with_reducible apply et_B); (repeat' (first | ((with_reducible refine ev_pow10 ?_ ?_ ?_) <;> first | rfl | decide) | (with_reducible refine fun (_ : _ = true) => ?_) | (with_reducible refine fun (_ : _ = false) => ?_) | (with_reducible exact ev_c) | ((with_reducible apply ev_var); rfl) | (with_reducible apply ev_op) | (with_reducible apply ev_un) | (with_reducible apply ev_cb) | (with_reducible apply ea_cons) | (with_reducible apply ev_andV) | (with_reducible apply ev_orV) | (with_reducible apply ev_notV) | (with_reducible apply ev_if) | (with_reducible apply eo_some) | (with_reducible apply el_lst) | (with_reducible exact ea_nil) | (with_reducible exact rv_I0) | (with_reducible exact ru_neg) | (with_reducible exact rv_ltS) | (with_reducible exact rv_inC) | (with_reducible exact rv_notInC) | (with_reducible exact rc_intI) | (with_reducible exact rc_intB) | (with_reducible exact rc_min2) | (with_reducible exact rc_isStr) | (with_reducible exact eo_none) | (with_reducible exact rv_inSS) | (with_reducible exact rv_notInSS) | (with_reducible exact rv_ltSS) | (with_reducible exact rv_eqSS) | (with_reducible exact rv_eqII) | (with_reducible exact rv_neII) | (with_reducible exact rv_neSS) | ((with_reducible refine rc_lenSS ?_); (first | assumption | omega | decide | (simp only [S_len] at *; omega))) | ((with_reducible refine rc_lenStr ?_); (first | assumption | omega | decide | (simp only [S_len] at *; omega))) | ((with_reducible refine rv_catSS ?_); (first | assumption | omega | decide | (simp only [S_len] at *; omega))) | (with_reducible exact rv_eq rfl) | (with_reducible exact rv_ne rfl) | ((with_reducible refine rc_lenS ?_); (first | assumption | omega | decide | (simp only [S_len] at *; omega))) | ((with_reducible refine rc_lenL ?_); assumption) | ((with_reducible apply rv_ixL); assumption; rfl) | ((with_reducible refine rv_catS ?_); (first | assumption | omega | decide | (simp only [S_len] at *; omega))) | ((with_reducible refine rv_I ?_); (first | (show (0 : Int) < _; (first | assumption | omega | decide | (simp only [S_len] at *; omega))) | exact .inr ⟨by decide, by decide⟩ | exact .inl ⟨by (first | assumption | omega | decide | (simp only [S_len] at *; omega)), by (first | assumption | omega | decide | (simp only [S_len] at *; omega))⟩ | exact .inr ⟨by (first | assumption | omega | decide | (simp only [S_len] at *; omega)), by (first | assumption | omega | decide | (simp only [S_len] at *; omega))⟩ | exact ⟨by decide, by decide, by decide⟩ | exact wide_div (b := 128) (by (first | assumption | omega | decide | (simp only [S_len] at *; omega))) (by (first | assumption | omega | decide | (simp only [S_len] at *; omega))) (by decide) (by decide))))))) (fun hc H1 e1 => ?_) (fun hc13 H14' e14' => ?_)
    · have hc2 : k = 13 := by
        have := of_decide_eq_true hc
        omega
      subst hc2
      exact ⟨_, rfl, by simp, fun a ha => ⟨a, _, rfl, (hf.2.2 (by decide) (by decide)), mk_val (k := 13) q (e0.trans e1) ha⟩⟩
    replace e0 := e0.trans e14'
    refine q_when (b := decide ((k : Int) = 14)) (by first | ((with_reducible apply et_test); (repeat' (first | ((with_reducible refine ev_pow10 ?_ ?_ ?_) <;> first | rfl | decide) | (with_reducible refine fun (_ : _ = true) => ?_) | (with_reducible refine fun (_ : _ = false) => ?_) | (with_reducible exact ev_c) | ((with_reducible apply ev_var); rfl) | (with_reducible apply ev_op) | (with_reducible apply ev_un) | (with_reducible apply ev_cb) | (with_reducible apply ea_cons) | (with_reducible apply ev_andV) | (with_reducible apply ev_orV) | (with_reducible apply ev_notV) | (with_reducible apply ev_if) | (with_reducible apply eo_some) | (with_reducible apply el_lst) | (with_reducible exact ea_nil) | (with_reducible exact rv_I0) | (with_reducible exact ru_neg) | (with_reducible exact rv_ltS) | (with_reducible exact rv_inC) | (with_reducible exact rv_notInC) | (with_reducible exact rc_intI) | (with_reducible exact rc_intB) | (with_reducible exact rc_min2) | (with_reducible exact rc_isStr) | (with_reducible exact eo_none) | (with_reducible exact rv_inSS) | (with_reducible exact rv_notInSS) | (with_reducible exact rv_ltSS) | (with_reducible exact rv_eqSS) | (with_reducible exact rv_eqII) | (with_reducible exact rv_neII) | (with_reducible exact rv_neSS) | ((with_reducible refine rc_lenSS ?_); (first | assumption | omega | decide | (simp only [S_len] at *; omega))) | ((with_reducible refine rc_lenStr ?_); (first | assumption | omega | decide | (simp only [S_len] at *; omega))) | ((with_reducible refine rv_catSS ?_); (first | assumption | omega | decide | (simp only [S_len] at *; omega))) | (with_reducible exact rv_eq rfl) | (with_reducible exact rv_ne rfl) | ((with_reducible refine rc_lenS ?_); (first | assumption | omega | decide | (simp only [S_len] at *; omega))) | ((with_reducible refine rc_lenL ?_); assumption) | ((with_reducible apply rv_ixL); assumption; rfl) | ((with_reducible refine rv_catS ?_); (first | assumption | omega | decide | (simp only [S_len] at *; omega))) | ((with_reducible refine rv_I ?_); (first | (show (0 : Int) < _; (first | assumption | omega | decide | (simp only [S_len] at *; omega))) | exact .inr ⟨by decide, by decide⟩ | exact .inl ⟨by (first | assumption | omega | decide | (simp only [S_len] at *; omega)), by (first | assumption | omega | decide | (simp only [S_len] at *; omega))⟩ | exact .inr ⟨by (first | assumption | omega | decide | (simp only [S_len] at *; omega)), by (first | assumption | omega | decide | (simp only [S_len] at *; omega))⟩ | exact ⟨by decide, by decide, by decide⟩ | exact wide_div (b := 128) (by (first | assumption | omega | decide | (simp only [S_len] at *; omega))) (by (first | assumption | omega | decide | (simp only [S_len] at *; omega))) (by decide) (by decide)))))) | ((with_reducible apply et_B); (repeat' (first | ((with_reducible refine ev_pow10 ?_ ?_ ?_) <;> first | rfl | decide) | (with_reducible refine fun (_ : _ = true) => ?_) | (with_reducible refine fun (_ : _ = false) => ?_) | (with_reducible exact ev_c) | ((with_reducible apply ev_var); rfl) | (with_reducible apply ev_op) | (with_reducible apply ev_un) | (with_reducible apply ev_cb) | (with_reducible apply ea_cons) | (with_reducible apply ev_andV) | (with_reducible apply ev_orV) | (with_reducible apply ev_notV) | (with_reducible apply ev_if) | (with_reducible apply eo_some) | (with_reducible apply el_lst) | (with_reducible exact ea_nil) | (with_reducible exact rv_I0) | (with_reducible exact ru_neg) | (with_reducible exact rv_ltS) | (with_reducible exact rv_inC) | (with_reducible exact rv_notInC) | (with_reducible exact rc_intI) | (with_reducible exact rc_intB) | (with_reducible exact rc_min2) | (with_reducible exact rc_isStr) | (with_reducible exact eo_none) | (with_reducible exact rv_inSS) | (with_reducible exact rv_notInSS) | (with_reducible exact rv_ltSS) | (with_reducible exact rv_eqSS) | (with_reducible exact rv_eqII) | (with_reducible exact rv_neII) | (with_reducible exact rv_neSS) | ((with_reducible refine rc_lenSS ?_); (first | assumption | omega | decide | (simp only [S_len] at *; omega))) | ((with_reducible refine rc_lenStr ?_); (first | assumption | omega | decide | (simp only [S_len] at *; omega))) | ((with_reducible refine rv_catSS ?_); (first | assumption | omega | decide | (simp only [S_len] at *; omega))) | (with_reducible exact rv_eq rfl) | (with_reducible exact rv_ne rfl) | ((with_reducible refine rc_lenS ?_); (first | assumption | omega | decide | (simp only [S_len] at *; omega))) | ((with_reducible refine rc_lenL ?_); assumption) | ((with_reducible apply rv_ixL); assumption; rfl) | ((with_reducible refine rv_catS ?_); (first | assumption | omega | decide | (simp only [S_len] at *; omega))) | ((with_reducible refine rv_I ?_); (first | (show (0 : Int) < _; (first | assumption | omega | decide | (simp only [S_len] at *; omega))) | exact .inr ⟨by decide, by decide⟩ | exact .inl ⟨by (first | assumption | omega | decide | (simp only [S_len] at *; omega)), by (first | assumption | omega | decide | (simp only [S_len] at *; omega))⟩ | exact .inr ⟨by (first | assumption | omega | decide | (simp only [S_len] at *; omega)), by (first | assumption | omega | decide | (simp only [S_len] at *; omega))⟩ | exact ⟨by decide, by decide, by decide⟩ | exact wide_div (b := 128) (by (first | assumption | omega | decide | (simp only [S_len] at *; omega))) (by (first | assumption | omega | decide | (simp only [S_len] at *; omega))) (by decide) (by decide))))))) (fun hc H1 e1 => ?_) (fun hc14 H15' e15' => ?_)
    · have hc2 : k = 14 := by
        have := of_decide_eq_true hc
        omega
      subst hc2
      exact ⟨_, rfl, by simp, fun a ha => ⟨a, _, rfl, (hf.2.2 (by decide) (by decide)), mk_val (k := 14) q (e0.trans e1) ha⟩⟩
    replace e0 := e0.trans e15'
    refine q_when (b := decide ((k : Int) = 15)) (by first | ((with_reducible apply et_test); (repeat' (first | ((with_reducible refine ev_pow10 ?_ ?_ ?_) <;> first | rfl | decide) | (with_reducible refine fun (_ : _ = true) => ?_) | (with_reducible refine fun (_ : _ = false) => ?_) | (with_reducible exact ev_c) | ((with_reducible apply ev_var); rfl) | (with_reducible apply ev_op) | (with_reducible apply ev_un) | (with_reducible apply ev_cb) | (with_reducible apply ea_cons) | (with_reducible apply ev_andV) | (with_reducible apply ev_orV) | (with_reducible apply ev_notV) | (with_reducible apply ev_if) | (with_reducible apply eo_some) | (with_reducible apply el_lst) | (with_reducible exact ea_nil) | (with_reducible exact rv_I0) | (with_reducible exact ru_neg) | (with_reducible exact rv_ltS) | (with_reducible exact rv_inC) | (with_reducible exact rv_notInC) | (with_reducible exact rc_intI) | (with_reducible exact rc_intB) | (with_reducible exact rc_min2) | (with_reducible exact rc_isStr) | (with_reducible exact eo_none) | (with_reducible exact rv_inSS) | (with_reducible exact rv_notInSS) | (with_reducible exact rv_ltSS) | (with_reducible exact rv_eqSS) | (with_reducible exact rv_eqII) | (with_reducible exact rv_neII) | (with_reducible exact rv_neSS) | ((with_reducible refine rc_lenSS ?_); (first | assumption | omega | decide | (simp only [S_len] at *; omega))) | ((with_reducible refine rc_lenStr ?_); (first | assumption | omega | decide | (simp only [S_len] at *; omega))) | ((with_reducible refine rv_catSS ?_); (first | assumption | omega | decide | (simp only [S_len] at *; omega))) | (with_reducible exact rv_eq rfl) | (with_reducible exact rv_ne rfl) | ((with_reducible refine rc_lenS ?_); (first | assumption | omega | decide | (simp only [S_len] at *; omega))) | ((with_reducible refine rc_lenL ?_); assumption) | ((with_reducible apply rv_ixL); assumption; rfl) | ((with_reducible refine rv_catS ?_); (first | assumption | omega | decide | (simp only [S_len] at *; omega))) | ((with_reducible refine rv_I ?_); (first | (show (0 : Int) < _; (first | assumption | omega | decide | (simp only [S_len] at *; omega))) | exact .inr ⟨by decide, by decide⟩ | exact .inl ⟨by (first | assumption | omega | decide | (simp only [S_len] at *; omega)), by (first | assumption | omega | decide | (simp only [S_len] at *; omega))⟩ | exact .inr ⟨by (first | assumption | omega | decide | (simp only [S_len] at *; omega)), by (first | assumption | omega | decide | (simp only [S_len] at *; omega))⟩ | exact ⟨by decide, by decide, by decide⟩ | exact wide_div (b := 128) (by (first | assumption | omega | decide | (simp only [S_len] at *; omega))) (by (first | assumption | omega | decide | (simp only [S_len] at *; omega))) (by decide) (by decide)))))) | ((with_reducible apply et_B); (repeat' (first | ((with_reducible refine ev_pow10 ?_ ?_ ?_) <;> first | rfl | decide) | (with_reducible refine fun (_ : _ = true) => ?_) | (with_reducible refine fun (_ : _ = false) => ?_) | (with_reducible exact ev_c) | ((with_reducible apply ev_var); rfl) | (with_reducible apply ev_op) | (with_reducible apply ev_un) | (with_reducible apply ev_cb) | (with_reducible apply ea_cons) | (with_reducible apply ev_andV) | (with_reducible apply ev_orV) | (with_reducible apply ev_notV) | (with_reducible apply ev_if) | (with_reducible apply eo_some) | (with_reducible apply el_lst) | (with_reducible exact ea_nil) | (with_reducible exact rv_I0) | (with_reducible exact ru_neg) | (with_reducible exact rv_ltS) | (with_reducible exact rv_inC) | (with_reducible exact rv_notInC) | (with_reducible exact rc_intI) | (with_reducible exact rc_intB) | (with_reducible exact rc_min2) | (with_reducible exact rc_isStr) | (with_reducible exact eo_none) | (with_reducible exact rv_inSS) | (with_reducible exact rv_notInSS) | (with_reducible exact rv_ltSS) | (with_reducible exact rv_eqSS) | (with_reducible exact rv_eqII) | (with_reducible exact rv_neII) | (with_reducible exact rv_neSS) | ((with_reducible refine rc_lenSS ?_); (first | assumption | omega | decide | (simp only [S_len] at *; omega))) | ((with_reducible refine rc_lenStr ?_); (first | assumption | omega | decide | (simp only [S_len] at *; omega))) | ((with_reducible refine rv_catSS ?_); (first | assumption | omega | decide | (simp only [S_len] at *; omega))) | (with_reducible exact rv_eq rfl) | (with_reducible exact rv_ne rfl) | ((with_reducible refine rc_lenS ?_); (first | assumption | omega | decide | (simp only [S_len] at *; omega))) | ((with_reducible refine rc_lenL ?_); assumption) | ((with_reducible apply rv_ixL); assumption; rfl) | ((with_reducible refine rv_catS ?_); (first | assumption | omega | decide | (simp only [S_len] at *; omega))) | ((with_reducible refine rv_I ?_); (first | (show (0 : Int) < _; (first | assumption | omega | decide | (simp only [S_len] at *; omega))) | exact .inr ⟨by decide, by decide⟩ | exact .inl ⟨by (first | assumption | omega | decide | (simp only [S_len] at *; omega)), by (first | assumption | omega | decide | (simp only [S_len] at *; omega))⟩ | exact .inr ⟨by (first | assumption | omega | decide | (simp only [S_len] at *; omega)), by (first | assumption | omega | decide | (simp only [S_len] at *; omega))⟩ | exact ⟨by decide, by decide, by decide⟩ | exact wide_div (b := 128) (by (first | assumption | omega | decide | (simp only [S_len] at *; omega))) (by (first | assumption | omega | decide | (simp only [S_len] at *; omega))) (by decide) (by decide))))))) (fun hc H1 e1 => ?_) (fun hc15 H16' e16' => ?_)
    · have hc2 : k = 15 := by
        have := of_decide_eq_true hc
        omega
      subst hc2
      exact ⟨_, rfl, by simp, fun a ha => ⟨a, _, rfl, ((hf.2.1 (by decide)).ex ((e0.trans e1).trans (Ex.new ha))), mk_val (k := 15) q (e0.trans e1) ha⟩⟩
    replace e0 := e0.trans e16'
    refine q_when (b := decide ((k : Int) = 16)) (by first | ((with_reducible apply et_test); (repeat' (first | ((with_reducible refine ev_pow10 ?_ ?_ ?_) <;> first | rfl | decide) | (with_reducible refine fun (_ : _ = true) => ?_) | (with_reducible refine fun (_ : _ = false) => ?_) | (with_reducible exact ev_c) | ((with_reducible apply ev_var); rfl) | (with_reducible apply ev_op) | (with_reducible apply ev_un) | (with_reducible apply ev_cb) | (with_reducible apply ea_cons) | (with_reducible apply ev_andV) | (with_reducible apply ev_orV) | (with_reducible apply ev_notV) | (with_reducible apply ev_if) | (with_reducible apply eo_some) | (with_reducible apply el_lst) | (with_reducible exact ea_nil) | (with_reducible exact rv_I0) | (with_reducible exact ru_neg) | (with_reducible exact rv_ltS) | (with_reducible exact rv_inC) | (with_reducible exact rv_notInC) | (with_reducible exact rc_intI) | (with_reducible exact rc_intB) | (with_reducible exact rc_min2) | (with_reducible exact rc_isStr) | (with_reducible exact eo_none) | (with_reducible exact rv_inSS) | (with_reducible exact rv_notInSS) | (with_reducible exact rv_ltSS) | (with_reducible exact rv_eqSS) | (with_reducible exact rv_eqII) | (with_reducible exact rv_neII) | (with_reducible exact rv_neSS) | ((with_reducible refine rc_lenSS ?_); (first | assumption | omega | decide | (simp only [S_len] at *; omega))) | ((with_reducible refine rc_lenStr ?_); (first | assumption | omega | decide | (simp only [S_len] at *; omega))) | ((with_reducible refine rv_catSS ?_); (first | assumption | omega | decide | (simp only [S_len] at *; omega))) | (with_reducible exact rv_eq rfl) | (with_reducible exact rv_ne rfl) | ((with_reducible refine rc_lenS ?_); (first | assumption | omega | decide | (simp only [S_len] at *; omega))) | ((with_reducible refine rc_lenL ?_); assumption) | ((with_reducible apply rv_ixL); assumption; rfl) | ((with_reducible refine rv_catS ?_); (first | assumption | omega | decide | (simp only [S_len] at *; omega))) | ((with_reducible refine rv_I ?_); (first | (show (0 : Int) < _; (first | assumption | omega | decide | (simp only [S_len] at *; omega))) | exact .inr ⟨by decide, by decide⟩ | exact .inl ⟨by (first | assumption | omega | decide | (simp only [S_len] at *; omega)), by (first | assumption | omega | decide | (simp only [S_len] at *; omega))⟩ | exact .inr ⟨by (first | assumption | omega | decide | (simp only [S_len] at *; omega)), by (first | assumption | omega | decide | (simp only [S_len] at *; omega))⟩ | exact ⟨by decide, by decide, by decide⟩ | exact wide_div (b := 128) (by (first | assumption | omega | decide | (simp only [S_len] at *; omega))) (by (first | assumption | omega | decide | (simp only [S_len] at *; omega))) (by decide) (by decide)))))) | ((with_reducible apply et_B); (repeat' (first | ((with_reducible refine ev_pow10 ?_ ?_ ?_) <;> first | rfl | decide) | (with_reducible refine fun (_ : _ = true) => ?_) | (with_reducible refine fun (_ : _ = false) => ?_) | (with_reducible exact ev_c) | ((with_reducible apply ev_var); rfl) | (with_reducible apply ev_op) | (with_reducible apply ev_un) | (with_reducible apply ev_cb) | (with_reducible apply ea_cons) | (with_reducible apply ev_andV) | (with_reducible apply ev_orV) | (with_reducible apply ev_notV) | (with_reducible apply ev_if) | (with_reducible apply eo_some) | (with_reducible apply el_lst) | (with_reducible exact ea_nil) | (with_reducible exact rv_I0) | (with_reducible exact ru_neg) | (with_reducible exact rv_ltS) | (with_reducible exact rv_inC) | (with_reducible exact rv_notInC) | (with_reducible exact rc_intI) | (with_reducible exact rc_intB) | (with_reducible exact rc_min2) | (with_reducible exact rc_isStr) | (with_reducible exact eo_none) | (with_reducible exact rv_inSS) | (with_reducible exact rv_notInSS) | (with_reducible exact rv_ltSS) | (with_reducible exact rv_eqSS) | (with_reducible exact rv_eqII) | (with_reducible exact rv_neII) | (with_reducible exact rv_neSS) | ((with_reducible refine rc_lenSS ?_); (first | assumption | omega | decide | (simp only [S_len] at *; omega))) | ((with_reducible refine rc_lenStr ?_); (first | assumption | omega | decide | (simp only [S_len] at *; omega))) | ((with_reducible refine rv_catSS ?_); (first | assumption | omega | decide | (simp only [S_len] at *; omega))) | (with_reducible exact rv_eq rfl) | (with_reducible exact rv_ne rfl) | ((with_reducible refine rc_lenS ?_); (first | assumption | omega | decide | (simp only [S_len] at *; omega))) | ((with_reducible refine rc_lenL ?_); assumption) | ((with_reducible apply rv_ixL); assumption; rfl) | ((with_reducible refine rv_catS ?_); (first | assumption | omega | decide | (simp only [S_len] at *; omega))) | ((with_reducible refine rv_I ?_); (first | (show (0 : Int) < _; (first | assumption | omega | decide | (simp only [S_len] at *; omega))) | exact .inr ⟨by decide, by decide⟩ | exact .inl ⟨by (first | assumption | omega | decide | (simp only [S_len] at *; omega)), by (first | assumption | omega | decide | (simp only [S_len] at *; omega))⟩ | exact .inr ⟨by (first | assumption | omega | decide | (simp only [S_len] at *; omega)), by (first | assumption | omega | decide | (simp only [S_len] at *; omega))⟩ | exact ⟨by decide, by decide, by decide⟩ | exact wide_div (b := 128) (by (first | assumption | omega | decide | (simp only [S_len] at *; omega))) (by (first | assumption | omega | decide | (simp only [S_len] at *; omega))) (by decide) (by decide))))))) (fun hc H1 e1 => ?_) (fun hc16 H17' e17' => ?_)
    · have hc2 : k = 16 := by
        have := of_decide_eq_true hc
        omega
      subst hc2
      exact ⟨_, rfl, by simp, fun a ha => ⟨a, _, rfl, ((hf.2.1 (by decide)).ex ((e0.trans e1).trans (Ex.new ha))), mk_val (k := 16) q (e0.trans e1) ha⟩⟩
    replace e0 := e0.trans e17'
    refine q_when (b := decide ((k : Int) = 17)) (by first | ((with_reducible apply et_test); (repeat' (first | ((with_reducible refine ev_pow10 ?_ ?_ ?_) <;> first | rfl | decide) | (with_reducible refine fun (_ : _ = true) => ?_) | (with_reducible refine fun (_ : _ = false) => ?_) | (with_reducible exact ev_c) | ((with_reducible apply ev_var); rfl) | (with_reducible apply ev_op) | (with_reducible apply ev_un) | (with_reducible apply ev_cb) | (with_reducible apply ea_cons) | (with_reducible apply ev_andV) | (with_reducible apply ev_orV) | (with_reducible apply ev_notV) | (with_reducible apply ev_if) | (with_reducible apply eo_some) | (with_reducible apply el_lst) | (with_reducible exact ea_nil) | (with_reducible exact rv_I0) | (with_reducible exact ru_neg) | (with_reducible exact rv_ltS) | (with_reducible exact rv_inC) | (with_reducible exact rv_notInC) | (with_reducible exact rc_intI) | (with_reducible exact rc_intB) | (with_reducible exact rc_min2) | (with_reducible exact rc_isStr) | (with_reducible exact eo_none) | (with_reducible exact rv_inSS) | (with_reducible exact rv_notInSS) | (with_reducible exact rv_ltSS) | (with_reducible exact rv_eqSS) | (with_reducible exact rv_eqII) | (with_reducible exact rv_neII) | (with_reducible exact rv_neSS) | ((with_reducible refine rc_lenSS ?_); (first | assumption | omega | decide | (simp only [S_len] at *; omega))) | ((with_reducible refine rc_lenStr ?_); (first | assumption | omega | decide | (simp only [S_len] at *; omega))) | ((with_reducible refine rv_catSS ?_); (first | assumption | omega | decide | (simp only [S_len] at *; omega))) | (with_reducible exact rv_eq rfl) | (with_reducible exact rv_ne rfl) | ((with_reducible refine rc_lenS ?_); (first | assumption | omega | decide | (simp only [S_len] at *; omega))) | ((with_reducible refine rc_lenL ?_); assumption) | ((with_reducible apply rv_ixL); assumption; rfl) | ((with_reducible refine rv_catS ?_); (first | assumption | omega | decide | (simp only [S_len] at *; omega))) | ((with_reducible refine rv_I ?_); (first | (show (0 : Int) < _; (first | assumption | omega | decide | (simp only [S_len] at *; omega))) | exact .inr ⟨by decide, by decide⟩ | exact .inl ⟨by (first | assumption | omega | decide | (simp only [S_len] at *; omega)), by (first | assumption | omega | decide | (simp only [S_len] at *; omega))⟩ | exact .inr ⟨by (first | assumption | omega | decide | (simp only [S_len] at *; omega)), by (first | assumption | omega | decide | (simp only [S_len] at *; omega))⟩ | exact ⟨by decide, by decide, by decide⟩ | exact wide_div (b := 128) (by (first | assumption | omega | decide | (simp only [S_len] at *; omega))) (by (first | assumption | omega | decide | (simp only [S_len] at *; omega))) (by decide) (by decide)))))) | ((with_reducible apply et_B); (repeat' (first | ((with_reducible refine ev_pow10 ?_ ?_ ?_) <;> first | rfl | decide) | (with_reducible refine fun (_ : _ = true) => ?_) | (with_reducible refine fun (_ : _ = false) => ?_) | (with_reducible exact ev_c) | ((with_reducible apply ev_var); rfl) | (with_reducible apply ev_op) | (with_reducible apply ev_un) | (with_reducible apply ev_cb) | (with_reducible apply ea_cons) | (with_reducible apply ev_andV) | (with_reducible apply ev_orV) | (with_reducible apply ev_notV) | (with_reducible apply ev_if) | (with_reducible apply eo_some) | (with_reducible apply el_lst) | (with_reducible exact ea_nil) | (with_reducible exact rv_I0) | (with_reducible exact ru_neg) | (with_reducible exact rv_ltS) | (with_reducible exact rv_inC) | (with_reducible exact rv_notInC) | (with_reducible exact rc_intI) | (with_reducible exact rc_intB) | (with_reducible exact rc_min2) | (with_reducible exact rc_isStr) | (with_reducible exact eo_none) | (with_reducible exact rv_inSS) | (with_reducible exact rv_notInSS) | (with_reducible exact rv_ltSS) | (with_reducible exact rv_eqSS) | (with_reducible exact rv_eqII) | (with_reducible exact rv_neII) | (with_reducible exact rv_neSS) | ((with_reducible refine rc_lenSS ?_); (first | assumption | omega | decide | (simp only [S_len] at *; omega))) | ((with_reducible refine rc_lenStr ?_); (first | assumption | omega | decide | (simp only [S_len] at *; omega))) | ((with_reducible refine rv_catSS ?_); (first | assumption | omega | decide | (simp only [S_len] at *; omega))) | (with_reducible exact rv_eq rfl) | (with_reducible exact rv_ne rfl) | ((with_reducible refine rc_lenS ?_); (first | assumption | omega | decide | (simp only [S_len] at *; omega))) | ((with_reducible refine rc_lenL ?_); assumption) | ((with_reducible apply rv_ixL); assumption; rfl) | ((with_reducible refine rv_catS ?_); (first | assumption | omega | decide | (simp only [S_len] at *; omega))) | ((with_reducible refine rv_I ?_); (first | (show (0 : Int) < _; (first | assumption | omega | decide | (simp only [S_len] at *; omega))) | exact .inr ⟨by decide, by decide⟩ | exact .inl ⟨by (first | assumption | omega | decide | (simp only [S_len] at *; omega)), by (first | assumption | omega | decide | (simp only [S_len] at *; omega))⟩ | exact .inr ⟨by (first | assumption | omega | decide | (simp only [S_len] at *; omega)), by (first | assumption | omega | decide | (simp only [S_len] at *; omega))⟩ | exact ⟨by decide, by decide, by decide⟩ | exact wide_div (b := 128) (by (first | assumption | omega | decide | (simp only [S_len] at *; omega))) (by (first | assumption | omega | decide | (simp only [S_len] at *; omega))) (by decide) (by decide))))))) (fun hc H1 e1 => ?_) (fun hc17 H18' e18' => ?_)
    · have hc2 : k = 17 := by
        have := of_decide_eq_true hc
        omega
      subst hc2
      exact ⟨_, rfl, by simp, fun a ha => ⟨a, _, rfl, (hf.1 (by decide)), mk_val (k := 17) q (e0.trans e1) ha⟩⟩
    replace e0 := e0.trans e18'
    refine q_when (b := decide ((k : Int) = 18)) (by first | ((with_reducible apply et_test); (repeat' (first | ((with_reducible refine ev_pow10 ?_ ?_ ?_) <;> first | rfl | decide) | (with_reducible refine fun (_ : _ = true) => ?_) | (with_reducible refine fun (_ : _ = false) => ?_) | (with_reducible exact ev_c) | ((with_reducible apply ev_var); rfl) | (with_reducible apply ev_op) | (with_reducible apply ev_un) | (with_reducible apply ev_cb) | (with_reducible apply ea_cons) | (with_reducible apply ev_andV) | (with_reducible apply ev_orV) | (with_reducible apply ev_notV) | (with_reducible apply ev_if) | (with_reducible apply eo_some) | (with_reducible apply el_lst) | (with_reducible exact ea_nil) | (with_reducible exact rv_I0) | (with_reducible exact ru_neg) | (with_reducible exact rv_ltS) | (with_reducible exact rv_inC) | (with_reducible exact rv_notInC) | (with_reducible exact rc_intI) | (with_reducible exact rc_intB) | (with_reducible exact rc_min2) | (with_reducible exact rc_isStr) | (with_reducible exact eo_none) | (with_reducible exact rv_inSS) | (with_reducible exact rv_notInSS) | (with_reducible exact rv_ltSS) | (with_reducible exact rv_eqSS) | (with_reducible exact rv_eqII) | (with_reducible exact rv_neII) | (with_reducible exact rv_neSS) | ((with_reducible refine rc_lenSS ?_); (first | assumption | omega | decide | (simp only [S_len] at *; omega))) | ((with_reducible refine rc_lenStr ?_); (first | assumption | omega | decide | (simp only [S_len] at *; omega))) | ((with_reducible refine rv_catSS ?_); (first | assumption | omega | decide | (simp only [S_len] at *; omega))) | (with_reducible exact rv_eq rfl) | (with_reducible exact rv_ne rfl) | ((with_reducible refine rc_lenS ?_); (first | assumption | omega | decide | (simp only [S_len] at *; omega))) | ((with_reducible refine rc_lenL ?_); assumption) | ((with_reducible apply rv_ixL); assumption; rfl) | ((with_reducible refine rv_catS ?_); (first | assumption | omega | decide | (simp only [S_len] at *; omega))) | ((with_reducible refine rv_I ?_); (first | (show (0 : Int) < _; (first | assumption | omega | decide | (simp only [S_len] at *; omega))) | exact .inr ⟨by decide, by decide⟩ | exact .inl ⟨by (first | assumption | omega | decide | (simp only [S_len] at *; omega)), by (first | assumption | omega | decide | (simp only [S_len] at *; omega))⟩ | exact .inr ⟨by (first | assumption | omega | decide | (simp only [S_len] at *; omega)), by (first | assumption | omega | decide | (simp only [S_len] at *; omega))⟩ | exact ⟨by decide, by decide, by decide⟩ | exact wide_div (b := 128) (by (first | assumption | omega | decide | (simp only [S_len] at *; omega))) (by (first | assumption | omega | decide | (simp only [S_len] at *; omega))) (by decide) (by decide)))))) | ((with_reducible apply et_B); (repeat' (first | ((with_reducible refine ev_pow10 ?_ ?_ ?_) <;> first | rfl | decide) | (with_reducible refine fun (_ : _ = true) => ?_) | (with_reducible refine fun (_ : _ = false) => ?_) | (with_reducible exact ev_c) | ((with_reducible apply ev_var); rfl) | (with_reducible apply ev_op) | (with_reducible apply ev_un) | (with_reducible apply ev_cb) | (with_reducible apply ea_cons) | (with_reducible apply ev_andV) | (with_reducible apply ev_orV) | (with_reducible apply ev_notV) | (with_reducible apply ev_if) | (with_reducible apply eo_some) | (with_reducible apply el_lst) | (with_reducible exact ea_nil) | (with_reducible exact rv_I0) | (with_reducible exact ru_neg) | (with_reducible exact rv_ltS) | (with_reducible exact rv_inC) | (with_reducible exact rv_notInC) | (with_reducible exact rc_intI) | (with_reducible exact rc_intB) | (with_reducible exact rc_min2) | (with_reducible exact rc_isStr) | (with_reducible exact eo_none) | (with_reducible exact rv_inSS) | (with_reducible exact rv_notInSS) | (with_reducible exact rv_ltSS) | (with_reducible exact rv_eqSS) | (with_reducible exact rv_eqII) | (with_reducible exact rv_neII) | (with_reducible exact rv_neSS) | ((with_reducible refine rc_lenSS ?_); (first | assumption | omega | decide | (simp only [S_len] at *; omega))) | ((with_reducible refine rc_lenStr ?_); (first | assumption | omega | decide | (simp only [S_len] at *; omega))) | ((with_reducible refine rv_catSS ?_); (first | assumption | omega | decide | (simp only [S_len] at *; omega))) | (with_reducible exact rv_eq rfl) | (with_reducible exact rv_ne rfl) | ((with_reducible refine rc_lenS ?_); (first | assumption | omega | decide | (simp only [S_len] at *; omega))) | ((with_reducible refine rc_lenL ?_); assumption) | ((with_reducible apply rv_ixL); assumption; rfl) | ((with_reducible refine rv_catS ?_); (first | assumption | omega | decide | (simp only [S_len] at *; omega))) | ((with_reducible refine rv_I ?_); (first | (show (0 : Int) < _; (first | assumption | omega | decide | (simp only [S_len] at *; omega))) | exact .inr ⟨by decide, by decide⟩ | exact .inl ⟨by (first | assumption | omega | decide | (simp only [S_len] at *; omega)), by (first | assumption | omega | decide | (simp only [S_len] at *; omega))⟩ | exact .inr ⟨by (first | assumption | omega | decide | (simp only [S_len] at *; omega)), by (first | assumption | omega | decide | (simp only [S_len] at *; omega))⟩ | exact ⟨by decide, by decide, by decide⟩ | exact wide_div (b := 128) (by (first | assumption | omega | decide | (simp only [S_len] at *; omega))) (by (first | assumption | omega | decide | (simp only [S_len] at *; omega))) (by decide) (by decide))))))) (fun hc H1 e1 => ?_) (fun hc18 H19' e19' => ?_)
    · have hc2 : k = 18 := by
        have := of_decide_eq_true hc
        omega
      subst hc2
      exact ⟨_, rfl, by simp, fun a ha => ⟨a, _, rfl, (hf.1 (by decide)), mk_val (k := 18) q (e0.trans e1) ha⟩⟩
    replace e0 := e0.trans e19'
    have hc2 : k = 19 := by
      have n0 := of_decide_eq_false hc0
      have n1 := of_decide_eq_false hc1
      have n2 := of_decide_eq_false hc2
      have n3 := of_decide_eq_false hc3
      have n4 := of_decide_eq_false hc4
      have n5 := of_decide_eq_false hc5
      have n6 := of_decide_eq_false hc6
      have n7 := of_decide_eq_false hc7
      have n8 := of_decide_eq_false hc8
      have n9 := of_decide_eq_false hc9
      have n10 := of_decide_eq_false hc10
      have n11 := of_decide_eq_false hc11
      have n12 := of_decide_eq_false hc12
      have n13 := of_decide_eq_false hc13
      have n14 := of_decide_eq_false hc14
      have n15 := of_decide_eq_false hc15
      have n16 := of_decide_eq_false hc16
      have n17 := of_decide_eq_false hc17
      have n18 := of_decide_eq_false hc18
      omega
    subst hc2
    exact ⟨_, rfl, by simp, fun a ha => ⟨a, _, rfl, (hf.2.2 (by decide) (by decide)), mk_val (k := 19) q e0 ha⟩⟩
/-! ### what it is -/
theorem rc_isE {H : Hp} {a : Addr} {k : Nat} {x : V} (T : Tx K mg w) (hk : k < 20) (h : IsE K H a k x) {j : Nat} (hj : j < 20) : RC (rIsV K) [.ref a, .ref (He.ga K (eC j))] H (.bl (decide (k = j))) := fun H1 e Q q => by
  obtain ⟨dx, h1, h2⟩ := h.ex e
  refine ⟨a, _, dx, _, _, _, _, rfl, .own _, xC T (e_mem hk), h1, h2, kitE T (e_mem hk) (e_mem hj), ?_⟩
  rw [eC_inj k hk j hj]
  exact q H1 (Ex.refl H1)
theorem rc_isEn {H : Hp} {a : Addr} {k : Nat} {x : V} {j : Nat} (c : Str) (T : Tx K mg w) (hk : k < 20) (h : IsE K H a k x) (hj : j < 20) (hc : eC j = c) : RC (rIsV K) [.ref a, .ref (He.ga K c)] H (.bl (decide (k = j))) := by
  subst hc
  exact rc_isE T hk h hj
theorem rc_isL {H : Hp} {a : Addr} {k : Nat} {x : V} (T : Tx K mg w) (hk : k < 20) (h : IsE K H a k x) : RC (rIsV K) [.ref a, .ref (He.ga K "LeapError")] H (.bl true) := fun H1 e Q q => by
  obtain ⟨dx, h1, h2⟩ := h.ex e
  exact ⟨a, _, dx, _, _, _, _, rfl, .own _, xC T (e_mem hk), h1, h2, kitL T (e_mem hk), q H1 (Ex.refl H1)⟩
theorem rc_isVE {H : Hp} {a : Addr} {k : Nat} {x : V} (T : Tx K mg w) (hk : k < 20) (h : IsE K H a k x) : RC (rIsV K) [.ref a, .ty "ValueError"] H (.bl true) := fun H1 e Q q => by
  obtain ⟨dx, h1, h2⟩ := h.ex e
  exact ⟨a, _, dx, _, _, _, _, rfl, .ty _, xC T (e_mem hk), h1, h2, kitV T (e_mem hk), q H1 (Ex.refl H1)⟩
theorem el_cat {σ : L2.St} {H : Hp} {ta tb : TE} {p : Addr} {xs ys : List V} (ha : Ev ta σ H (.ref p)) (hp : H p = some (.lst xs)) (hb : EvL tb σ H ys) (hz : xs.length + ys.length ≤ 100000) : EvL (tOp rCat ta tb) σ H (xs ++ ys) := fun H1 e Q q =>
  ha H1 e _ fun H2 e2 => hb H2 (e.trans e2) _ fun b H3 hb3 e3 h3 => ⟨p, b, xs, ys, rfl, rfl, ((e.trans e2).trans e3) _ _ hp, h3, sz_of hz, fun p' hp' => q p' _ (fresh_back (e2.trans e3) hp') ((e2.trans e3).trans (Ex.new hp')) upd_same⟩
theorem el_two {σ : L2.St} {H : Hp} {a : Addr} {k : Nat} {x : V} (T : Tx K mg w) (hk : k < 20) (h : IsE K H a k x) (hv : σ[0]? = some (some (.ref a))) (i j : Nat) (c d : Str) (hi : i < 20) (hj : j < 20) (hc : eC i = c) (hd : eC j = d) :
    EvL (tLst (tCons (tCB (rIsV K) (tCons (tVar 0) (tCons (tC (.ref (He.ga K c))) tNil))) (tCons (tCB (rIsV K) (tCons (tVar 0) (tCons (tC (.ref (He.ga K d))) tNil))) tNil))) σ H [.bl (decide (k = i)), .bl (decide (k = j))] :=
  el_lst (ea_cons (ev_cb (ea_cons (ev_var hv) (ea_cons ev_c ea_nil)) (rc_isEn c T hk h hi hc)) (ea_cons (ev_cb (ea_cons (ev_var hv) (ea_cons ev_c ea_nil)) (rc_isEn d T hk h hj hd)) ea_nil)) (by simp)
def knd (k : Nat) : List V := (List.range 20).map fun j => .bl (decide (k = j))
def sp_law_kinds (K : PySem.W.Frag) : Sp := fun vs H Q _ => ∃ (a : Addr) (k : Nat) (x : V), vs = [.ref a] ∧ k < 20 ∧ IsE K H a k x ∧ RetL (knd k) H Q
theorem ok_law_kinds (T : Tx K mg w) : OkD P w K mg base 1 d_law_kinds ps_law_kinds (sp_law_kinds K) := by
  refine (h_law_kinds T).ok sc_law_kinds (fun vs H Q E h => ?_) (fun cdv A outer s H vs Q E hr h => ⟨_,
      (pss_cons (ps_set (i := 1) sc_law_kinds.nd rfl (Or.inl rfl) (pe_lst (pa_cons (pe_callB call_isV (by rfl) (m_isinstance T) (by decide +kernel) (pa_cons (pv 0) (pa_cons (pe_glob (v := .ref (He.ga K "InvalidRow")) rfl (m_InvalidRow T) rfl) pa_nil))) (pa_cons (pe_callB call_isV (by rfl) (m_isinstance T) (by decide +kernel) (pa_cons (pv 0) (pa_cons (pe_glob (v := .ref (He.ga K "InvalidPlace")) rfl (m_InvalidPlace T) rfl) pa_nil))) pa_nil))))
      (pss_cons (ps_set (i := 1) sc_law_kinds.nd rfl (Or.inl rfl) (pe_op op_cat (pv 1) (pe_lst (pa_cons (pe_callB call_isV (by rfl) (m_isinstance T) (by decide +kernel) (pa_cons (pv 0) (pa_cons (pe_glob (v := .ref (He.ga K "InvalidJump")) rfl (m_InvalidJump T) rfl) pa_nil))) (pa_cons (pe_callB call_isV (by rfl) (m_isinstance T) (by decide +kernel) (pa_cons (pv 0) (pa_cons (pe_glob (v := .ref (He.ga K "InvalidCard")) rfl (m_InvalidCard T) rfl) pa_nil))) pa_nil)))))
      (pss_cons (ps_set (i := 1) sc_law_kinds.nd rfl (Or.inl rfl) (pe_op op_cat (pv 1) (pe_lst (pa_cons (pe_callB call_isV (by rfl) (m_isinstance T) (by decide +kernel) (pa_cons (pv 0) (pa_cons (pe_glob (v := .ref (He.ga K "InvalidBoard")) rfl (m_InvalidBoard T) rfl) pa_nil))) (pa_cons (pe_callB call_isV (by rfl) (m_isinstance T) (by decide +kernel) (pa_cons (pv 0) (pa_cons (pe_glob (v := .ref (He.ga K "NoJump")) rfl (m_NoJump T) rfl) pa_nil))) pa_nil)))))
      (pss_cons (ps_set (i := 1) sc_law_kinds.nd rfl (Or.inl rfl) (pe_op op_cat (pv 1) (pe_lst (pa_cons (pe_callB call_isV (by rfl) (m_isinstance T) (by decide +kernel) (pa_cons (pv 0) (pa_cons (pe_glob (v := .ref (He.ga K "TooMany")) rfl (m_TooMany T) rfl) pa_nil))) (pa_cons (pe_callB call_isV (by rfl) (m_isinstance T) (by decide +kernel) (pa_cons (pv 0) (pa_cons (pe_glob (v := .ref (He.ga K "InvalidMachine")) rfl (m_InvalidMachine T) rfl) pa_nil))) pa_nil)))))
      (pss_cons (ps_set (i := 1) sc_law_kinds.nd rfl (Or.inl rfl) (pe_op op_cat (pv 1) (pe_lst (pa_cons (pe_callB call_isV (by rfl) (m_isinstance T) (by decide +kernel) (pa_cons (pv 0) (pa_cons (pe_glob (v := .ref (He.ga K "Unlike")) rfl (m_Unlike T) rfl) pa_nil))) (pa_cons (pe_callB call_isV (by rfl) (m_isinstance T) (by decide +kernel) (pa_cons (pv 0) (pa_cons (pe_glob (v := .ref (He.ga K "InvalidPattern")) rfl (m_InvalidPattern T) rfl) pa_nil))) pa_nil)))))
      (pss_cons (ps_set (i := 1) sc_law_kinds.nd rfl (Or.inl rfl) (pe_op op_cat (pv 1) (pe_lst (pa_cons (pe_callB call_isV (by rfl) (m_isinstance T) (by decide +kernel) (pa_cons (pv 0) (pa_cons (pe_glob (v := .ref (He.ga K "InvalidTarget")) rfl (m_InvalidTarget T) rfl) pa_nil))) (pa_cons (pe_callB call_isV (by rfl) (m_isinstance T) (by decide +kernel) (pa_cons (pv 0) (pa_cons (pe_glob (v := .ref (He.ga K "NotExact")) rfl (m_NotExact T) rfl) pa_nil))) pa_nil)))))
      (pss_cons (ps_set (i := 1) sc_law_kinds.nd rfl (Or.inl rfl) (pe_op op_cat (pv 1) (pe_lst (pa_cons (pe_callB call_isV (by rfl) (m_isinstance T) (by decide +kernel) (pa_cons (pv 0) (pa_cons (pe_glob (v := .ref (He.ga K "NoMachine")) rfl (m_NoMachine T) rfl) pa_nil))) (pa_cons (pe_callB call_isV (by rfl) (m_isinstance T) (by decide +kernel) (pa_cons (pv 0) (pa_cons (pe_glob (v := .ref (He.ga K "InvalidMeasure")) rfl (m_InvalidMeasure T) rfl) pa_nil))) pa_nil)))))
      (pss_cons (ps_set (i := 1) sc_law_kinds.nd rfl (Or.inl rfl) (pe_op op_cat (pv 1) (pe_lst (pa_cons (pe_callB call_isV (by rfl) (m_isinstance T) (by decide +kernel) (pa_cons (pv 0) (pa_cons (pe_glob (v := .ref (He.ga K "InvalidWeight")) rfl (m_InvalidWeight T) rfl) pa_nil))) (pa_cons (pe_callB call_isV (by rfl) (m_isinstance T) (by decide +kernel) (pa_cons (pv 0) (pa_cons (pe_glob (v := .ref (He.ga K "InvalidSight")) rfl (m_InvalidSight T) rfl) pa_nil))) pa_nil)))))
      (pss_cons (ps_set (i := 1) sc_law_kinds.nd rfl (Or.inl rfl) (pe_op op_cat (pv 1) (pe_lst (pa_cons (pe_callB call_isV (by rfl) (m_isinstance T) (by decide +kernel) (pa_cons (pv 0) (pa_cons (pe_glob (v := .ref (He.ga K "InvalidFact")) rfl (m_InvalidFact T) rfl) pa_nil))) (pa_cons (pe_callB call_isV (by rfl) (m_isinstance T) (by decide +kernel) (pa_cons (pv 0) (pa_cons (pe_glob (v := .ref (He.ga K "OverQuota")) rfl (m_OverQuota T) rfl) pa_nil))) pa_nil)))))
      (pss_one (ps_ret (pe_op op_cat (pv 1) (pe_lst (pa_cons (pe_callB call_isV (by rfl) (m_isinstance T) (by decide +kernel) (pa_cons (pv 0) (pa_cons (pe_glob (v := .ref (He.ga K "NothingLeft")) rfl (m_NothingLeft T) rfl) pa_nil))) (pa_cons (pe_callB call_isV (by rfl) (m_isinstance T) (by decide +kernel) (pa_cons (pv 0) (pa_cons (pe_glob (v := .ref (He.ga K "InvalidOption")) rfl (m_InvalidOption T) rfl) pa_nil))) pa_nil))))))))))))))), ?_⟩)
  · obtain ⟨a, k, x, rfl, _⟩ := h
    rfl
  · obtain ⟨a, k, x, rfl, hk, hi, q⟩ := h
    refine q_asgL (xs := [.bl (decide (k = 0)), .bl (decide (k = 1))]) (el_lst (ea_cons (ev_cb (ea_cons (by exact ev_var rfl) (ea_cons ev_c ea_nil)) (rc_isEn (j := 0) "InvalidRow" T hk hi (by decide) rfl)) (ea_cons (ev_cb (ea_cons (by exact ev_var rfl) (ea_cons ev_c ea_nil)) (rc_isEn (j := 1) "InvalidPlace" T hk hi (by decide) rfl)) ea_nil)) (by simp)) fun p0 H0 hp0 e0 h0 => ?_
    have hi1 := hi.ex e0
    refine q_asgL (xs := [V.bl (decide (k = 0)), V.bl (decide (k = 1))] ++ [V.bl (decide (k = 2)), V.bl (decide (k = 3))]) (el_cat (by exact ev_var rfl) h0 (el_two T hk hi1 (by rfl) 2 3 "InvalidJump" "InvalidCard" (by decide) (by decide) rfl rfl) (by simp)) fun p1 H1 hp1 e1 h1 => ?_
    replace e0 := e0.trans e1
    replace h0 := h1
    have hi2 := hi.ex e0
    refine q_asgL (xs := [V.bl (decide (k = 0)), V.bl (decide (k = 1)), V.bl (decide (k = 2)), V.bl (decide (k = 3))] ++ [V.bl (decide (k = 4)), V.bl (decide (k = 5))]) (el_cat (by exact ev_var rfl) h0 (el_two T hk hi2 (by rfl) 4 5 "InvalidBoard" "NoJump" (by decide) (by decide) rfl rfl) (by simp)) fun p2 H2 hp2 e2 h2 => ?_
    replace e0 := e0.trans e2
    replace h0 := h2
    have hi3 := hi.ex e0
    refine q_asgL (xs := [V.bl (decide (k = 0)), V.bl (decide (k = 1)), V.bl (decide (k = 2)), V.bl (decide (k = 3)), V.bl (decide (k = 4)), V.bl (decide (k = 5))] ++ [V.bl (decide (k = 6)), V.bl (decide (k = 7))]) (el_cat (by exact ev_var rfl) h0 (el_two T hk hi3 (by rfl) 6 7 "TooMany" "InvalidMachine" (by decide) (by decide) rfl rfl) (by simp)) fun p3 H3 hp3 e3 h3 => ?_
    replace e0 := e0.trans e3
    replace h0 := h3
    have hi4 := hi.ex e0
    refine q_asgL (xs := [V.bl (decide (k = 0)), V.bl (decide (k = 1)), V.bl (decide (k = 2)), V.bl (decide (k = 3)), V.bl (decide (k = 4)), V.bl (decide (k = 5)), V.bl (decide (k = 6)), V.bl (decide (k = 7))] ++ [V.bl (decide (k = 8)), V.bl (decide (k = 9))]) (el_cat (by exact ev_var rfl) h0 (el_two T hk hi4 (by rfl) 8 9 "Unlike" "InvalidPattern" (by decide) (by decide) rfl rfl) (by simp)) fun p4 H4 hp4 e4 h4 => ?_
    replace e0 := e0.trans e4
    replace h0 := h4
    have hi5 := hi.ex e0
    refine q_asgL (xs := [V.bl (decide (k = 0)), V.bl (decide (k = 1)), V.bl (decide (k = 2)), V.bl (decide (k = 3)), V.bl (decide (k = 4)), V.bl (decide (k = 5)), V.bl (decide (k = 6)), V.bl (decide (k = 7)), V.bl (decide (k = 8)), V.bl (decide (k = 9))] ++ [V.bl (decide (k = 10)), V.bl (decide (k = 11))]) (el_cat (by exact ev_var rfl) h0 (el_two T hk hi5 (by rfl) 10 11 "InvalidTarget" "NotExact" (by decide) (by decide) rfl rfl) (by simp)) fun p5 H5 hp5 e5 h5 => ?_
    replace e0 := e0.trans e5
    replace h0 := h5
    have hi6 := hi.ex e0
    refine q_asgL (xs := [V.bl (decide (k = 0)), V.bl (decide (k = 1)), V.bl (decide (k = 2)), V.bl (decide (k = 3)), V.bl (decide (k = 4)), V.bl (decide (k = 5)), V.bl (decide (k = 6)), V.bl (decide (k = 7)), V.bl (decide (k = 8)), V.bl (decide (k = 9)), V.bl (decide (k = 10)), V.bl (decide (k = 11))] ++ [V.bl (decide (k = 12)), V.bl (decide (k = 13))]) (el_cat (by exact ev_var rfl) h0 (el_two T hk hi6 (by rfl) 12 13 "NoMachine" "InvalidMeasure" (by decide) (by decide) rfl rfl) (by simp)) fun p6 H6 hp6 e6 h6 => ?_
    replace e0 := e0.trans e6
    replace h0 := h6
    have hi7 := hi.ex e0
    refine q_asgL (xs := [V.bl (decide (k = 0)), V.bl (decide (k = 1)), V.bl (decide (k = 2)), V.bl (decide (k = 3)), V.bl (decide (k = 4)), V.bl (decide (k = 5)), V.bl (decide (k = 6)), V.bl (decide (k = 7)), V.bl (decide (k = 8)), V.bl (decide (k = 9)), V.bl (decide (k = 10)), V.bl (decide (k = 11)), V.bl (decide (k = 12)), V.bl (decide (k = 13))] ++ [V.bl (decide (k = 14)), V.bl (decide (k = 15))]) (el_cat (by exact ev_var rfl) h0 (el_two T hk hi7 (by rfl) 14 15 "InvalidWeight" "InvalidSight" (by decide) (by decide) rfl rfl) (by simp)) fun p7 H7 hp7 e7 h7 => ?_
    replace e0 := e0.trans e7
    replace h0 := h7
    have hi8 := hi.ex e0
    refine q_asgL (xs := [V.bl (decide (k = 0)), V.bl (decide (k = 1)), V.bl (decide (k = 2)), V.bl (decide (k = 3)), V.bl (decide (k = 4)), V.bl (decide (k = 5)), V.bl (decide (k = 6)), V.bl (decide (k = 7)), V.bl (decide (k = 8)), V.bl (decide (k = 9)), V.bl (decide (k = 10)), V.bl (decide (k = 11)), V.bl (decide (k = 12)), V.bl (decide (k = 13)), V.bl (decide (k = 14)), V.bl (decide (k = 15))] ++ [V.bl (decide (k = 16)), V.bl (decide (k = 17))]) (el_cat (by exact ev_var rfl) h0 (el_two T hk hi8 (by rfl) 16 17 "InvalidFact" "OverQuota" (by decide) (by decide) rfl rfl) (by simp)) fun p8 H8 hp8 e8 h8 => ?_
    replace e0 := e0.trans e8
    replace h0 := h8
    have hi9 := hi.ex e0
    refine s_retL (xs := [V.bl (decide (k = 0)), V.bl (decide (k = 1)), V.bl (decide (k = 2)), V.bl (decide (k = 3)), V.bl (decide (k = 4)), V.bl (decide (k = 5)), V.bl (decide (k = 6)), V.bl (decide (k = 7)), V.bl (decide (k = 8)), V.bl (decide (k = 9)), V.bl (decide (k = 10)), V.bl (decide (k = 11)), V.bl (decide (k = 12)), V.bl (decide (k = 13)), V.bl (decide (k = 14)), V.bl (decide (k = 15)), V.bl (decide (k = 16)), V.bl (decide (k = 17))] ++ [V.bl (decide (k = 18)), V.bl (decide (k = 19))]) (el_cat (by exact ev_var rfl) h0 (el_two T hk hi9 (by rfl) 18 19 "NothingLeft" "InvalidOption" (by decide) (by decide) rfl rfl) (by simp)) fun p9 H9 hp9 e9 h9 => ?_
    exact q p9 H9 (fresh_back e0 hp9) (e0.trans e9) h9
/-! ### what it keeps -/
theorem inNat (k : Nat) : ∀ ms : List Nat, inV (.int (k : Int)) (ms.map fun (m : Nat) => V.int (m : Int)) = decide (k ∈ ms)
  | [] => rfl
  | m :: r => by
    have ih := inNat k r
    unfold inV at ih ⊢
    rw [List.map_cons, List.any_cons, ih]
    have h1 : eqV (V.int (m : Int)) (V.int (k : Int)) = decide (k = m) := by
      show ((m : Int) == (k : Int)) = decide (k = m)
      rw [Bool.eq_iff_iff]
      simp only [beq_iff_eq, decide_eq_true_eq]
      omega
    rw [h1, Bool.eq_iff_iff]
    simp
theorem et_in {σ : L2.St} {H : Hp} {ta tb : TE} {k : Nat} (ms : List Nat) (ha : Ev ta σ H (.int (k : Int))) (hb : EvU tb σ H (ms.map fun (m : Nat) => V.int (m : Int))) : EvT (tTest (tOp (rIn K false) ta tb)) σ H (decide (k ∈ ms)) := by
  rw [← inNat]
  exact et_test (ev_inU ha hb rfl (by rw [List.all_map]; exact List.all_eq_true.mpr fun _ _ => rfl))
theorem ev_xo {σ : L2.St} {H : Hp} {te : TE} {a : Addr} {k : Nat} {x : V} (T : Tx K mg w) (hk : k < 20) (h : IsE K H a k x) {f : Str} (hf : eF k = f) (he : Ev te σ H (.ref a)) : Ev (tXo K f te) σ H x := fun H1 e Q q => he H1 e _ fun H2 e2 => by
  obtain ⟨dx, h1, h2⟩ := h.ex (e.trans e2)
  subst hf
  exact ⟨a, _, dx, _, x, rfl, (xE T (e_mem hk)).xf, (xE T (e_mem hk)).no, h1, h2, by simp [List.lookup], q H2 e2⟩
def sp_law_field (K : PySem.W.Frag) : Sp := fun vs H Q _ => ∃ (a : Addr) (k : Nat) (x : V), vs = [.int (k : Int), .ref a] ∧ k < 20 ∧ IsE K H a k x ∧ RetV x H Q
theorem ok_law_field (T : Tx K mg w) : OkD P w K mg base 1 d_law_field ps_law_field (sp_law_field K) := by
  refine (h_law_field T).ok sc_law_field (fun vs H Q E h => ?_) (fun cdv A outer s H vs Q E hr h => ⟨_,
      (pss_cons (ps_if (pt_cmpR op_in_seq (pv 0) (pe_tup (pa_cons pe_int (pa_cons pe_int pa_nil))) (by rfl)) (pss_one (ps_ret (pe_xo (pv 1)))) pss_nil)
      (pss_cons (ps_if (pt_cmpR op_eq (pv 0) pe_int (nomark _)) (pss_one (ps_ret (pe_xo (pv 1)))) pss_nil)
      (pss_cons (ps_if (pt_cmpR op_eq (pv 0) pe_int (nomark _)) (pss_one (ps_ret (pe_xo (pv 1)))) pss_nil)
      (pss_cons (ps_if (pt_cmpR op_in_seq (pv 0) (pe_tup (pa_cons pe_int (pa_cons pe_int (pa_cons pe_int (pa_cons pe_int pa_nil))))) (by rfl)) (pss_one (ps_ret (pe_xo (pv 1)))) pss_nil)
      (pss_cons (ps_if (pt_cmpR op_eq (pv 0) pe_int (nomark _)) (pss_one (ps_ret (pe_xo (pv 1)))) pss_nil)
      (pss_cons (ps_if (pt_cmpR op_in_seq (pv 0) (pe_tup (pa_cons pe_int (pa_cons pe_int pa_nil))) (by rfl)) (pss_one (ps_ret (pe_xo (pv 1)))) pss_nil)
      (pss_cons (ps_if (pt_cmpR op_eq (pv 0) pe_int (nomark _)) (pss_one (ps_ret (pe_xo (pv 1)))) pss_nil)
      (pss_cons (ps_if (pt_cmpR op_eq (pv 0) pe_int (nomark _)) (pss_one (ps_ret (pe_xo (pv 1)))) pss_nil)
      (pss_cons (ps_if (pt_cmpR op_eq (pv 0) pe_int (nomark _)) (pss_one (ps_ret (pe_xo (pv 1)))) pss_nil)
      (pss_cons (ps_if (pt_cmpR op_eq (pv 0) pe_int (nomark _)) (pss_one (ps_ret (pe_xo (pv 1)))) pss_nil)
      (pss_cons (ps_if (pt_cmpR op_eq (pv 0) pe_int (nomark _)) (pss_one (ps_ret (pe_xo (pv 1)))) pss_nil)
      (pss_cons (ps_if (pt_cmpR op_eq (pv 0) pe_int (nomark _)) (pss_one (ps_ret (pe_xo (pv 1)))) pss_nil)
      (pss_cons (ps_if (pt_cmpR op_eq (pv 0) pe_int (nomark _)) (pss_one (ps_ret (pe_xo (pv 1)))) pss_nil)
      (pss_cons (ps_if (pt_cmpR op_eq (pv 0) pe_int (nomark _)) (pss_one (ps_ret (pe_xo (pv 1)))) pss_nil)
      (pss_one (ps_ret (pe_xo (pv 1)))))))))))))))))), ?_⟩)
  · obtain ⟨a, k, x, rfl, _⟩ := h
    rfl
  · obtain ⟨a, k, x, rfl, hk, hi, q⟩ := h
    have e0 : Ex H H := Ex.refl H
    refine q_when (b := decide (k ∈ [0, 11])) (et_in [0, 11] (by exact ev_var rfl) (by exact (eu_tup (ea_cons ev_c (ea_cons ev_c ea_nil)) (by simp)))) (fun hc H1 e1 => ?_) (fun hc0 H0' e0' => ?_)
    · have hc2 := of_decide_eq_true hc
      simp only [List.mem_cons, List.not_mem_nil, or_false] at hc2
      have hf : eF k = "row" := by
        rcases hc2 with rfl | rfl <;> rfl
      exact s_ret (ev_xo T hk (hi.ex (e0.trans e1)) hf (by exact ev_var rfl)) fun H2 e2 => q H2 ((e0.trans e1).trans e2)
    replace e0 := e0.trans e0'
    refine q_when (b := decide ((k : Int) = 1)) (by first | ((with_reducible apply et_test); (repeat' (first | ((with_reducible refine ev_pow10 ?_ ?_ ?_) <;> first | rfl | decide) | (with_reducible refine fun (_ : _ = true) => ?_) | (with_reducible refine fun (_ : _ = false) => ?_) | (with_reducible exact ev_c) | ((with_reducible apply ev_var); rfl) | (with_reducible apply ev_op) | (with_reducible apply ev_un) | (with_reducible apply ev_cb) | (with_reducible apply ea_cons) | (with_reducible apply ev_andV) | (with_reducible apply ev_orV) | (with_reducible apply ev_notV) | (with_reducible apply ev_if) | (with_reducible apply eo_some) | (with_reducible apply el_lst) | (with_reducible exact ea_nil) | (with_reducible exact rv_I0) | (with_reducible exact ru_neg) | (with_reducible exact rv_ltS) | (with_reducible exact rv_inC) | (with_reducible exact rv_notInC) | (with_reducible exact rc_intI) | (with_reducible exact rc_intB) | (with_reducible exact rc_min2) | (with_reducible exact rc_isStr) | (with_reducible exact eo_none) | (with_reducible exact rv_inSS) | (with_reducible exact rv_notInSS) | (with_reducible exact rv_ltSS) | (with_reducible exact rv_eqSS) | (with_reducible exact rv_eqII) | (with_reducible exact rv_neII) | (with_reducible exact rv_neSS) | ((with_reducible refine rc_lenSS ?_); (first | assumption | omega | decide | (simp only [S_len] at *; omega))) | ((with_reducible refine rc_lenStr ?_); (first | assumption | omega | decide | (simp only [S_len] at *; omega))) | ((with_reducible refine rv_catSS ?_); (first | assumption | omega | decide | (simp only [S_len] at *; omega))) | (with_reducible exact rv_eq rfl) | (with_reducible exact rv_ne rfl) | ((with_reducible refine rc_lenS ?_); (first | assumption | omega | decide | (simp only [S_len] at *; omega))) | ((with_reducible refine rc_lenL ?_); assumption) | ((with_reducible apply rv_ixL); assumption; rfl) | ((with_reducible refine rv_catS ?_); (first | assumption | omega | decide | (simp only [S_len] at *; omega))) | ((with_reducible refine rv_I ?_); (first | (show (0 : Int) < _; (first | assumption | omega | decide | (simp only [S_len] at *; omega))) | exact .inr ⟨by decide, by decide⟩ | exact .inl ⟨by (first | assumption | omega | decide | (simp only [S_len] at *; omega)), by (first | assumption | omega | decide | (simp only [S_len] at *; omega))⟩ | exact .inr ⟨by (first | assumption | omega | decide | (simp only [S_len] at *; omega)), by (first | assumption | omega | decide | (simp only [S_len] at *; omega))⟩ | exact ⟨by decide, by decide, by decide⟩ | exact wide_div (b := 128) (by (first | assumption | omega | decide | (simp only [S_len] at *; omega))) (by (first | assumption | omega | decide | (simp only [S_len] at *; omega))) (by decide) (by decide)))))) | ((with_reducible apply et_B); (repeat' (first | ((with_reducible refine ev_pow10 ?_ ?_ ?_) <;> first | rfl | decide) | (with_reducible refine fun (_ : _ = true) => ?_) | (with_reducible refine fun (_ : _ = false) => ?_) | (with_reducible exact ev_c) | ((with_reducible apply ev_var); rfl) | (with_reducible apply ev_op) | (with_reducible apply ev_un) | (with_reducible apply ev_cb) | (with_reducible apply ea_cons) | (with_reducible apply ev_andV) | (with_reducible apply ev_orV) | (with_reducible apply ev_notV) | (with_reducible apply ev_if) | (with_reducible apply eo_some) | (with_reducible apply el_lst) | (with_reducible exact ea_nil) | (with_reducible exact rv_I0) | (with_reducible exact ru_neg) | (with_reducible exact rv_ltS) | (with_reducible exact rv_inC) | (with_reducible exact rv_notInC) | (with_reducible exact rc_intI) | (with_reducible exact rc_intB) | (with_reducible exact rc_min2) | (with_reducible exact rc_isStr) | (with_reducible exact eo_none) | (with_reducible exact rv_inSS) | (with_reducible exact rv_notInSS) | (with_reducible exact rv_ltSS) | (with_reducible exact rv_eqSS) | (with_reducible exact rv_eqII) | (with_reducible exact rv_neII) | (with_reducible exact rv_neSS) | ((with_reducible refine rc_lenSS ?_); (first | assumption | omega | decide | (simp only [S_len] at *; omega))) | ((with_reducible refine rc_lenStr ?_); (first | assumption | omega | decide | (simp only [S_len] at *; omega))) | ((with_reducible refine rv_catSS ?_); (first | assumption | omega | decide | (simp only [S_len] at *; omega))) | (with_reducible exact rv_eq rfl) | (with_reducible exact rv_ne rfl) | ((with_reducible refine rc_lenS ?_); (first | assumption | omega | decide | (simp only [S_len] at *; omega))) | ((with_reducible refine rc_lenL ?_); assumption) | ((with_reducible apply rv_ixL); assumption; rfl) | ((with_reducible refine rv_catS ?_); (first | assumption | omega | decide | (simp only [S_len] at *; omega))) | ((with_reducible refine rv_I ?_); (first | (show (0 : Int) < _; (first | assumption | omega | decide | (simp only [S_len] at *; omega))) | exact .inr ⟨by decide, by decide⟩ | exact .inl ⟨by (first | assumption | omega | decide | (simp only [S_len] at *; omega)), by (first | assumption | omega | decide | (simp only [S_len] at *; omega))⟩ | exact .inr ⟨by (first | assumption | omega | decide | (simp only [S_len] at *; omega)), by (first | assumption | omega | decide | (simp only [S_len] at *; omega))⟩ | exact ⟨by decide, by decide, by decide⟩ | exact wide_div (b := 128) (by (first | assumption | omega | decide | (simp only [S_len] at *; omega))) (by (first | assumption | omega | decide | (simp only [S_len] at *; omega))) (by decide) (by decide))))))) (fun hc H1 e1 => ?_) (fun hc1 H1' e1' => ?_)
    · have hc2 : k = 1 := by
        have := of_decide_eq_true hc
        omega
      have hf : eF k = "place" := by rw [hc2]; rfl
      exact s_ret (ev_xo T hk (hi.ex (e0.trans e1)) hf (by exact ev_var rfl)) fun H2 e2 => q H2 ((e0.trans e1).trans e2)
    replace e0 := e0.trans e1'
    refine q_when (b := decide ((k : Int) = 2)) (by first | ((with_reducible apply et_test); (repeat' (first | ((with_reducible refine ev_pow10 ?_ ?_ ?_) <;> first | rfl | decide) | (with_reducible refine fun (_ : _ = true) => ?_) | (with_reducible refine fun (_ : _ = false) => ?_) | (with_reducible exact ev_c) | ((with_reducible apply ev_var); rfl) | (with_reducible apply ev_op) | (with_reducible apply ev_un) | (with_reducible apply ev_cb) | (with_reducible apply ea_cons) | (with_reducible apply ev_andV) | (with_reducible apply ev_orV) | (with_reducible apply ev_notV) | (with_reducible apply ev_if) | (with_reducible apply eo_some) | (with_reducible apply el_lst) | (with_reducible exact ea_nil) | (with_reducible exact rv_I0) | (with_reducible exact ru_neg) | (with_reducible exact rv_ltS) | (with_reducible exact rv_inC) | (with_reducible exact rv_notInC) | (with_reducible exact rc_intI) | (with_reducible exact rc_intB) | (with_reducible exact rc_min2) | (with_reducible exact rc_isStr) | (with_reducible exact eo_none) | (with_reducible exact rv_inSS) | (with_reducible exact rv_notInSS) | (with_reducible exact rv_ltSS) | (with_reducible exact rv_eqSS) | (with_reducible exact rv_eqII) | (with_reducible exact rv_neII) | (with_reducible exact rv_neSS) | ((with_reducible refine rc_lenSS ?_); (first | assumption | omega | decide | (simp only [S_len] at *; omega))) | ((with_reducible refine rc_lenStr ?_); (first | assumption | omega | decide | (simp only [S_len] at *; omega))) | ((with_reducible refine rv_catSS ?_); (first | assumption | omega | decide | (simp only [S_len] at *; omega))) | (with_reducible exact rv_eq rfl) | (with_reducible exact rv_ne rfl) | ((with_reducible refine rc_lenS ?_); (first | assumption | omega | decide | (simp only [S_len] at *; omega))) | ((with_reducible refine rc_lenL ?_); assumption) | ((with_reducible apply rv_ixL); assumption; rfl) | ((with_reducible refine rv_catS ?_); (first | assumption | omega | decide | (simp only [S_len] at *; omega))) | ((with_reducible refine rv_I ?_); (first | (show (0 : Int) < _; (first | assumption | omega | decide | (simp only [S_len] at *; omega))) | exact .inr ⟨by decide, by decide⟩ | exact .inl ⟨by (first | assumption | omega | decide | (simp only [S_len] at *; omega)), by (first | assumption | omega | decide | (simp only [S_len] at *; omega))⟩ | exact .inr ⟨by (first | assumption | omega | decide | (simp only [S_len] at *; omega)), by (first | assumption | omega | decide | (simp only [S_len] at *; omega))⟩ | exact ⟨by decide, by decide, by decide⟩ | exact wide_div (b := 128) (by (first | assumption | omega | decide | (simp only [S_len] at *; omega))) (by (first | assumption | omega | decide | (simp only [S_len] at *; omega))) (by decide) (by decide)))))) | ((with_reducible apply et_B); (repeat' (first | ((with_reducible refine ev_pow10 ?_ ?_ ?_) <;> first | rfl | decide) | (with_reducible refine fun (_ : _ = true) => ?_) | (with_reducible refine fun (_ : _ = false) => ?_) | (with_reducible exact ev_c) | ((with_reducible apply ev_var); rfl) | (with_reducible apply ev_op) | (with_reducible apply ev_un) | (with_reducible apply ev_cb) | (with_reducible apply ea_cons) | (with_reducible apply ev_andV) | (with_reducible apply ev_orV) | (with_reducible apply ev_notV) | (with_reducible apply ev_if) | (with_reducible apply eo_some) | (with_reducible apply el_lst) | (with_reducible exact ea_nil) | (with_reducible exact rv_I0) | (with_reducible exact ru_neg) | (with_reducible exact rv_ltS) | (with_reducible exact rv_inC) | (with_reducible exact rv_notInC) | (with_reducible exact rc_intI) | (with_reducible exact rc_intB) | (with_reducible exact rc_min2) | (with_reducible exact rc_isStr) | (with_reducible exact eo_none) | (with_reducible exact rv_inSS) | (with_reducible exact rv_notInSS) | (with_reducible exact rv_ltSS) | (with_reducible exact rv_eqSS) | (with_reducible exact rv_eqII) | (with_reducible exact rv_neII) | (with_reducible exact rv_neSS) | ((with_reducible refine rc_lenSS ?_); (first | assumption | omega | decide | (simp only [S_len] at *; omega))) | ((with_reducible refine rc_lenStr ?_); (first | assumption | omega | decide | (simp only [S_len] at *; omega))) | ((with_reducible refine rv_catSS ?_); (first | assumption | omega | decide | (simp only [S_len] at *; omega))) | (with_reducible exact rv_eq rfl) | (with_reducible exact rv_ne rfl) | ((with_reducible refine rc_lenS ?_); (first | assumption | omega | decide | (simp only [S_len] at *; omega))) | ((with_reducible refine rc_lenL ?_); assumption) | ((with_reducible apply rv_ixL); assumption; rfl) | ((with_reducible refine rv_catS ?_); (first | assumption | omega | decide | (simp only [S_len] at *; omega))) | ((with_reducible refine rv_I ?_); (first | (show (0 : Int) < _; (first | assumption | omega | decide | (simp only [S_len] at *; omega))) | exact .inr ⟨by decide, by decide⟩ | exact .inl ⟨by (first | assumption | omega | decide | (simp only [S_len] at *; omega)), by (first | assumption | omega | decide | (simp only [S_len] at *; omega))⟩ | exact .inr ⟨by (first | assumption | omega | decide | (simp only [S_len] at *; omega)), by (first | assumption | omega | decide | (simp only [S_len] at *; omega))⟩ | exact ⟨by decide, by decide, by decide⟩ | exact wide_div (b := 128) (by (first | assumption | omega | decide | (simp only [S_len] at *; omega))) (by (first | assumption | omega | decide | (simp only [S_len] at *; omega))) (by decide) (by decide))))))) (fun hc H1 e1 => ?_) (fun hc2 H2' e2' => ?_)
    · have hc2 : k = 2 := by
        have := of_decide_eq_true hc
        omega
      have hf : eF k = "text" := by rw [hc2]; rfl
      exact s_ret (ev_xo T hk (hi.ex (e0.trans e1)) hf (by exact ev_var rfl)) fun H2 e2 => q H2 ((e0.trans e1).trans e2)
    replace e0 := e0.trans e2'
    refine q_when (b := decide (k ∈ [3, 7, 10, 14])) (et_in [3, 7, 10, 14] (by exact ev_var rfl) (by exact (eu_tup (ea_cons ev_c (ea_cons ev_c (ea_cons ev_c (ea_cons ev_c ea_nil)))) (by simp)))) (fun hc H1 e1 => ?_) (fun hc3 H3' e3' => ?_)
    · have hc2 := of_decide_eq_true hc
      simp only [List.mem_cons, List.not_mem_nil, or_false] at hc2
      have hf : eF k = "part" := by
        rcases hc2 with rfl | rfl | rfl | rfl <;> rfl
      exact s_ret (ev_xo T hk (hi.ex (e0.trans e1)) hf (by exact ev_var rfl)) fun H2 e2 => q H2 ((e0.trans e1).trans e2)
    replace e0 := e0.trans e3'
    refine q_when (b := decide ((k : Int) = 4)) (by first | ((with_reducible apply et_test); (repeat' (first | ((with_reducible refine ev_pow10 ?_ ?_ ?_) <;> first | rfl | decide) | (with_reducible refine fun (_ : _ = true) => ?_) | (with_reducible refine fun (_ : _ = false) => ?_) | (with_reducible exact ev_c) | ((with_reducible apply ev_var); rfl) | (with_reducible apply ev_op) | (with_reducible apply ev_un) | (with_reducible apply ev_cb) | (with_reducible apply ea_cons) | (with_reducible apply ev_andV) | (with_reducible apply ev_orV) | (with_reducible apply ev_notV) | (with_reducible apply ev_if) | (with_reducible apply eo_some) | (with_reducible apply el_lst) | (with_reducible exact ea_nil) | (with_reducible exact rv_I0) | (with_reducible exact ru_neg) | (with_reducible exact rv_ltS) | (with_reducible exact rv_inC) | (with_reducible exact rv_notInC) | (with_reducible exact rc_intI) | (with_reducible exact rc_intB) | (with_reducible exact rc_min2) | (with_reducible exact rc_isStr) | (with_reducible exact eo_none) | (with_reducible exact rv_inSS) | (with_reducible exact rv_notInSS) | (with_reducible exact rv_ltSS) | (with_reducible exact rv_eqSS) | (with_reducible exact rv_eqII) | (with_reducible exact rv_neII) | (with_reducible exact rv_neSS) | ((with_reducible refine rc_lenSS ?_); (first | assumption | omega | decide | (simp only [S_len] at *; omega))) | ((with_reducible refine rc_lenStr ?_); (first | assumption | omega | decide | (simp only [S_len] at *; omega))) | ((with_reducible refine rv_catSS ?_); (first | assumption | omega | decide | (simp only [S_len] at *; omega))) | (with_reducible exact rv_eq rfl) | (with_reducible exact rv_ne rfl) | ((with_reducible refine rc_lenS ?_); (first | assumption | omega | decide | (simp only [S_len] at *; omega))) | ((with_reducible refine rc_lenL ?_); assumption) | ((with_reducible apply rv_ixL); assumption; rfl) | ((with_reducible refine rv_catS ?_); (first | assumption | omega | decide | (simp only [S_len] at *; omega))) | ((with_reducible refine rv_I ?_); (first | (show (0 : Int) < _; (first | assumption | omega | decide | (simp only [S_len] at *; omega))) | exact .inr ⟨by decide, by decide⟩ | exact .inl ⟨by (first | assumption | omega | decide | (simp only [S_len] at *; omega)), by (first | assumption | omega | decide | (simp only [S_len] at *; omega))⟩ | exact .inr ⟨by (first | assumption | omega | decide | (simp only [S_len] at *; omega)), by (first | assumption | omega | decide | (simp only [S_len] at *; omega))⟩ | exact ⟨by decide, by decide, by decide⟩ | exact wide_div (b := 128) (by (first | assumption | omega | decide | (simp only [S_len] at *; omega))) (by (first | assumption | omega | decide | (simp only [S_len] at *; omega))) (by decide) (by decide)))))) | ((with_reducible apply et_B); (repeat' (first | ((with_reducible refine ev_pow10 ?_ ?_ ?_) <;> first | rfl | decide) | (with_reducible refine fun (_ : _ = true) => ?_) | (with_reducible refine fun (_ : _ = false) => ?_) | (with_reducible exact ev_c) | ((with_reducible apply ev_var); rfl) | (with_reducible apply ev_op) | (with_reducible apply ev_un) | (with_reducible apply ev_cb) | (with_reducible apply ea_cons) | (with_reducible apply ev_andV) | (with_reducible apply ev_orV) | (with_reducible apply ev_notV) | (with_reducible apply ev_if) | (with_reducible apply eo_some) | (with_reducible apply el_lst) | (with_reducible exact ea_nil) | (with_reducible exact rv_I0) | (with_reducible exact ru_neg) | (with_reducible exact rv_ltS) | (with_reducible exact rv_inC) | (with_reducible exact rv_notInC) | (with_reducible exact rc_intI) | (with_reducible exact rc_intB) | (with_reducible exact rc_min2) | (with_reducible exact rc_isStr) | (with_reducible exact eo_none) | (with_reducible exact rv_inSS) | (with_reducible exact rv_notInSS) | (with_reducible exact rv_ltSS) | (with_reducible exact rv_eqSS) | (with_reducible exact rv_eqII) | (with_reducible exact rv_neII) | (with_reducible exact rv_neSS) | ((with_reducible refine rc_lenSS ?_); (first | assumption | omega | decide | (simp only [S_len] at *; omega))) | ((with_reducible refine rc_lenStr ?_); (first | assumption | omega | decide | (simp only [S_len] at *; omega))) | ((with_reducible refine rv_catSS ?_); (first | assumption | omega | decide | (simp only [S_len] at *; omega))) | (with_reducible exact rv_eq rfl) | (with_reducible exact rv_ne rfl) | ((with_reducible refine rc_lenS ?_); (first | assumption | omega | decide | (simp only [S_len] at *; omega))) | ((with_reducible refine rc_lenL ?_); assumption) | ((with_reducible apply rv_ixL); assumption; rfl) | ((with_reducible refine rv_catS ?_); (first | assumption | omega | decide | (simp only [S_len] at *; omega))) | ((with_reducible refine rv_I ?_); (first | (show (0 : Int) < _; (first | assumption | omega | decide | (simp only [S_len] at *; omega))) | exact .inr ⟨by decide, by decide⟩ | exact .inl ⟨by (first | assumption | omega | decide | (simp only [S_len] at *; omega)), by (first | assumption | omega | decide | (simp only [S_len] at *; omega))⟩ | exact .inr ⟨by (first | assumption | omega | decide | (simp only [S_len] at *; omega)), by (first | assumption | omega | decide | (simp only [S_len] at *; omega))⟩ | exact ⟨by decide, by decide, by decide⟩ | exact wide_div (b := 128) (by (first | assumption | omega | decide | (simp only [S_len] at *; omega))) (by (first | assumption | omega | decide | (simp only [S_len] at *; omega))) (by decide) (by decide))))))) (fun hc H1 e1 => ?_) (fun hc4 H4' e4' => ?_)
    · have hc2 : k = 4 := by
        have := of_decide_eq_true hc
        omega
      have hf : eF k = "board" := by rw [hc2]; rfl
      exact s_ret (ev_xo T hk (hi.ex (e0.trans e1)) hf (by exact ev_var rfl)) fun H2 e2 => q H2 ((e0.trans e1).trans e2)
    replace e0 := e0.trans e4'
    refine q_when (b := decide (k ∈ [5, 9])) (et_in [5, 9] (by exact ev_var rfl) (by exact (eu_tup (ea_cons ev_c (ea_cons ev_c ea_nil)) (by simp)))) (fun hc H1 e1 => ?_) (fun hc5 H5' e5' => ?_)
    · have hc2 := of_decide_eq_true hc
      simp only [List.mem_cons, List.not_mem_nil, or_false] at hc2
      have hf : eF k = "index" := by
        rcases hc2 with rfl | rfl <;> rfl
      exact s_ret (ev_xo T hk (hi.ex (e0.trans e1)) hf (by exact ev_var rfl)) fun H2 e2 => q H2 ((e0.trans e1).trans e2)
    replace e0 := e0.trans e5'
    refine q_when (b := decide ((k : Int) = 6)) (by first | ((with_reducible apply et_test); (repeat' (first | ((with_reducible refine ev_pow10 ?_ ?_ ?_) <;> first | rfl | decide) | (with_reducible refine fun (_ : _ = true) => ?_) | (with_reducible refine fun (_ : _ = false) => ?_) | (with_reducible exact ev_c) | ((with_reducible apply ev_var); rfl) | (with_reducible apply ev_op) | (with_reducible apply ev_un) | (with_reducible apply ev_cb) | (with_reducible apply ea_cons) | (with_reducible apply ev_andV) | (with_reducible apply ev_orV) | (with_reducible apply ev_notV) | (with_reducible apply ev_if) | (with_reducible apply eo_some) | (with_reducible apply el_lst) | (with_reducible exact ea_nil) | (with_reducible exact rv_I0) | (with_reducible exact ru_neg) | (with_reducible exact rv_ltS) | (with_reducible exact rv_inC) | (with_reducible exact rv_notInC) | (with_reducible exact rc_intI) | (with_reducible exact rc_intB) | (with_reducible exact rc_min2) | (with_reducible exact rc_isStr) | (with_reducible exact eo_none) | (with_reducible exact rv_inSS) | (with_reducible exact rv_notInSS) | (with_reducible exact rv_ltSS) | (with_reducible exact rv_eqSS) | (with_reducible exact rv_eqII) | (with_reducible exact rv_neII) | (with_reducible exact rv_neSS) | ((with_reducible refine rc_lenSS ?_); (first | assumption | omega | decide | (simp only [S_len] at *; omega))) | ((with_reducible refine rc_lenStr ?_); (first | assumption | omega | decide | (simp only [S_len] at *; omega))) | ((with_reducible refine rv_catSS ?_); (first | assumption | omega | decide | (simp only [S_len] at *; omega))) | (with_reducible exact rv_eq rfl) | (with_reducible exact rv_ne rfl) | ((with_reducible refine rc_lenS ?_); (first | assumption | omega | decide | (simp only [S_len] at *; omega))) | ((with_reducible refine rc_lenL ?_); assumption) | ((with_reducible apply rv_ixL); assumption; rfl) | ((with_reducible refine rv_catS ?_); (first | assumption | omega | decide | (simp only [S_len] at *; omega))) | ((with_reducible refine rv_I ?_); (first | (show (0 : Int) < _; (first | assumption | omega | decide | (simp only [S_len] at *; omega))) | exact .inr ⟨by decide, by decide⟩ | exact .inl ⟨by (first | assumption | omega | decide | (simp only [S_len] at *; omega)), by (first | assumption | omega | decide | (simp only [S_len] at *; omega))⟩ | exact .inr ⟨by (first | assumption | omega | decide | (simp only [S_len] at *; omega)), by (first | assumption | omega | decide | (simp only [S_len] at *; omega))⟩ | exact ⟨by decide, by decide, by decide⟩ | exact wide_div (b := 128) (by (first | assumption | omega | decide | (simp only [S_len] at *; omega))) (by (first | assumption | omega | decide | (simp only [S_len] at *; omega))) (by decide) (by decide)))))) | ((with_reducible apply et_B); (repeat' (first | ((with_reducible refine ev_pow10 ?_ ?_ ?_) <;> first | rfl | decide) | (with_reducible refine fun (_ : _ = true) => ?_) | (with_reducible refine fun (_ : _ = false) => ?_) | (with_reducible exact ev_c) | ((with_reducible apply ev_var); rfl) | (with_reducible apply ev_op) | (with_reducible apply ev_un) | (with_reducible apply ev_cb) | (with_reducible apply ea_cons) | (with_reducible apply ev_andV) | (with_reducible apply ev_orV) | (with_reducible apply ev_notV) | (with_reducible apply ev_if) | (with_reducible apply eo_some) | (with_reducible apply el_lst) | (with_reducible exact ea_nil) | (with_reducible exact rv_I0) | (with_reducible exact ru_neg) | (with_reducible exact rv_ltS) | (with_reducible exact rv_inC) | (with_reducible exact rv_notInC) | (with_reducible exact rc_intI) | (with_reducible exact rc_intB) | (with_reducible exact rc_min2) | (with_reducible exact rc_isStr) | (with_reducible exact eo_none) | (with_reducible exact rv_inSS) | (with_reducible exact rv_notInSS) | (with_reducible exact rv_ltSS) | (with_reducible exact rv_eqSS) | (with_reducible exact rv_eqII) | (with_reducible exact rv_neII) | (with_reducible exact rv_neSS) | ((with_reducible refine rc_lenSS ?_); (first | assumption | omega | decide | (simp only [S_len] at *; omega))) | ((with_reducible refine rc_lenStr ?_); (first | assumption | omega | decide | (simp only [S_len] at *; omega))) | ((with_reducible refine rv_catSS ?_); (first | assumption | omega | decide | (simp only [S_len] at *; omega))) | (with_reducible exact rv_eq rfl) | (with_reducible exact rv_ne rfl) | ((with_reducible refine rc_lenS ?_); (first | assumption | omega | decide | (simp only [S_len] at *; omega))) | ((with_reducible refine rc_lenL ?_); assumption) | ((with_reducible apply rv_ixL); assumption; rfl) | ((with_reducible refine rv_catS ?_); (first | assumption | omega | decide | (simp only [S_len] at *; omega))) | ((with_reducible refine rv_I ?_); (first | (show (0 : Int) < _; (first | assumption | omega | decide | (simp only [S_len] at *; omega))) | exact .inr ⟨by decide, by decide⟩ | exact .inl ⟨by (first | assumption | omega | decide | (simp only [S_len] at *; omega)), by (first | assumption | omega | decide | (simp only [S_len] at *; omega))⟩ | exact .inr ⟨by (first | assumption | omega | decide | (simp only [S_len] at *; omega)), by (first | assumption | omega | decide | (simp only [S_len] at *; omega))⟩ | exact ⟨by decide, by decide, by decide⟩ | exact wide_div (b := 128) (by (first | assumption | omega | decide | (simp only [S_len] at *; omega))) (by (first | assumption | omega | decide | (simp only [S_len] at *; omega))) (by decide) (by decide))))))) (fun hc H1 e1 => ?_) (fun hc6 H6' e6' => ?_)
    · have hc2 : k = 6 := by
        have := of_decide_eq_true hc
        omega
      have hf : eF k = "limit" := by rw [hc2]; rfl
      exact s_ret (ev_xo T hk (hi.ex (e0.trans e1)) hf (by exact ev_var rfl)) fun H2 e2 => q H2 ((e0.trans e1).trans e2)
    replace e0 := e0.trans e6'
    refine q_when (b := decide ((k : Int) = 8)) (by first | ((with_reducible apply et_test); (repeat' (first | ((with_reducible refine ev_pow10 ?_ ?_ ?_) <;> first | rfl | decide) | (with_reducible refine fun (_ : _ = true) => ?_) | (with_reducible refine fun (_ : _ = false) => ?_) | (with_reducible exact ev_c) | ((with_reducible apply ev_var); rfl) | (with_reducible apply ev_op) | (with_reducible apply ev_un) | (with_reducible apply ev_cb) | (with_reducible apply ea_cons) | (with_reducible apply ev_andV) | (with_reducible apply ev_orV) | (with_reducible apply ev_notV) | (with_reducible apply ev_if) | (with_reducible apply eo_some) | (with_reducible apply el_lst) | (with_reducible exact ea_nil) | (with_reducible exact rv_I0) | (with_reducible exact ru_neg) | (with_reducible exact rv_ltS) | (with_reducible exact rv_inC) | (with_reducible exact rv_notInC) | (with_reducible exact rc_intI) | (with_reducible exact rc_intB) | (with_reducible exact rc_min2) | (with_reducible exact rc_isStr) | (with_reducible exact eo_none) | (with_reducible exact rv_inSS) | (with_reducible exact rv_notInSS) | (with_reducible exact rv_ltSS) | (with_reducible exact rv_eqSS) | (with_reducible exact rv_eqII) | (with_reducible exact rv_neII) | (with_reducible exact rv_neSS) | ((with_reducible refine rc_lenSS ?_); (first | assumption | omega | decide | (simp only [S_len] at *; omega))) | ((with_reducible refine rc_lenStr ?_); (first | assumption | omega | decide | (simp only [S_len] at *; omega))) | ((with_reducible refine rv_catSS ?_); (first | assumption | omega | decide | (simp only [S_len] at *; omega))) | (with_reducible exact rv_eq rfl) | (with_reducible exact rv_ne rfl) | ((with_reducible refine rc_lenS ?_); (first | assumption | omega | decide | (simp only [S_len] at *; omega))) | ((with_reducible refine rc_lenL ?_); assumption) | ((with_reducible apply rv_ixL); assumption; rfl) | ((with_reducible refine rv_catS ?_); (first | assumption | omega | decide | (simp only [S_len] at *; omega))) | ((with_reducible refine rv_I ?_); (first | (show (0 : Int) < _; (first | assumption | omega | decide | (simp only [S_len] at *; omega))) | exact .inr ⟨by decide, by decide⟩ | exact .inl ⟨by (first | assumption | omega | decide | (simp only [S_len] at *; omega)), by (first | assumption | omega | decide | (simp only [S_len] at *; omega))⟩ | exact .inr ⟨by (first | assumption | omega | decide | (simp only [S_len] at *; omega)), by (first | assumption | omega | decide | (simp only [S_len] at *; omega))⟩ | exact ⟨by decide, by decide, by decide⟩ | exact wide_div (b := 128) (by (first | assumption | omega | decide | (simp only [S_len] at *; omega))) (by (first | assumption | omega | decide | (simp only [S_len] at *; omega))) (by decide) (by decide)))))) | ((with_reducible apply et_B); (repeat' (first | ((with_reducible refine ev_pow10 ?_ ?_ ?_) <;> first | rfl | decide) | (with_reducible refine fun (_ : _ = true) => ?_) | (with_reducible refine fun (_ : _ = false) => ?_) | (with_reducible exact ev_c) | ((with_reducible apply ev_var); rfl) | (with_reducible apply ev_op) | (with_reducible apply ev_un) | (with_reducible apply ev_cb) | (with_reducible apply ea_cons) | (with_reducible apply ev_andV) | (with_reducible apply ev_orV) | (with_reducible apply ev_notV) | (with_reducible apply ev_if) | (with_reducible apply eo_some) | (with_reducible apply el_lst) | (with_reducible exact ea_nil) | (with_reducible exact rv_I0) | (with_reducible exact ru_neg) | (with_reducible exact rv_ltS) | (with_reducible exact rv_inC) | (with_reducible exact rv_notInC) | (with_reducible exact rc_intI) | (with_reducible exact rc_intB) | (with_reducible exact rc_min2) | (with_reducible exact rc_isStr) | (with_reducible exact eo_none) | (with_reducible exact rv_inSS) | (with_reducible exact rv_notInSS) | (with_reducible exact rv_ltSS) | (with_reducible exact rv_eqSS) | (with_reducible exact rv_eqII) | (with_reducible exact rv_neII) | (with_reducible exact rv_neSS) | ((with_reducible refine rc_lenSS ?_); (first | assumption | omega | decide | (simp only [S_len] at *; omega))) | ((with_reducible refine rc_lenStr ?_); (first | assumption | omega | decide | (simp only [S_len] at *; omega))) | ((with_reducible refine rv_catSS ?_); (first | assumption | omega | decide | (simp only [S_len] at *; omega))) | (with_reducible exact rv_eq rfl) | (with_reducible exact rv_ne rfl) | ((with_reducible refine rc_lenS ?_); (first | assumption | omega | decide | (simp only [S_len] at *; omega))) | ((with_reducible refine rc_lenL ?_); assumption) | ((with_reducible apply rv_ixL); assumption; rfl) | ((with_reducible refine rv_catS ?_); (first | assumption | omega | decide | (simp only [S_len] at *; omega))) | ((with_reducible refine rv_I ?_); (first | (show (0 : Int) < _; (first | assumption | omega | decide | (simp only [S_len] at *; omega))) | exact .inr ⟨by decide, by decide⟩ | exact .inl ⟨by (first | assumption | omega | decide | (simp only [S_len] at *; omega)), by (first | assumption | omega | decide | (simp only [S_len] at *; omega))⟩ | exact .inr ⟨by (first | assumption | omega | decide | (simp only [S_len] at *; omega)), by (first | assumption | omega | decide | (simp only [S_len] at *; omega))⟩ | exact ⟨by decide, by decide, by decide⟩ | exact wide_div (b := 128) (by (first | assumption | omega | decide | (simp only [S_len] at *; omega))) (by (first | assumption | omega | decide | (simp only [S_len] at *; omega))) (by decide) (by decide))))))) (fun hc H1 e1 => ?_) (fun hc7 H7' e7' => ?_)
    · have hc2 : k = 8 := by
        have := of_decide_eq_true hc
        omega
      have hf : eF k = "signs" := by rw [hc2]; rfl
      exact s_ret (ev_xo T hk (hi.ex (e0.trans e1)) hf (by exact ev_var rfl)) fun H2 e2 => q H2 ((e0.trans e1).trans e2)
    replace e0 := e0.trans e7'
    refine q_when (b := decide ((k : Int) = 12)) (by first | ((with_reducible apply et_test); (repeat' (first | ((with_reducible refine ev_pow10 ?_ ?_ ?_) <;> first | rfl | decide) | (with_reducible refine fun (_ : _ = true) => ?_) | (with_reducible refine fun (_ : _ = false) => ?_) | (with_reducible exact ev_c) | ((with_reducible apply ev_var); rfl) | (with_reducible apply ev_op) | (with_reducible apply ev_un) | (with_reducible apply ev_cb) | (with_reducible apply ea_cons) | (with_reducible apply ev_andV) | (with_reducible apply ev_orV) | (with_reducible apply ev_notV) | (with_reducible apply ev_if) | (with_reducible apply eo_some) | (with_reducible apply el_lst) | (with_reducible exact ea_nil) | (with_reducible exact rv_I0) | (with_reducible exact ru_neg) | (with_reducible exact rv_ltS) | (with_reducible exact rv_inC) | (with_reducible exact rv_notInC) | (with_reducible exact rc_intI) | (with_reducible exact rc_intB) | (with_reducible exact rc_min2) | (with_reducible exact rc_isStr) | (with_reducible exact eo_none) | (with_reducible exact rv_inSS) | (with_reducible exact rv_notInSS) | (with_reducible exact rv_ltSS) | (with_reducible exact rv_eqSS) | (with_reducible exact rv_eqII) | (with_reducible exact rv_neII) | (with_reducible exact rv_neSS) | ((with_reducible refine rc_lenSS ?_); (first | assumption | omega | decide | (simp only [S_len] at *; omega))) | ((with_reducible refine rc_lenStr ?_); (first | assumption | omega | decide | (simp only [S_len] at *; omega))) | ((with_reducible refine rv_catSS ?_); (first | assumption | omega | decide | (simp only [S_len] at *; omega))) | (with_reducible exact rv_eq rfl) | (with_reducible exact rv_ne rfl) | ((with_reducible refine rc_lenS ?_); (first | assumption | omega | decide | (simp only [S_len] at *; omega))) | ((with_reducible refine rc_lenL ?_); assumption) | ((with_reducible apply rv_ixL); assumption; rfl) | ((with_reducible refine rv_catS ?_); (first | assumption | omega | decide | (simp only [S_len] at *; omega))) | ((with_reducible refine rv_I ?_); (first | (show (0 : Int) < _; (first | assumption | omega | decide | (simp only [S_len] at *; omega))) | exact .inr ⟨by decide, by decide⟩ | exact .inl ⟨by (first | assumption | omega | decide | (simp only [S_len] at *; omega)), by (first | assumption | omega | decide | (simp only [S_len] at *; omega))⟩ | exact .inr ⟨by (first | assumption | omega | decide | (simp only [S_len] at *; omega)), by (first | assumption | omega | decide | (simp only [S_len] at *; omega))⟩ | exact ⟨by decide, by decide, by decide⟩ | exact wide_div (b := 128) (by (first | assumption | omega | decide | (simp only [S_len] at *; omega))) (by (first | assumption | omega | decide | (simp only [S_len] at *; omega))) (by decide) (by decide)))))) | ((with_reducible apply et_B); (repeat' (first | ((with_reducible refine ev_pow10 ?_ ?_ ?_) <;> first | rfl | decide) | (with_reducible refine fun (_ : _ = true) => ?_) | (with_reducible refine fun (_ : _ = false) => ?_) | (with_reducible exact ev_c) | ((with_reducible apply ev_var); rfl) | (with_reducible apply ev_op) | (with_reducible apply ev_un) | (with_reducible apply ev_cb) | (with_reducible apply ea_cons) | (with_reducible apply ev_andV) | (with_reducible apply ev_orV) | (with_reducible apply ev_notV) | (with_reducible apply ev_if) | (with_reducible apply eo_some) | (with_reducible apply el_lst) | (with_reducible exact ea_nil) | (with_reducible exact rv_I0) | (with_reducible exact ru_neg) | (with_reducible exact rv_ltS) | (with_reducible exact rv_inC) | (with_reducible exact rv_notInC) | (with_reducible exact rc_intI) | (with_reducible exact rc_intB) | (with_reducible exact rc_min2) | (with_reducible exact rc_isStr) | (with_reducible exact eo_none) | (with_reducible exact rv_inSS) | (with_reducible exact rv_notInSS) | (with_reducible exact rv_ltSS) | (with_reducible exact rv_eqSS) | (with_reducible exact rv_eqII) | (with_reducible exact rv_neII) | (with_reducible exact rv_neSS) | ((with_reducible refine rc_lenSS ?_); (first | assumption | omega | decide | (simp only [S_len] at *; omega))) | ((with_reducible refine rc_lenStr ?_); (first | assumption | omega | decide | (simp only [S_len] at *; omega))) | ((with_reducible refine rv_catSS ?_); (first | assumption | omega | decide | (simp only [S_len] at *; omega))) | (with_reducible exact rv_eq rfl) | (with_reducible exact rv_ne rfl) | ((with_reducible refine rc_lenS ?_); (first | assumption | omega | decide | (simp only [S_len] at *; omega))) | ((with_reducible refine rc_lenL ?_); assumption) | ((with_reducible apply rv_ixL); assumption; rfl) | ((with_reducible refine rv_catS ?_); (first | assumption | omega | decide | (simp only [S_len] at *; omega))) | ((with_reducible refine rv_I ?_); (first | (show (0 : Int) < _; (first | assumption | omega | decide | (simp only [S_len] at *; omega))) | exact .inr ⟨by decide, by decide⟩ | exact .inl ⟨by (first | assumption | omega | decide | (simp only [S_len] at *; omega)), by (first | assumption | omega | decide | (simp only [S_len] at *; omega))⟩ | exact .inr ⟨by (first | assumption | omega | decide | (simp only [S_len] at *; omega)), by (first | assumption | omega | decide | (simp only [S_len] at *; omega))⟩ | exact ⟨by decide, by decide, by decide⟩ | exact wide_div (b := 128) (by (first | assumption | omega | decide | (simp only [S_len] at *; omega))) (by (first | assumption | omega | decide | (simp only [S_len] at *; omega))) (by decide) (by decide))))))) (fun hc H1 e1 => ?_) (fun hc8 H8' e8' => ?_)
    · have hc2 : k = 12 := by
        have := of_decide_eq_true hc
        omega
      have hf : eF k = "most" := by rw [hc2]; rfl
      exact s_ret (ev_xo T hk (hi.ex (e0.trans e1)) hf (by exact ev_var rfl)) fun H2 e2 => q H2 ((e0.trans e1).trans e2)
    replace e0 := e0.trans e8'
    refine q_when (b := decide ((k : Int) = 13)) (by first | ((with_reducible apply et_test); (repeat' (first | ((with_reducible refine ev_pow10 ?_ ?_ ?_) <;> first | rfl | decide) | (with_reducible refine fun (_ : _ = true) => ?_) | (with_reducible refine fun (_ : _ = false) => ?_) | (with_reducible exact ev_c) | ((with_reducible apply ev_var); rfl) | (with_reducible apply ev_op) | (with_reducible apply ev_un) | (with_reducible apply ev_cb) | (with_reducible apply ea_cons) | (with_reducible apply ev_andV) | (with_reducible apply ev_orV) | (with_reducible apply ev_notV) | (with_reducible apply ev_if) | (with_reducible apply eo_some) | (with_reducible apply el_lst) | (with_reducible exact ea_nil) | (with_reducible exact rv_I0) | (with_reducible exact ru_neg) | (with_reducible exact rv_ltS) | (with_reducible exact rv_inC) | (with_reducible exact rv_notInC) | (with_reducible exact rc_intI) | (with_reducible exact rc_intB) | (with_reducible exact rc_min2) | (with_reducible exact rc_isStr) | (with_reducible exact eo_none) | (with_reducible exact rv_inSS) | (with_reducible exact rv_notInSS) | (with_reducible exact rv_ltSS) | (with_reducible exact rv_eqSS) | (with_reducible exact rv_eqII) | (with_reducible exact rv_neII) | (with_reducible exact rv_neSS) | ((with_reducible refine rc_lenSS ?_); (first | assumption | omega | decide | (simp only [S_len] at *; omega))) | ((with_reducible refine rc_lenStr ?_); (first | assumption | omega | decide | (simp only [S_len] at *; omega))) | ((with_reducible refine rv_catSS ?_); (first | assumption | omega | decide | (simp only [S_len] at *; omega))) | (with_reducible exact rv_eq rfl) | (with_reducible exact rv_ne rfl) | ((with_reducible refine rc_lenS ?_); (first | assumption | omega | decide | (simp only [S_len] at *; omega))) | ((with_reducible refine rc_lenL ?_); assumption) | ((with_reducible apply rv_ixL); assumption; rfl) | ((with_reducible refine rv_catS ?_); (first | assumption | omega | decide | (simp only [S_len] at *; omega))) | ((with_reducible refine rv_I ?_); (first | (show (0 : Int) < _; (first | assumption | omega | decide | (simp only [S_len] at *; omega))) | exact .inr ⟨by decide, by decide⟩ | exact .inl ⟨by (first | assumption | omega | decide | (simp only [S_len] at *; omega)), by (first | assumption | omega | decide | (simp only [S_len] at *; omega))⟩ | exact .inr ⟨by (first | assumption | omega | decide | (simp only [S_len] at *; omega)), by (first | assumption | omega | decide | (simp only [S_len] at *; omega))⟩ | exact ⟨by decide, by decide, by decide⟩ | exact wide_div (b := 128) (by (first | assumption | omega | decide | (simp only [S_len] at *; omega))) (by (first | assumption | omega | decide | (simp only [S_len] at *; omega))) (by decide) (by decide)))))) | ((with_reducible apply et_B); (repeat' (first | ((with_reducible refine ev_pow10 ?_ ?_ ?_) <;> first | rfl | decide) | (with_reducible refine fun (_ : _ = true) => ?_) | (with_reducible refine fun (_ : _ = false) => ?_) | (with_reducible exact ev_c) | ((with_reducible apply ev_var); rfl) | (with_reducible apply ev_op) | (with_reducible apply ev_un) | (with_reducible apply ev_cb) | (with_reducible apply ea_cons) | (with_reducible apply ev_andV) | (with_reducible apply ev_orV) | (with_reducible apply ev_notV) | (with_reducible apply ev_if) | (with_reducible apply eo_some) | (with_reducible apply el_lst) | (with_reducible exact ea_nil) | (with_reducible exact rv_I0) | (with_reducible exact ru_neg) | (with_reducible exact rv_ltS) | (with_reducible exact rv_inC) | (with_reducible exact rv_notInC) | (with_reducible exact rc_intI) | (with_reducible exact rc_intB) | (with_reducible exact rc_min2) | (with_reducible exact rc_isStr) | (with_reducible exact eo_none) | (with_reducible exact rv_inSS) | (with_reducible exact rv_notInSS) | (with_reducible exact rv_ltSS) | (with_reducible exact rv_eqSS) | (with_reducible exact rv_eqII) | (with_reducible exact rv_neII) | (with_reducible exact rv_neSS) | ((with_reducible refine rc_lenSS ?_); (first | assumption | omega | decide | (simp only [S_len] at *; omega))) | ((with_reducible refine rc_lenStr ?_); (first | assumption | omega | decide | (simp only [S_len] at *; omega))) | ((with_reducible refine rv_catSS ?_); (first | assumption | omega | decide | (simp only [S_len] at *; omega))) | (with_reducible exact rv_eq rfl) | (with_reducible exact rv_ne rfl) | ((with_reducible refine rc_lenS ?_); (first | assumption | omega | decide | (simp only [S_len] at *; omega))) | ((with_reducible refine rc_lenL ?_); assumption) | ((with_reducible apply rv_ixL); assumption; rfl) | ((with_reducible refine rv_catS ?_); (first | assumption | omega | decide | (simp only [S_len] at *; omega))) | ((with_reducible refine rv_I ?_); (first | (show (0 : Int) < _; (first | assumption | omega | decide | (simp only [S_len] at *; omega))) | exact .inr ⟨by decide, by decide⟩ | exact .inl ⟨by (first | assumption | omega | decide | (simp only [S_len] at *; omega)), by (first | assumption | omega | decide | (simp only [S_len] at *; omega))⟩ | exact .inr ⟨by (first | assumption | omega | decide | (simp only [S_len] at *; omega)), by (first | assumption | omega | decide | (simp only [S_len] at *; omega))⟩ | exact ⟨by decide, by decide, by decide⟩ | exact wide_div (b := 128) (by (first | assumption | omega | decide | (simp only [S_len] at *; omega))) (by (first | assumption | omega | decide | (simp only [S_len] at *; omega))) (by decide) (by decide))))))) (fun hc H1 e1 => ?_) (fun hc9 H9' e9' => ?_)
    · have hc2 : k = 13 := by
        have := of_decide_eq_true hc
        omega
      have hf : eF k = "measure" := by rw [hc2]; rfl
      exact s_ret (ev_xo T hk (hi.ex (e0.trans e1)) hf (by exact ev_var rfl)) fun H2 e2 => q H2 ((e0.trans e1).trans e2)
    replace e0 := e0.trans e9'
    refine q_when (b := decide ((k : Int) = 15)) (by first | ((with_reducible apply et_test); (repeat' (first | ((with_reducible refine ev_pow10 ?_ ?_ ?_) <;> first | rfl | decide) | (with_reducible refine fun (_ : _ = true) => ?_) | (with_reducible refine fun (_ : _ = false) => ?_) | (with_reducible exact ev_c) | ((with_reducible apply ev_var); rfl) | (with_reducible apply ev_op) | (with_reducible apply ev_un) | (with_reducible apply ev_cb) | (with_reducible apply ea_cons) | (with_reducible apply ev_andV) | (with_reducible apply ev_orV) | (with_reducible apply ev_notV) | (with_reducible apply ev_if) | (with_reducible apply eo_some) | (with_reducible apply el_lst) | (with_reducible exact ea_nil) | (with_reducible exact rv_I0) | (with_reducible exact ru_neg) | (with_reducible exact rv_ltS) | (with_reducible exact rv_inC) | (with_reducible exact rv_notInC) | (with_reducible exact rc_intI) | (with_reducible exact rc_intB) | (with_reducible exact rc_min2) | (with_reducible exact rc_isStr) | (with_reducible exact eo_none) | (with_reducible exact rv_inSS) | (with_reducible exact rv_notInSS) | (with_reducible exact rv_ltSS) | (with_reducible exact rv_eqSS) | (with_reducible exact rv_eqII) | (with_reducible exact rv_neII) | (with_reducible exact rv_neSS) | ((with_reducible refine rc_lenSS ?_); (first | assumption | omega | decide | (simp only [S_len] at *; omega))) | ((with_reducible refine rc_lenStr ?_); (first | assumption | omega | decide | (simp only [S_len] at *; omega))) | ((with_reducible refine rv_catSS ?_); (first | assumption | omega | decide | (simp only [S_len] at *; omega))) | (with_reducible exact rv_eq rfl) | (with_reducible exact rv_ne rfl) | ((with_reducible refine rc_lenS ?_); (first | assumption | omega | decide | (simp only [S_len] at *; omega))) | ((with_reducible refine rc_lenL ?_); assumption) | ((with_reducible apply rv_ixL); assumption; rfl) | ((with_reducible refine rv_catS ?_); (first | assumption | omega | decide | (simp only [S_len] at *; omega))) | ((with_reducible refine rv_I ?_); (first | (show (0 : Int) < _; (first | assumption | omega | decide | (simp only [S_len] at *; omega))) | exact .inr ⟨by decide, by decide⟩ | exact .inl ⟨by (first | assumption | omega | decide | (simp only [S_len] at *; omega)), by (first | assumption | omega | decide | (simp only [S_len] at *; omega))⟩ | exact .inr ⟨by (first | assumption | omega | decide | (simp only [S_len] at *; omega)), by (first | assumption | omega | decide | (simp only [S_len] at *; omega))⟩ | exact ⟨by decide, by decide, by decide⟩ | exact wide_div (b := 128) (by (first | assumption | omega | decide | (simp only [S_len] at *; omega))) (by (first | assumption | omega | decide | (simp only [S_len] at *; omega))) (by decide) (by decide)))))) | ((with_reducible apply et_B); (repeat' (first | ((with_reducible refine ev_pow10 ?_ ?_ ?_) <;> first | rfl | decide) | (with_reducible refine fun (_ : _ = true) => ?_) | (with_reducible refine fun (_ : _ = false) => ?_) | (with_reducible exact ev_c) | ((with_reducible apply ev_var); rfl) | (with_reducible apply ev_op) | (with_reducible apply ev_un) | (with_reducible apply ev_cb) | (with_reducible apply ea_cons) | (with_reducible apply ev_andV) | (with_reducible apply ev_orV) | (with_reducible apply ev_notV) | (with_reducible apply ev_if) | (with_reducible apply eo_some) | (with_reducible apply el_lst) | (with_reducible exact ea_nil) | (with_reducible exact rv_I0) | (with_reducible exact ru_neg) | (with_reducible exact rv_ltS) | (with_reducible exact rv_inC) | (with_reducible exact rv_notInC) | (with_reducible exact rc_intI) | (with_reducible exact rc_intB) | (with_reducible exact rc_min2) | (with_reducible exact rc_isStr) | (with_reducible exact eo_none) | (with_reducible exact rv_inSS) | (with_reducible exact rv_notInSS) | (with_reducible exact rv_ltSS) | (with_reducible exact rv_eqSS) | (with_reducible exact rv_eqII) | (with_reducible exact rv_neII) | (with_reducible exact rv_neSS) | ((with_reducible refine rc_lenSS ?_); (first | assumption | omega | decide | (simp only [S_len] at *; omega))) | ((with_reducible refine rc_lenStr ?_); (first | assumption | omega | decide | (simp only [S_len] at *; omega))) | ((with_reducible refine rv_catSS ?_); (first | assumption | omega | decide | (simp only [S_len] at *; omega))) | (with_reducible exact rv_eq rfl) | (with_reducible exact rv_ne rfl) | ((with_reducible refine rc_lenS ?_); (first | assumption | omega | decide | (simp only [S_len] at *; omega))) | ((with_reducible refine rc_lenL ?_); assumption) | ((with_reducible apply rv_ixL); assumption; rfl) | ((with_reducible refine rv_catS ?_); (first | assumption | omega | decide | (simp only [S_len] at *; omega))) | ((with_reducible refine rv_I ?_); (first | (show (0 : Int) < _; (first | assumption | omega | decide | (simp only [S_len] at *; omega))) | exact .inr ⟨by decide, by decide⟩ | exact .inl ⟨by (first | assumption | omega | decide | (simp only [S_len] at *; omega)), by (first | assumption | omega | decide | (simp only [S_len] at *; omega))⟩ | exact .inr ⟨by (first | assumption | omega | decide | (simp only [S_len] at *; omega)), by (first | assumption | omega | decide | (simp only [S_len] at *; omega))⟩ | exact ⟨by decide, by decide, by decide⟩ | exact wide_div (b := 128) (by (first | assumption | omega | decide | (simp only [S_len] at *; omega))) (by (first | assumption | omega | decide | (simp only [S_len] at *; omega))) (by decide) (by decide))))))) (fun hc H1 e1 => ?_) (fun hc10 H10' e10' => ?_)
    · have hc2 : k = 15 := by
        have := of_decide_eq_true hc
        omega
      have hf : eF k = "sight" := by rw [hc2]; rfl
      exact s_ret (ev_xo T hk (hi.ex (e0.trans e1)) hf (by exact ev_var rfl)) fun H2 e2 => q H2 ((e0.trans e1).trans e2)
    replace e0 := e0.trans e10'
    refine q_when (b := decide ((k : Int) = 16)) (by first | ((with_reducible apply et_test); (repeat' (first | ((with_reducible refine ev_pow10 ?_ ?_ ?_) <;> first | rfl | decide) | (with_reducible refine fun (_ : _ = true) => ?_) | (with_reducible refine fun (_ : _ = false) => ?_) | (with_reducible exact ev_c) | ((with_reducible apply ev_var); rfl) | (with_reducible apply ev_op) | (with_reducible apply ev_un) | (with_reducible apply ev_cb) | (with_reducible apply ea_cons) | (with_reducible apply ev_andV) | (with_reducible apply ev_orV) | (with_reducible apply ev_notV) | (with_reducible apply ev_if) | (with_reducible apply eo_some) | (with_reducible apply el_lst) | (with_reducible exact ea_nil) | (with_reducible exact rv_I0) | (with_reducible exact ru_neg) | (with_reducible exact rv_ltS) | (with_reducible exact rv_inC) | (with_reducible exact rv_notInC) | (with_reducible exact rc_intI) | (with_reducible exact rc_intB) | (with_reducible exact rc_min2) | (with_reducible exact rc_isStr) | (with_reducible exact eo_none) | (with_reducible exact rv_inSS) | (with_reducible exact rv_notInSS) | (with_reducible exact rv_ltSS) | (with_reducible exact rv_eqSS) | (with_reducible exact rv_eqII) | (with_reducible exact rv_neII) | (with_reducible exact rv_neSS) | ((with_reducible refine rc_lenSS ?_); (first | assumption | omega | decide | (simp only [S_len] at *; omega))) | ((with_reducible refine rc_lenStr ?_); (first | assumption | omega | decide | (simp only [S_len] at *; omega))) | ((with_reducible refine rv_catSS ?_); (first | assumption | omega | decide | (simp only [S_len] at *; omega))) | (with_reducible exact rv_eq rfl) | (with_reducible exact rv_ne rfl) | ((with_reducible refine rc_lenS ?_); (first | assumption | omega | decide | (simp only [S_len] at *; omega))) | ((with_reducible refine rc_lenL ?_); assumption) | ((with_reducible apply rv_ixL); assumption; rfl) | ((with_reducible refine rv_catS ?_); (first | assumption | omega | decide | (simp only [S_len] at *; omega))) | ((with_reducible refine rv_I ?_); (first | (show (0 : Int) < _; (first | assumption | omega | decide | (simp only [S_len] at *; omega))) | exact .inr ⟨by decide, by decide⟩ | exact .inl ⟨by (first | assumption | omega | decide | (simp only [S_len] at *; omega)), by (first | assumption | omega | decide | (simp only [S_len] at *; omega))⟩ | exact .inr ⟨by (first | assumption | omega | decide | (simp only [S_len] at *; omega)), by (first | assumption | omega | decide | (simp only [S_len] at *; omega))⟩ | exact ⟨by decide, by decide, by decide⟩ | exact wide_div (b := 128) (by (first | assumption | omega | decide | (simp only [S_len] at *; omega))) (by (first | assumption | omega | decide | (simp only [S_len] at *; omega))) (by decide) (by decide)))))) | ((with_reducible apply et_B); (repeat' (first | ((with_reducible refine ev_pow10 ?_ ?_ ?_) <;> first | rfl | decide) | (with_reducible refine fun (_ : _ = true) => ?_) | (with_reducible refine fun (_ : _ = false) => ?_) | (with_reducible exact ev_c) | ((with_reducible apply ev_var); rfl) | (with_reducible apply ev_op) | (with_reducible apply ev_un) | (with_reducible apply ev_cb) | (with_reducible apply ea_cons) | (with_reducible apply ev_andV) | (with_reducible apply ev_orV) | (with_reducible apply ev_notV) | (with_reducible apply ev_if) | (with_reducible apply eo_some) | (with_reducible apply el_lst) | (with_reducible exact ea_nil) | (with_reducible exact rv_I0) | (with_reducible exact ru_neg) | (with_reducible exact rv_ltS) | (with_reducible exact rv_inC) | (with_reducible exact rv_notInC) | (with_reducible exact rc_intI) | (with_reducible exact rc_intB) | (with_reducible exact rc_min2) | (with_reducible exact rc_isStr) | (with_reducible exact eo_none) | (with_reducible exact rv_inSS) | (with_reducible exact rv_notInSS) | (with_reducible exact rv_ltSS) | (with_reducible exact rv_eqSS) | (with_reducible exact rv_eqII) | (with_reducible exact rv_neII) | (with_reducible exact rv_neSS) | ((with_reducible refine rc_lenSS ?_); (first | assumption | omega | decide | (simp only [S_len] at *; omega))) | ((with_reducible refine rc_lenStr ?_); (first | assumption | omega | decide | (simp only [S_len] at *; omega))) | ((with_reducible refine rv_catSS ?_); (first | assumption | omega | decide | (simp only [S_len] at *; omega))) | (with_reducible exact rv_eq rfl) | (with_reducible exact rv_ne rfl) | ((with_reducible refine rc_lenS ?_); (first | assumption | omega | decide | (simp only [S_len] at *; omega))) | ((with_reducible refine rc_lenL ?_); assumption) | ((with_reducible apply rv_ixL); assumption; rfl) | ((with_reducible refine rv_catS ?_); (first | assumption | omega | decide | (simp only [S_len] at *; omega))) | ((with_reducible refine rv_I ?_); (first | (show (0 : Int) < _; (first | assumption | omega | decide | (simp only [S_len] at *; omega))) | exact .inr ⟨by decide, by decide⟩ | exact .inl ⟨by (first | assumption | omega | decide | (simp only [S_len] at *; omega)), by (first | assumption | omega | decide | (simp only [S_len] at *; omega))⟩ | exact .inr ⟨by (first | assumption | omega | decide | (simp only [S_len] at *; omega)), by (first | assumption | omega | decide | (simp only [S_len] at *; omega))⟩ | exact ⟨by decide, by decide, by decide⟩ | exact wide_div (b := 128) (by (first | assumption | omega | decide | (simp only [S_len] at *; omega))) (by (first | assumption | omega | decide | (simp only [S_len] at *; omega))) (by decide) (by decide))))))) (fun hc H1 e1 => ?_) (fun hc11 H11' e11' => ?_)
    · have hc2 : k = 16 := by
        have := of_decide_eq_true hc
        omega
      have hf : eF k = "fact" := by rw [hc2]; rfl
      exact s_ret (ev_xo T hk (hi.ex (e0.trans e1)) hf (by exact ev_var rfl)) fun H2 e2 => q H2 ((e0.trans e1).trans e2)
    replace e0 := e0.trans e11'
    refine q_when (b := decide ((k : Int) = 17)) (by first | ((with_reducible apply et_test); (repeat' (first | ((with_reducible refine ev_pow10 ?_ ?_ ?_) <;> first | rfl | decide) | (with_reducible refine fun (_ : _ = true) => ?_) | (with_reducible refine fun (_ : _ = false) => ?_) | (with_reducible exact ev_c) | ((with_reducible apply ev_var); rfl) | (with_reducible apply ev_op) | (with_reducible apply ev_un) | (with_reducible apply ev_cb) | (with_reducible apply ea_cons) | (with_reducible apply ev_andV) | (with_reducible apply ev_orV) | (with_reducible apply ev_notV) | (with_reducible apply ev_if) | (with_reducible apply eo_some) | (with_reducible apply el_lst) | (with_reducible exact ea_nil) | (with_reducible exact rv_I0) | (with_reducible exact ru_neg) | (with_reducible exact rv_ltS) | (with_reducible exact rv_inC) | (with_reducible exact rv_notInC) | (with_reducible exact rc_intI) | (with_reducible exact rc_intB) | (with_reducible exact rc_min2) | (with_reducible exact rc_isStr) | (with_reducible exact eo_none) | (with_reducible exact rv_inSS) | (with_reducible exact rv_notInSS) | (with_reducible exact rv_ltSS) | (with_reducible exact rv_eqSS) | (with_reducible exact rv_eqII) | (with_reducible exact rv_neII) | (with_reducible exact rv_neSS) | ((with_reducible refine rc_lenSS ?_); (first | assumption | omega | decide | (simp only [S_len] at *; omega))) | ((with_reducible refine rc_lenStr ?_); (first | assumption | omega | decide | (simp only [S_len] at *; omega))) | ((with_reducible refine rv_catSS ?_); (first | assumption | omega | decide | (simp only [S_len] at *; omega))) | (with_reducible exact rv_eq rfl) | (with_reducible exact rv_ne rfl) | ((with_reducible refine rc_lenS ?_); (first | assumption | omega | decide | (simp only [S_len] at *; omega))) | ((with_reducible refine rc_lenL ?_); assumption) | ((with_reducible apply rv_ixL); assumption; rfl) | ((with_reducible refine rv_catS ?_); (first | assumption | omega | decide | (simp only [S_len] at *; omega))) | ((with_reducible refine rv_I ?_); (first | (show (0 : Int) < _; (first | assumption | omega | decide | (simp only [S_len] at *; omega))) | exact .inr ⟨by decide, by decide⟩ | exact .inl ⟨by (first | assumption | omega | decide | (simp only [S_len] at *; omega)), by (first | assumption | omega | decide | (simp only [S_len] at *; omega))⟩ | exact .inr ⟨by (first | assumption | omega | decide | (simp only [S_len] at *; omega)), by (first | assumption | omega | decide | (simp only [S_len] at *; omega))⟩ | exact ⟨by decide, by decide, by decide⟩ | exact wide_div (b := 128) (by (first | assumption | omega | decide | (simp only [S_len] at *; omega))) (by (first | assumption | omega | decide | (simp only [S_len] at *; omega))) (by decide) (by decide)))))) | ((with_reducible apply et_B); (repeat' (first | ((with_reducible refine ev_pow10 ?_ ?_ ?_) <;> first | rfl | decide) | (with_reducible refine fun (_ : _ = true) => ?_) | (with_reducible refine fun (_ : _ = false) => ?_) | (with_reducible exact ev_c) | ((with_reducible apply ev_var); rfl) | (with_reducible apply ev_op) | (with_reducible apply ev_un) | (with_reducible apply ev_cb) | (with_reducible apply ea_cons) | (with_reducible apply ev_andV) | (with_reducible apply ev_orV) | (with_reducible apply ev_notV) | (with_reducible apply ev_if) | (with_reducible apply eo_some) | (with_reducible apply el_lst) | (with_reducible exact ea_nil) | (with_reducible exact rv_I0) | (with_reducible exact ru_neg) | (with_reducible exact rv_ltS) | (with_reducible exact rv_inC) | (with_reducible exact rv_notInC) | (with_reducible exact rc_intI) | (with_reducible exact rc_intB) | (with_reducible exact rc_min2) | (with_reducible exact rc_isStr) | (with_reducible exact eo_none) | (with_reducible exact rv_inSS) | (with_reducible exact rv_notInSS) | (with_reducible exact rv_ltSS) | (with_reducible exact rv_eqSS) | (with_reducible exact rv_eqII) | (with_reducible exact rv_neII) | (with_reducible exact rv_neSS) | ((with_reducible refine rc_lenSS ?_); (first | assumption | omega | decide | (simp only [S_len] at *; omega))) | ((with_reducible refine rc_lenStr ?_); (first | assumption | omega | decide | (simp only [S_len] at *; omega))) | ((with_reducible refine rv_catSS ?_); (first | assumption | omega | decide | (simp only [S_len] at *; omega))) | (with_reducible exact rv_eq rfl) | (with_reducible exact rv_ne rfl) | ((with_reducible refine rc_lenS ?_); (first | assumption | omega | decide | (simp only [S_len] at *; omega))) | ((with_reducible refine rc_lenL ?_); assumption) | ((with_reducible apply rv_ixL); assumption; rfl) | ((with_reducible refine rv_catS ?_); (first | assumption | omega | decide | (simp only [S_len] at *; omega))) | ((with_reducible refine rv_I ?_); (first | (show (0 : Int) < _; (first | assumption | omega | decide | (simp only [S_len] at *; omega))) | exact .inr ⟨by decide, by decide⟩ | exact .inl ⟨by (first | assumption | omega | decide | (simp only [S_len] at *; omega)), by (first | assumption | omega | decide | (simp only [S_len] at *; omega))⟩ | exact .inr ⟨by (first | assumption | omega | decide | (simp only [S_len] at *; omega)), by (first | assumption | omega | decide | (simp only [S_len] at *; omega))⟩ | exact ⟨by decide, by decide, by decide⟩ | exact wide_div (b := 128) (by (first | assumption | omega | decide | (simp only [S_len] at *; omega))) (by (first | assumption | omega | decide | (simp only [S_len] at *; omega))) (by decide) (by decide))))))) (fun hc H1 e1 => ?_) (fun hc12 H12' e12' => ?_)
    · have hc2 : k = 17 := by
        have := of_decide_eq_true hc
        omega
      have hf : eF k = "number" := by rw [hc2]; rfl
      exact s_ret (ev_xo T hk (hi.ex (e0.trans e1)) hf (by exact ev_var rfl)) fun H2 e2 => q H2 ((e0.trans e1).trans e2)
    replace e0 := e0.trans e12'
    refine q_when (b := decide ((k : Int) = 18)) (by first | ((with_reducible apply et_test); (repeat' (first | ((with_reducible refine ev_pow10 ?_ ?_ ?_) <;> first | rfl | decide) | (with_reducible refine fun (_ : _ = true) => ?_) | (with_reducible refine fun (_ : _ = false) => ?_) | (with_reducible exact ev_c) | ((with_reducible apply ev_var); rfl) | (with_reducible apply ev_op) | (with_reducible apply ev_un) | (with_reducible apply ev_cb) | (with_reducible apply ea_cons) | (with_reducible apply ev_andV) | (with_reducible apply ev_orV) | (with_reducible apply ev_notV) | (with_reducible apply ev_if) | (with_reducible apply eo_some) | (with_reducible apply el_lst) | (with_reducible exact ea_nil) | (with_reducible exact rv_I0) | (with_reducible exact ru_neg) | (with_reducible exact rv_ltS) | (with_reducible exact rv_inC) | (with_reducible exact rv_notInC) | (with_reducible exact rc_intI) | (with_reducible exact rc_intB) | (with_reducible exact rc_min2) | (with_reducible exact rc_isStr) | (with_reducible exact eo_none) | (with_reducible exact rv_inSS) | (with_reducible exact rv_notInSS) | (with_reducible exact rv_ltSS) | (with_reducible exact rv_eqSS) | (with_reducible exact rv_eqII) | (with_reducible exact rv_neII) | (with_reducible exact rv_neSS) | ((with_reducible refine rc_lenSS ?_); (first | assumption | omega | decide | (simp only [S_len] at *; omega))) | ((with_reducible refine rc_lenStr ?_); (first | assumption | omega | decide | (simp only [S_len] at *; omega))) | ((with_reducible refine rv_catSS ?_); (first | assumption | omega | decide | (simp only [S_len] at *; omega))) | (with_reducible exact rv_eq rfl) | (with_reducible exact rv_ne rfl) | ((with_reducible refine rc_lenS ?_); (first | assumption | omega | decide | (simp only [S_len] at *; omega))) | ((with_reducible refine rc_lenL ?_); assumption) | ((with_reducible apply rv_ixL); assumption; rfl) | ((with_reducible refine rv_catS ?_); (first | assumption | omega | decide | (simp only [S_len] at *; omega))) | ((with_reducible refine rv_I ?_); (first | (show (0 : Int) < _; (first | assumption | omega | decide | (simp only [S_len] at *; omega))) | exact .inr ⟨by decide, by decide⟩ | exact .inl ⟨by (first | assumption | omega | decide | (simp only [S_len] at *; omega)), by (first | assumption | omega | decide | (simp only [S_len] at *; omega))⟩ | exact .inr ⟨by (first | assumption | omega | decide | (simp only [S_len] at *; omega)), by (first | assumption | omega | decide | (simp only [S_len] at *; omega))⟩ | exact ⟨by decide, by decide, by decide⟩ | exact wide_div (b := 128) (by (first | assumption | omega | decide | (simp only [S_len] at *; omega))) (by (first | assumption | omega | decide | (simp only [S_len] at *; omega))) (by decide) (by decide)))))) | ((with_reducible apply et_B); (repeat' (first | ((with_reducible refine ev_pow10 ?_ ?_ ?_) <;> first | rfl | decide) | (with_reducible refine fun (_ : _ = true) => ?_) | (with_reducible refine fun (_ : _ = false) => ?_) | (with_reducible exact ev_c) | ((with_reducible apply ev_var); rfl) | (with_reducible apply ev_op) | (with_reducible apply ev_un) | (with_reducible apply ev_cb) | (with_reducible apply ea_cons) | (with_reducible apply ev_andV) | (with_reducible apply ev_orV) | (with_reducible apply ev_notV) | (with_reducible apply ev_if) | (with_reducible apply eo_some) | (with_reducible apply el_lst) | (with_reducible exact ea_nil) | (with_reducible exact rv_I0) | (with_reducible exact ru_neg) | (with_reducible exact rv_ltS) | (with_reducible exact rv_inC) | (with_reducible exact rv_notInC) | (with_reducible exact rc_intI) | (with_reducible exact rc_intB) | (with_reducible exact rc_min2) | (with_reducible exact rc_isStr) | (with_reducible exact eo_none) | (with_reducible exact rv_inSS) | (with_reducible exact rv_notInSS) | (with_reducible exact rv_ltSS) | (with_reducible exact rv_eqSS) | (with_reducible exact rv_eqII) | (with_reducible exact rv_neII) | (with_reducible exact rv_neSS) | ((with_reducible refine rc_lenSS ?_); (first | assumption | omega | decide | (simp only [S_len] at *; omega))) | ((with_reducible refine rc_lenStr ?_); (first | assumption | omega | decide | (simp only [S_len] at *; omega))) | ((with_reducible refine rv_catSS ?_); (first | assumption | omega | decide | (simp only [S_len] at *; omega))) | (with_reducible exact rv_eq rfl) | (with_reducible exact rv_ne rfl) | ((with_reducible refine rc_lenS ?_); (first | assumption | omega | decide | (simp only [S_len] at *; omega))) | ((with_reducible refine rc_lenL ?_); assumption) | ((with_reducible apply rv_ixL); assumption; rfl) | ((with_reducible refine rv_catS ?_); (first | assumption | omega | decide | (simp only [S_len] at *; omega))) | ((with_reducible refine rv_I ?_); (first | (show (0 : Int) < _; (first | assumption | omega | decide | (simp only [S_len] at *; omega))) | exact .inr ⟨by decide, by decide⟩ | exact .inl ⟨by (first | assumption | omega | decide | (simp only [S_len] at *; omega)), by (first | assumption | omega | decide | (simp only [S_len] at *; omega))⟩ | exact .inr ⟨by (first | assumption | omega | decide | (simp only [S_len] at *; omega)), by (first | assumption | omega | decide | (simp only [S_len] at *; omega))⟩ | exact ⟨by decide, by decide, by decide⟩ | exact wide_div (b := 128) (by (first | assumption | omega | decide | (simp only [S_len] at *; omega))) (by (first | assumption | omega | decide | (simp only [S_len] at *; omega))) (by decide) (by decide))))))) (fun hc H1 e1 => ?_) (fun hc13 H13' e13' => ?_)
    · have hc2 : k = 18 := by
        have := of_decide_eq_true hc
        omega
      have hf : eF k = "count" := by rw [hc2]; rfl
      exact s_ret (ev_xo T hk (hi.ex (e0.trans e1)) hf (by exact ev_var rfl)) fun H2 e2 => q H2 ((e0.trans e1).trans e2)
    replace e0 := e0.trans e13'
    have hc2 : k = 19 := by
      have n0 := of_decide_eq_false hc0
      simp only [List.mem_cons, List.not_mem_nil, or_false, not_or] at n0
      have n1 := of_decide_eq_false hc1
      have n2 := of_decide_eq_false hc2
      have n3 := of_decide_eq_false hc3
      simp only [List.mem_cons, List.not_mem_nil, or_false, not_or] at n3
      have n4 := of_decide_eq_false hc4
      have n5 := of_decide_eq_false hc5
      simp only [List.mem_cons, List.not_mem_nil, or_false, not_or] at n5
      have n6 := of_decide_eq_false hc6
      have n7 := of_decide_eq_false hc7
      have n8 := of_decide_eq_false hc8
      have n9 := of_decide_eq_false hc9
      have n10 := of_decide_eq_false hc10
      have n11 := of_decide_eq_false hc11
      have n12 := of_decide_eq_false hc12
      have n13 := of_decide_eq_false hc13
      omega
    exact s_ret (ev_xo T hk (hi.ex e0) (f := "name") (by rw [hc2]; rfl) (by exact ev_var rfl)) fun H2 e2 => q H2 (e0.trans e2)
end
end K00
namespace K00
open PySem PySem.Spec PyProof.Rows L2 Lc Evl
section
variable {P : Program} {w : World} {K : PySem.W.Frag} {mg : Str → Option Value} {base : Heap}
/-! ### what it keeps is what was given -/
def FitN (H : Hp) (k : Nat) (x : V) (n : Int) (l : List Nat) : Prop := (k ∈ INTS → x = .int n) ∧ (k ∈ TUPS → ∃ t, x = .ref t ∧ H t = some (.tup [.str "stuck", .str (S l)])) ∧ (k ∉ INTS → k ∉ TUPS → x = .str (S l))
theorem FitN.ex {H H' : Hp} {k : Nat} {x : V} {n : Int} {l : List Nat} (h : FitN H k x n l) (e : Ex H H') : FitN H' k x n l := ⟨h.1, fun m => by
  obtain ⟨t, h1, h2⟩ := h.2.1 m
  exact ⟨t, h1, e _ _ h2⟩, h.2.2⟩
theorem rc_isTup {H : Hp} {t : Addr} {xs : List V} (h : H t = some (.tup xs)) : RC (rIsi K) [.ref t, .ty "tuple"] H (.bl true) := fun H1 e _ q => ⟨.ref t, .ty "tuple", .type "tuple", .type "tuple", true, rfl, .ty _, .base (.tup (e _ _ h)), kit_ty (by decide +kernel), q H1 (Ex.refl H1)⟩
theorem rc_isLst {H : Hp} {t : Addr} {xs : List V} (h : H t = some (.lst xs)) : RC (rIsi K) [.ref t, .ty "list"] H (.bl true) := fun H1 e _ q => ⟨.ref t, .ty "list", .type "list", .type "list", true, rfl, .ty _, .base (.lst (e _ _ h)), kit_ty (by decide +kernel), q H1 (Ex.refl H1)⟩
theorem rv_eqStuck {H : Hp} {t p : Addr} {l : List Nat} (hl : ∀ c ∈ l, c < 128) (ht : H t = some (.tup [.str "stuck", .str (S l)])) (hp : H p = some (.tup [.str "stuck", .str (S l)])) : RV (rEqD K) (.ref t) (.ref p) H (.bl true) := fun H1 e Q q => by
  have hs : SeqAt.shaped (.tuple [.str "stuck", .str (S l)]) = true := by
    have h1 : PyData.strOk "stuck" = true := by decide +kernel
    unfold SeqAt.shaped
    simp [PyData.canLay0, PyData.canLayAll0, PyData.depth, PyData.depthAll, strOk_low hl, h1]
  refine ⟨.tuple [.str "stuck", .str (S l)], .tuple [.str "stuck", .str (S l)], .tup (st_of (e _ _ ht)) (.cons (.str _) (.cons (.str _) .nil)), .tup (st_of (e _ _ hp)) (.cons (.str _) (.cons (.str _) .nil)), hs, hs, ?_⟩
  rw [show PyData.eqv (.tuple [.str "stuck", .str (S l)]) (.tuple [.str "stuck", .str (S l)]) = true by simp [PyData.eqv, PyData.eqvAll]]
  exact q H1 (Ex.refl H1)
theorem ev_whole {σ : L2.St} {H : Hp} {te : TE} {i : Int} (h : Ev te σ H (.int i)) : Ev (tCall sp_law_whole [] E0 (tCons te tNil)) σ H (.bl true) := ev_call (ea_cons h ea_nil) fun H1 e1 Q q E => ⟨i, rfl, q⟩
def sp_law_kept (K : PySem.W.Frag) : Sp := fun vs H Q _ => ∃ (k : Nat) (x : V) (n : Int) (l : List Nat), vs = [.int (k : Int), x, .int n, .str (S l)] ∧ FitN H k x n l ∧ (∀ c ∈ l, c < 128) ∧ RetV (.bl true) H Q
theorem ok_law_kept (T : Tx K mg w) : OkD P w K mg base 2 d_law_kept ps_law_kept (sp_law_kept K) := by
  refine (h_law_kept T).ok sc_law_kept (fun vs H Q E h => ?_) (fun cdv A outer s H vs Q E hr h => ⟨_,
      (pss_cons (ps_if (pt_cmpR op_in_seq (pv 0) (pe_tup (pa_cons pe_int (pa_cons pe_int (pa_cons pe_int (pa_cons pe_int (pa_cons pe_int (pa_cons pe_int (pa_cons pe_int pa_nil)))))))) (by rfl)) (pss_one (ps_ret (pe_and (pe_call (ok_law_whole (P := P) (w := w) (base := base) T) (hr.mono (by decide)) (by rfl) (m_law_whole T) (k_law_whole T) (b_law_whole T) .nil passN (pa_cons (pv 1) pa_nil)) (pe_one (pe_cmpR op_eq (pv 1) (pv 2) (nomark _)))))) pss_nil)
      (pss_cons (ps_if (pt_cmpR op_in_seq (pv 0) (pe_tup (pa_cons pe_int (pa_cons pe_int pa_nil))) (by rfl)) (pss_one (ps_ret (pe_and (pe_callB call_isi (by rfl) (m_isinstance T) (by decide +kernel) (pa_cons (pv 1) (pa_cons (pe_bltn (v := .ty "tuple") (u := .type "tuple") (by rfl) (m_tuple T) (by decide +kernel) rfl) pa_nil))) (pe_one (pe_cmpR (op_eqD hr.units) (pv 1) (pe_tup (pa_cons pe_str (pa_cons (pv 3) pa_nil))) (nomark _)))))) pss_nil)
      (pss_one (ps_ret (pe_call (ok_law_text (P := P) (w := w) (base := base) T) (hr.mono (by decide)) (by rfl) (m_law_text T) (k_law_text T) (b_law_text T) .nil passN (pa_cons (pv 1) (pa_cons (pv 3) pa_nil))))))), ?_⟩)
  · obtain ⟨k, x, n, l, rfl, _⟩ := h
    rfl
  · obtain ⟨k, x, n, l, rfl, hf, hl, q⟩ := h
    refine q_when (b := decide (k ∈ INTS)) (et_in INTS (by exact ev_var rfl) (eu_tup (ea_cons ev_c (ea_cons ev_c (ea_cons ev_c (ea_cons ev_c (ea_cons ev_c (ea_cons ev_c (ea_cons ev_c ea_nil))))))) (by decide))) (fun hc H1 e1 => ?_) (fun hc H1 e1 => ?_)
    · have hx := hf.1 (of_decide_eq_true hc)
      subst hx
      refine s_ret (v := .bl (true && decide (n = n))) (ev_andV (ev_whole (by exact ev_var rfl)) fun _ => ev_op (by exact ev_var rfl) (by exact ev_var rfl) rv_eqII) fun H2 e2 => ?_
      rw [decide_eq_true rfl]
      exact q H2 (e1.trans e2)
    refine q_when (b := decide (k ∈ TUPS)) (et_in TUPS (by exact ev_var rfl) (eu_tup (ea_cons ev_c (ea_cons ev_c ea_nil)) (by decide))) (fun hc2 H2 e2 => ?_) (fun hc2 H2 e2 => ?_)
    · obtain ⟨t, rfl, ht⟩ := hf.2.1 (of_decide_eq_true hc2)
      have ht2 := (e1.trans e2) _ _ ht
      refine s_ret (v := .bl (true && true)) (ev_andV (ev_cb (ea_cons (by exact ev_var rfl) (ea_cons ev_c ea_nil)) (rc_isTup ht2)) fun _ => ev_opU (by exact ev_var rfl) (eu_tup (ea_cons ev_c (ea_cons (by exact ev_var rfl) ea_nil)) (by simp)) fun p H3 hp e3 => rv_eqStuck hl (e3 _ _ ht2) hp) fun H3 e3 => ?_
      exact q H3 ((e1.trans e2).trans e3)
    · have hx := hf.2.2 (of_decide_eq_false hc) (of_decide_eq_false hc2)
      subst hx
      exact s_ret (ev_text (by exact ev_var rfl) (by exact ev_var rfl) rfl) fun H3 e3 => q H3 ((e1.trans e2).trans e3)
/-! ### all twenty -/
def bts (k : Nat) : List Bool := (List.range 20).map fun j => decide (k = j)
theorem knd_eq (k : Nat) : knd k = (bts k).map V.bl := by
  unfold knd bts
  rw [List.map_map]
  rfl
def sp_law_errors (K : PySem.W.Frag) : Sp := fun vs H Q _ => ∃ (n : Int) (l : List Nat), vs = [.int n, .str (S l)] ∧ n.natAbs.log2 < 1900 ∧ l.length ≤ 1000 ∧ (∀ c ∈ l, c < 128) ∧ RetV (.bl true) H Q
theorem ok_law_errors (T : Tx K mg w) : OkD P w K mg base 4 d_law_errors ps_law_errors (sp_law_errors K) := by
  refine (h_law_errors T).ok sc_law_errors (fun vs H Q E h => ?_) (fun cdv A outer s H vs Q E hr h => ⟨_,
      (pss_cons (ps_for (passes_of rfl) rfl (pi_range1 rfl (m_range T) (pa_cons pe_int pa_nil)) (pg_name (i := 2) sc_law_errors.nd rfl (Or.inr rfl)) (pss_cons (ps_set (i := 3) sc_law_errors.nd rfl (Or.inl rfl) (pv 1))
      (pss_cons (ps_if (pt_cmpR op_in_seq (pv 2) (pe_tup (pa_cons pe_int (pa_cons pe_int (pa_cons pe_int (pa_cons pe_int (pa_cons pe_int (pa_cons pe_int (pa_cons pe_int pa_nil)))))))) (by rfl)) (pss_one (ps_set (i := 3) sc_law_errors.nd rfl (Or.inl rfl) (pv 0))) pss_nil)
      (pss_cons (ps_if (pt_cmpR op_in_seq (pv 2) (pe_tup (pa_cons pe_int (pa_cons pe_int pa_nil))) (by rfl)) (pss_one (ps_set (i := 3) sc_law_errors.nd rfl (Or.inl rfl) (pe_tup (pa_cons pe_str (pa_cons (pv 1) pa_nil))))) pss_nil)
      (pss_cons (ps_set (i := 4) sc_law_errors.nd rfl (Or.inl rfl) (pe_call (ok_law_error (P := P) (w := w) (base := base) T) (hr.mono (by decide)) (by rfl) (m_law_error T) (k_law_error T) (b_law_error T) .nil passN (pa_cons (pv 2) (pa_cons (pv 3) pa_nil))))
      (pss_cons (ps_if (PW.pt (pw_or (pt_not (pt_val (pe_callB call_isV (by rfl) (m_isinstance T) (by decide +kernel) (pa_cons (pv 4) (pa_cons (pe_glob (v := .ref (He.ga K "LeapError")) rfl (m_LeapError T) rfl) pa_nil))))) (pw_or1 (pt_not (pt_val (pe_callB call_isV (by rfl) (m_isinstance T) (by decide +kernel) (pa_cons (pv 4) (pa_cons (pe_bltn (v := .ty "ValueError") (u := .type "ValueError") (by rfl) (m_ValueError T) (by decide +kernel) rfl) pa_nil)))))))) (pss_one (ps_ret pe_bl)) pss_nil)
      (pss_cons (ps_if (pt_cmpR (op_neD hr.units) (pe_call (ok_law_kinds (P := P) (w := w) (base := base) T) (hr.mono (by decide)) (by rfl) (m_law_kinds T) (k_law_kinds T) (b_law_kinds T) .nil passN (pa_cons (pv 4) pa_nil)) (pe_lc (own := [("_law_at", 5)]) (g := gName 5) rfl sc_law_errors.nd (pi_range1 rfl (m_range T) (pa_cons pe_int pa_nil)) (blkOk_by (own := [("_law_at", 5)]) (N := ns_law_errors) (sc := defScope st_law_errors) (by decide +kernel)) (fun _ _ _ _ _ => pg_name (i := 5) sc_law_errors.nd rfl (Or.inl rfl)) (fun _ _ _ _ _ => pts_nil) (fun _ _ _ _ _ => (pe_cmpR op_eq (pv 5) (pv 2) (nomark _)))) (nomark _)) (pss_one (ps_ret pe_bl)) pss_nil)
      (pss_one (ps_if (pt_not (pt_val (pe_call (ok_law_kept (P := P) (w := w) (base := base) T) (hr.mono (by decide)) (by rfl) (m_law_kept T) (k_law_kept T) (b_law_kept T) .nil passN (pa_cons (pv 2) (pa_cons (pe_call (ok_law_field (P := P) (w := w) (base := base) T) (hr.mono (by decide)) (by rfl) (m_law_field T) (k_law_field T) (b_law_field T) .nil passN (pa_cons (pv 2) (pa_cons (pv 4) pa_nil))) (pa_cons (pv 0) (pa_cons (pv 1) pa_nil))))))) (pss_one (ps_ret pe_bl)) pss_nil)))))))))
      (pss_one (ps_ret pe_bl))), ?_⟩)
  · obtain ⟨n, l, rfl, _⟩ := h
    rfl
  · obtain ⟨n, l, rfl, hn, hl, hc, q⟩ := h
    refine q_forR1 (n := 20) (by exact ea_cons ev_c ea_nil) (by decide) (fun i σ' H' => Ex H H' ∧ ∃ v2 v3 v4 v5, σ' = [some (.int n), some (.str (S l)), v2, v3, v4, v5]) (fun H2 e2 => ⟨e2, none, none, none, none, rfl⟩) ?_ ?_
    · rintro i σ' H' hi ⟨e, v2, v3, v4, v5, rfl⟩
      have hi' : i < 20 := by omega
      refine q_asg (v := .str (S l)) (by exact ev_var rfl) fun H1 e1 => ?_
      refine q_ifAsg (b := decide (i ∈ INTS)) (v := if i ∈ INTS then .int n else .str (S l)) (et_in INTS (by exact ev_var rfl) (eu_tup (ea_cons ev_c (ea_cons ev_c (ea_cons ev_c (ea_cons ev_c (ea_cons ev_c (ea_cons ev_c (ea_cons ev_c ea_nil))))))) (by decide))) (fun hm => by rw [if_pos (of_decide_eq_true hm)]; exact ev_var rfl) (fun hm => by rw [if_neg (of_decide_eq_false hm)]; rfl) fun H2 e2 => ?_
      refine q_ifAsgU (b := decide (i ∈ TUPS)) (xs := [.str "stuck", .str (S l)]) (x0 := if i ∈ INTS then .int n else .str (S l)) (et_in TUPS (by exact ev_var rfl) (eu_tup (ea_cons ev_c (ea_cons ev_c ea_nil)) (by decide))) (fun _ => eu_tup (ea_cons ev_c (ea_cons (by exact ev_var rfl) ea_nil)) (by simp)) rfl fun x H3 e3 hx1 hx2 => ?_
      have hdis : i ∈ INTS → i ∉ TUPS := by
        have : ∀ i ∈ INTS, i ∉ TUPS := by decide
        exact this i
      have hfn : FitN H3 i x n l := by
        refine ⟨fun hm => ?_, fun hm => ?_, fun hm hm2 => ?_⟩
        · rw [hx2 (decide_eq_false (hdis hm)), if_pos hm]
        · obtain ⟨p, h1, h2⟩ := hx1 (decide_eq_true hm)
          exact ⟨p, h1, h2⟩
        · rw [hx2 (decide_eq_false hm2), if_neg hm]
      have hfv : FitV H3 i x := by
        refine ⟨fun hm => ?_, fun hm => ?_, fun hm hm2 => ?_⟩
        · exact ⟨n, hfn.1 hm, hn⟩
        · obtain ⟨p, h1, h2⟩ := hfn.2.1 hm
          exact ⟨p, l, h1, h2, hl, hc⟩
        · exact ⟨l, hfn.2.2 hm hm2, hl, hc⟩
      replace e := ((e.trans e1).trans e2).trans e3
      clear hx1 hx2 e1 e2 e3
      dsimp only
      refine ⟨_, rfl, _, rfl, i, x, rfl, hi', hfv, fun a H4 ha e4 hE => ?_⟩
      dsimp only [gName]
      replace hfn := hfn.ex e4
      replace e := e.trans e4
      clear e4 hfv ha
      refine q_when (b := (!true || !true)) (et_or (et_not (et_B (ev_cb (ea_cons (by exact ev_var rfl) (ea_cons ev_c ea_nil)) (rc_isL T hi' hE)))) fun _ => et_not (et_B (ev_cb (ea_cons (by exact ev_var rfl) (ea_cons ev_c ea_nil)) (rc_isVE T hi' hE)))) (fun hz => by cases hz) (fun _ H5 e5 => ?_)
      replace hE := hE.ex e5
      have hkn : EvL (tCall (sp_law_kinds K) [] E0 (tCons (tVar 4) tNil)) [some (.int n), some (.str (S l)), some (.int (i : Int)), some x, some (.ref a), v5] H5 ((bts i).map V.bl) := el_call (ea_cons (by exact ev_var rfl) ea_nil) fun H6 e6 Q6 q6 E6 => ⟨a, i, x, rfl, hi', hE.ex e6, by rw [knd_eq]; exact q6⟩
      have hcp : EvL (tLc (iRng1 (tCons (tC (.int 20)) tNil)) (gName 5) tYes (tOp rEq (tVar 5) (tVar 2)) [5]) [some (.int n), some (.str (S l)), some (.int (i : Int)), some x, some (.ref a), v5] H5 ((bts i).map V.bl) := by
        have h2 := el_lcR1 (σ := [some (.int n), some (.str (S l)), some (.int (i : Int)), some x, some (.ref a), v5]) (H := H5) (j := 5) (vs := [5]) (t := tYes) (te := tOp rEq (tVar 5) (tVar 2)) (ta := tCons (tC (.int 20)) tNil) (n := 20) (fun _ => true) (fun j => V.bl (decide ((j : Int) = (i : Int)))) (ea_cons ev_c ea_nil) (by decide) (fun x => rfl) (fun j H2 _ _ => et_yes) (fun j H2 _ _ _ => ev_op (by exact ev_var rfl) (by exact ev_var rfl) rv_eqII)
        rw [given_all] at h2
        have e3 : (bts i).map V.bl = (List.range (20 : Int).toNat).map fun (j : Nat) => V.bl (decide ((j : Int) = (i : Int))) := by
          unfold bts
          rw [List.map_map]
          refine List.map_congr_left fun j _ => ?_
          show V.bl (decide (i = j)) = V.bl (decide ((j : Int) = (i : Int)))
          rw [show decide (i = j) = decide ((j : Int) = (i : Int)) from decide_eq_decide.mpr ⟨fun h => by omega, fun h => by omega⟩]
        rw [e3]
        exact h2
      refine q_when (b := !decide (bts i = bts i)) (et_test (ev_opLL hkn hcp fun p q H1 hp hq _ => rv_neLB (sq_of hp) (sq_of hq))) (fun hz => by rw [decide_eq_true rfl] at hz; cases hz) (fun _ H6 e6 => ?_)
      replace hfn := hfn.ex (e5.trans e6)
      replace hE := hE.ex e6
      replace e := e.trans (e5.trans e6)
      clear hkn hcp e5 e6
      refine s_when (b := !true) (et_not (et_B (ev_call (ea_cons (by exact ev_var rfl) (ea_cons (x := x) (ev_call (ea_cons (by exact ev_var rfl) (ea_cons (by exact ev_var rfl) ea_nil)) fun H7 e7 Q7 q7 E7 => ⟨a, i, x, rfl, hi', hE.ex e7, q7⟩) (ea_cons (by exact ev_var rfl) (ea_cons (by exact ev_var rfl) ea_nil)))) fun H7 e7 Q7 q7 E7 => ⟨i, x, n, l, rfl, hfn.ex e7, hc, q7⟩))) (fun hz => by cases hz) (fun _ H7 e7 => ?_)
      exact ⟨e.trans e7, _, _, _, _, rfl⟩
    · rintro σ' H' ⟨e, v2, v3, v4, v5, rfl⟩
      exact s_ret (by exact ev_c) fun H2 e2 => q H2 (e.trans e2)
end
end K00
namespace K00
open PySem PySem.Spec PyProof.Rows L2 Lc Evl
section
variable {P : Program} {w : World} {K : PySem.W.Frag} {mg : Str → Option Value} {base : Heap}
/-! ### what a row shows, looked at -/
theorem um_good : ∀ c ∈ SG, um c < 128 := by decide +kernel
theorem ev_bare {σ : L2.St} {H : Hp} {te : TE} {c : Nat} (h : Ev te σ H (.str (S [c]))) (hc : c ∈ SG) : Ev (tCall sp_law_bare [] E0 (tCons te tNil)) σ H (.str (S [um c])) := ev_call (ea_cons h ea_nil) fun H1 e1 Q q E => ⟨c, rfl, hc, q⟩
theorem ev_dotted {σ : L2.St} {H : Hp} {te : TE} {c : Nat} (h : Ev te σ H (.str (S [c]))) (hc : c ∈ SG) (hn : c ≠ 35) : Ev (tCall sp_law_dotted [] E0 (tCons te tNil)) σ H (.str (S [am c])) := ev_call (ea_cons h ea_nil) fun H1 e1 Q q E => ⟨c, rfl, hc, hn, q⟩
def mpi (l : List Nat) : List Int := ((List.range l.length).filter fun i => decide (l.getD i 0 ∈ MK)).map fun (i : Nat) => (i : Int)
theorem mpl_eq (l : List Nat) : mpl l = (mpi l).map V.int := by
  unfold mpl mpi given
  rw [List.map_map]
  rfl
theorem mpi_len (l : List Nat) : (mpi l).length ≤ l.length := by
  unfold mpi
  rw [List.length_map]
  exact Nat.le_trans (List.length_filter_le _ _) (by rw [List.length_range]; exact Nat.le_refl _)
theorem given_none (n : Nat) (v : Nat → V) : given n (fun _ => false) v = [] := by
  unfold given
  rw [List.filter_eq_nil_iff.mpr (by simp)]
  rfl
theorem el_mp {σ : L2.St} {H : Hp} {te : TE} {l : List Nat} (h : Ev te σ H (.str (S l))) (hg : Good l) (hl : l.length ≤ 1000) : EvL (tCall (sp_marked_places K) [] E0 (tCons te tNil)) σ H ((mpi l).map V.int) :=
  el_call (ea_cons h ea_nil) fun H1 e1 Q q E => ⟨l, rfl, ⟨hl, hg.low⟩, fun _ => by rw [mpl_eq]; exact q, fun z => absurd hg z⟩
def sp_law_looked (K : PySem.W.Frag) : Sp := fun vs H Q _ => ∃ l, vs = [.str (S l)] ∧ Good l ∧ l.length ≤ 1000 ∧ RetV (.bl true) H Q
theorem ok_law_looked (T : Tx K mg w) : OkD P w K mg base 5 d_law_looked ps_law_looked (sp_law_looked K) := by
  refine (h_law_looked T).ok sc_law_looked (fun vs H Q E h => ?_) (fun cdv A outer s H vs Q E hr h => ⟨_,
      (pss_cons (ps_if (pt_not (pt_val (pe_call (ok_law_text (P := P) (w := w) (base := base) T) (hr.mono (by decide)) (by rfl) (m_law_text T) (k_law_text T) (b_law_text T) .nil passN (pa_cons (pe_call (ok_plain (P := P) (w := w) (base := base) T) (hr.mono (by decide)) (by rfl) (m_plain T) (k_plain T) (b_plain T) .nil passN (pa_cons (pv 0) pa_nil)) (pa_cons (pe_join pe_str (pe_lc (own := [("_law_sign", 5)]) (g := gName 5) rfl sc_law_looked.nd (pi_str (pv 0)) (blkOk_by (own := [("_law_sign", 5)]) (N := ns_law_looked) (sc := defScope st_law_looked) (by decide +kernel)) (fun _ _ _ _ _ => pg_name (i := 5) sc_law_looked.nd rfl (Or.inl rfl)) (fun _ _ _ _ _ => pts_nil) (fun _ _ _ _ _ => (pe_call (ok_law_bare (P := P) (w := w) (base := base) T) (hr.mono (by decide)) (by rfl) (m_law_bare T) (k_law_bare T) (b_law_bare T) .nil passN (pa_cons (pv 5) pa_nil))))) pa_nil))))) (pss_one (ps_ret pe_bl)) pss_nil)
      (pss_cons (ps_set (i := 1) sc_law_looked.nd rfl (Or.inl rfl) (pe_call (ok_marked_places (P := P) (w := w) (base := base) T) (hr.mono (by decide)) (by rfl) (m_marked_places T) (k_marked_places T) (b_marked_places T) .nil passN (pa_cons (pv 0) pa_nil)))
      (pss_cons (ps_if (PW.pt (pw_or (pt_not (pt_val (pe_callB call_isi (by rfl) (m_isinstance T) (by decide +kernel) (pa_cons (pv 1) (pa_cons (pe_bltn (v := .ty "list") (u := .type "list") (by rfl) (m_list T) (by decide +kernel) rfl) pa_nil))))) (pw_or1 (pt_cmpR op_gt (pe_callB call_len (by rfl) (m_len T) (by decide +kernel) (pa_cons (pe_lc (own := [("_law_at", 4)]) (g := gName 4) rfl sc_law_looked.nd (pi_list (pv 1)) (blkOk_by (own := [("_law_at", 4)]) (N := ns_law_looked) (sc := defScope st_law_looked) (by decide +kernel)) (fun _ _ _ _ _ => pg_name (i := 4) sc_law_looked.nd rfl (Or.inl rfl)) (fun _ _ _ _ _ => (pts_one (pt_not (pt_val (pe_call (ok_law_whole (P := P) (w := w) (base := base) T) (hr.mono (by decide)) (by rfl) (m_law_whole T) (k_law_whole T) (b_law_whole T) .nil passN (pa_cons (pv 4) pa_nil)))))) (fun _ _ _ _ _ => (pv 4))) pa_nil)) pe_int (nomark _))))) (pss_one (ps_ret pe_bl)) pss_nil)
      (pss_cons (ps_setLc (i := 2) (own := [("_law_at", 4)]) (g := gName 4) rfl sc_law_looked.nd rfl rfl (sw_true rfl rfl rfl (by decide +kernel)) (pi_range1 rfl (m_range T) (pa_cons (pe_callB call_len_str (by rfl) (m_len T) (by decide +kernel) (pa_cons (pv 0) pa_nil)) pa_nil)) (blkOk_by (own := [("_law_at", 4)]) (N := ns_law_looked) (sc := defScope st_law_looked) (by decide +kernel)) (fun _ _ _ _ _ => pg_name (i := 4) sc_law_looked.nd rfl (Or.inl rfl)) (fun _ _ _ _ _ => (pts_one (pt_cmpR op_in_sign (pe_ix ix_str (pv 0) (pv 4) (fun _ _ => rfl)) pe_str (by rfl)))) (fun _ _ _ _ _ => (pv 4)))
      (pss_cons (ps_if (pt_cmpR (op_neD hr.units) (pv 1) (pv 2) (nomark _)) (pss_one (ps_ret pe_bl)) pss_nil)
      (pss_cons (ps_expr (pe_bm PySem.F.plainAttrs_list PySem.F.slot_list_append PySem.F.type_list_append mt_append (pv 1) (pa_cons (pe_callB call_len_str (by rfl) (m_len T) (by decide +kernel) (pa_cons (pv 0) pa_nil)) pa_nil)))
      (pss_cons (ps_if (pt_cmpR (op_neD hr.units) (pe_call (ok_marked_places (P := P) (w := w) (base := base) T) (hr.mono (by decide)) (by rfl) (m_marked_places T) (k_marked_places T) (b_marked_places T) .nil passN (pa_cons (pv 0) pa_nil)) (pv 2) (nomark _)) (pss_one (ps_ret pe_bl)) pss_nil)
      (pss_cons (ps_set (i := 3) sc_law_looked.nd rfl (Or.inl rfl) (pe_call (ok_pegs (P := P) (w := w) (base := base) T) (hr.mono (by decide)) (by rfl) (m_pegs T) (k_pegs T) (b_pegs T) .nil passN (pa_cons (pv 0) pa_nil)))
      (pss_one (ps_ret (pe_and (pe_call (ok_law_whole (P := P) (w := w) (base := base) T) (hr.mono (by decide)) (by rfl) (m_law_whole T) (k_law_whole T) (b_law_whole T) .nil passN (pa_cons (pv 3) pa_nil)) (pe_one (pe_cmpR op_eq (pv 3) (pe_callB call_len (by rfl) (m_len T) (by decide +kernel) (pa_cons (pe_lc (own := [("_law_sign", 5)]) (g := gName 5) rfl sc_law_looked.nd (pi_str (pv 0)) (blkOk_by (own := [("_law_sign", 5)]) (N := ns_law_looked) (sc := defScope st_law_looked) (by decide +kernel)) (fun _ _ _ _ _ => pg_name (i := 5) sc_law_looked.nd rfl (Or.inl rfl)) (fun _ _ _ _ _ => (pts_one (pt_cmpR op_in_sign (pv 5) pe_str (by rfl)))) (fun _ _ _ _ _ => (pv 5))) pa_nil)) (nomark _)))))))))))))), ?_⟩)
  · obtain ⟨l, rfl, _⟩ := h
    rfl
  · obtain ⟨l, rfl, hg, hl, q⟩ := h
    have k1 : Str.ofString ":ABCD" = S MK := by decide +kernel
    have k2 : Str.ofString "ABCDabcd" = S PG := by decide +kernel
    have k3 : Str.ofString "" = S [] := by decide +kernel
    simp only [k1, k2, k3]
    have hr : Row l := ⟨hl, hg.low⟩
    have hplain : Ev (tCall (sp_plain K) [] E0 (tCons (tVar 0) tNil)) (L2.start ns_law_looked [V.str (S l)]) H (.str (S (l.map um))) := ev_call (ea_cons (by exact ev_var rfl) ea_nil) fun H1 e1 Q q E => ⟨l, rfl, hr, fun _ => q, fun z => absurd hg z⟩
    have hjoin : Ev (tM1 (fun x xs H Q => ∃ a p, ∃ ys : List Str, x = .str a ∧ xs = [.ref p] ∧ (SqL K H p (ys.map V.str) ∨ SqT K H p (ys.map V.str)) ∧ (ys.map (·.length)).sum + ys.length * a.length ≤ 16777216 ∧ Q (.str (Txt.join a ys)) H) (tC (.str (S []))) (tLc (iStr (tVar 0)) (gName 5) tYes (tCall sp_law_bare [] E0 (tCons (tVar 5) tNil)) [5])) (L2.start ns_law_looked [V.str (S l)]) H (.str (S (l.map um))) := by
      have h2 := ev_join (K := K) (σ := L2.start ns_law_looked [V.str (S l)]) (H := H) (ta := tC (.str (S []))) (te := tLc (iStr (tVar 0)) (gName 5) tYes (tCall sp_law_bare [] E0 (tCons (tVar 5) tNil)) [5]) (a := S []) (ys := (l.map um).map fun c => S [c]) ev_c ?_ (join_sz _ (by rw [List.length_map]; omega))
      · rw [join_S] at h2
        exact h2
      · have h3 := el_lcS (σ := L2.start ns_law_looked [V.str (S l)]) (H := H) (l := l) (tl := tVar 0) (j := 5) (vs := [5]) (t := tYes) (te := tCall sp_law_bare [] E0 (tCons (tVar 5) tNil)) (fun _ => true) (fun i => V.str (S [um (l.getD i 0)])) (by exact ev_var rfl) (by omega) (fun x => rfl) (fun i c H2 _ hi => et_yes) (fun i c H2 _ hi _ => by rw [at_getD hi]; exact ev_bare (by exact ev_var rfl) (hg c (List.mem_of_getElem? hi)))
        rw [given_all] at h3
        have e4 : ((l.map um).map fun c => S [c]).map V.str = (List.range l.length).map fun i => V.str (S [um (l.getD i 0)]) := by
          apply List.ext_getElem
          · simp
          · intro i h1 h2
            simp at h1
            simp [h1]
        rw [e4]
        exact h3
    refine q_when (b := !true) (et_not (et_B (ev_text hplain hjoin rfl))) (fun hc => by cases hc) (fun _ H1 e1 => ?_)
    refine q_asgL (xs := (mpi l).map V.int) (el_mp (by exact ev_var rfl) hg hl) fun p H2 hp e2 h2 => ?_
    have hml := mpi_len l
    have hno : EvL (tLc (iList K (tVar 1)) (gName 4) (tNot (tB (tCall sp_law_whole [] E0 (tCons (tVar 4) tNil)))) (tVar 4) [4]) [some (.str (S l)), some (.ref p), none, none, none, none] H2 [] := by
      have h3 := el_lcL (K := K) (σ := [some (.str (S l)), some (.ref p), none, none, none, none]) (H := H2) (a := p) (xs := (mpi l).map V.int) (tl := tVar 1) (j := 4) (vs := [4]) (t := tNot (tB (tCall sp_law_whole [] E0 (tCons (tVar 4) tNil)))) (te := tVar 4) (fun _ => false) (fun _ => V.non) (by exact ev_var rfl) (sq_of h2) (by rw [List.length_map]; omega) (fun x => rfl)
        (fun i x H3 _ hi => by
          obtain ⟨n, _, rfl⟩ := List.mem_map.mp (List.mem_of_getElem? hi)
          exact et_not (et_B (ev_whole (by exact ev_var rfl)))) (fun i x H3 _ hi hz => by cases hz)
      rw [given_none] at h3
      exact h3
    refine q_when (b := (!true || decide ((0 : Int) < (([] : List V).length : Int)))) (et_or (et_not (et_B (ev_cb (ea_cons (by exact ev_var rfl) (ea_cons ev_c ea_nil)) (rc_isLst h2)))) fun _ => et_test (ev_op (ev_cbL hno fun q' H3 hq' e3 => rc_lenL (K := K) (sq_of (K := K) hq')) ev_c rv_I0)) (fun hc => by simp at hc) (fun _ H3 e3 => ?_)
    have hdue : ∀ H4, EvL (tLc (iRng1 (tCons (tCB (fun xs H Q => ∃ z, xs = [V.str z] ∧ z.length ≤ sizeLine ∧ Q (.int z.length) H) (tCons (tVar 0) tNil)) tNil)) (gName 4) (tTest (tOp (fun x y H Q => ∃ (c : Nat) (z : Str), x = .str ⟨#[c]⟩ ∧ y = .str z ∧ Q (.bl (decide (c ∈ z.cps.toList))) H) (tOp rIxS (tVar 0) (tVar 4)) (tC (.str (S MK))))) (tVar 4) [4]) [some (.str (S l)), some (.ref p), none, none, none, none] H4 ((mpi l).map V.int) := fun H4 => by
      have h3 := el_lcR1 (σ := [some (.str (S l)), some (.ref p), none, none, none, none]) (H := H4) (j := 4) (vs := [4]) (t := tTest (tOp (fun x y H Q => ∃ (c : Nat) (z : Str), x = .str ⟨#[c]⟩ ∧ y = .str z ∧ Q (.bl (decide (c ∈ z.cps.toList))) H) (tOp rIxS (tVar 0) (tVar 4)) (tC (.str (S MK))))) (te := tVar 4) (ta := tCons (tCB (fun xs H Q => ∃ z, xs = [V.str z] ∧ z.length ≤ sizeLine ∧ Q (.int z.length) H) (tCons (tVar 0) tNil)) tNil) (n := (l.length : Int)) (fun i => decide (l.getD i 0 ∈ MK)) (fun i => V.int (i : Nat)) (ea_cons (ev_cb (ea_cons (by exact ev_var rfl) ea_nil) (rc_lenStr (by omega))) ea_nil) (by omega) (fun x => rfl)
        (fun i H5 _ hi => et_test (ev_op (ev_op (by exact ev_var rfl) (by exact ev_var rfl) (rv_ixSS (i := (i : Int)) (by omega) (by omega) hi)) ev_c rv_inSS)) (fun i H5 _ hi _ => by exact ev_var rfl)
      rw [Int.toNat_natCast] at h3
      rw [← mpl_eq]
      exact h3
    refine q_asgL (xs := (mpi l).map V.int) (hdue _) fun p2 H4 hp2 e4 h4 => ?_
    have hp3 := e4 _ _ (e3 _ _ h2)
    refine q_when (b := !decide (mpi l = mpi l)) (et_test (ev_op (by exact ev_var rfl) (by exact ev_var rfl) (rv_neLI (sq_of hp3) (sq_of h4)))) (fun hz => by rw [decide_eq_true rfl] at hz; cases hz) (fun _ H5 e5 => ?_)
    have hp4 := e5 _ _ hp3
    have h5 := e5 _ _ h4
    have hne : p2 ≠ p := fun z => by
      have hp2' : H3 p2 = none := hp2
      rw [z, e3 _ _ h2] at hp2'
      cases hp2'
    refine q_app hp4 (by exact ev_var rfl) (v := .int (l.length : Int)) (ev_cb (ea_cons (by exact ev_var rfl) ea_nil) (rc_lenStr (by omega))) (by rw [List.length_map]; omega) fun H6 e6 => ?_
    have h6 : upd H6 p (.lst ((mpi l).map V.int ++ [.int (l.length : Int)])) p2 = some (.lst ((mpi l).map V.int)) := by
      rw [upd_ne hne]
      exact e6 _ _ h5
    have e01 : Ex H (upd H6 p (.lst ((mpi l).map V.int ++ [.int (l.length : Int)]))) := Ex.mut ((((e1.trans e2).trans e3).trans e4).trans (e5.trans e6)) (fresh_back e1 hp)
    generalize upd H6 p (.lst ((mpi l).map V.int ++ [.int (l.length : Int)])) = H7 at h6 e01
    refine q_when (b := !decide (mpi l = mpi l)) (et_test (ev_opL1 (el_mp (by exact ev_var rfl) hg hl) (fun H8 _ => by exact ev_var rfl) fun q' H8 hq' e8 => rv_neLI (sq_of hq') (sq_of (e8 _ _ h6)))) (fun hz => by rw [decide_eq_true rfl] at hz; cases hz) (fun _ H8 e8 => ?_)
    refine q_asg (v := .int ((l.filter fun c => decide (c ∈ PG)).length : Nat)) (ev_call (ea_cons (by exact ev_var rfl) ea_nil) fun H9 e9 Q9 q9 E9 => ⟨l, rfl, hr, fun _ => q9, fun z => absurd hg z⟩) fun H9 e9 => ?_
    refine s_ret (v := .bl (true && decide (((l.filter fun c => decide (c ∈ PG)).length : Int) = ((l.filter fun c => decide (c ∈ PG)).length : Int)))) (ev_andV (ev_whole (by exact ev_var rfl)) fun _ => ev_op (by exact ev_var rfl) (y := .int ((l.filter fun c => decide (c ∈ PG)).length : Int)) ?_ rv_eqII) fun H10 e10 => ?_
    · have h7 := el_lcS (σ := [some (.str (S l)), some (.ref p), some (.ref p2), some (.int ((l.filter fun c => decide (c ∈ PG)).length : Int)), none, none]) (H := H9) (l := l) (tl := tVar 0) (j := 5) (vs := [5]) (t := tTest (tOp (fun x y H Q => ∃ (c : Nat) (z : Str), x = .str ⟨#[c]⟩ ∧ y = .str z ∧ Q (.bl (decide (c ∈ z.cps.toList))) H) (tVar 5) (tC (.str (S PG))))) (te := tVar 5)
        (fun i => decide (l.getD i 0 ∈ PG)) (fun i => V.str (S [l.getD i 0])) (by exact ev_var rfl) (by omega) (fun x => rfl)
        (fun i c H2 _ hi => et_test (by rw [at_getD hi]; exact ev_op (by exact ev_var rfl) ev_c rv_inSS)) (fun i c H2 _ hi _ => by rw [at_getD hi]; exact ev_var rfl)
      rw [given_filter l 0 (fun c => decide (c ∈ PG)) (fun c => V.str (S [c]))] at h7
      refine ev_cbL h7 fun q' H10 hq' e10 => ?_
      have h8 := rc_lenL (K := K) (sq_of (K := K) hq')
      rw [List.length_map] at h8
      exact h8
    · rw [decide_eq_true rfl]
      exact q H10 (((e01.trans e8).trans e9).trans e10)
end
end K00
namespace K00
open PySem PySem.Spec PyProof.Rows L2 Lc Evl
section
variable {P : Program} {w : World} {K : PySem.W.Frag} {mg : Str → Option Value} {base : Heap}
theorem q_first {σ : L2.St} {H : Hp} {te : TE} {tz : TS} {D : Ends} {i : Nat} (h : te σ H fun v H1 => tz D (σ.set i (some v)) H1) : tSeq (tAsg te (gName i)) tz D σ H := h
theorem op_fst {σ : L2.St} {H : Hp} {r : R2} {ta tb : TE} {Q : VK} (h : ta σ H fun x H1 => tb σ H1 fun y H2 => r x y H2 Q) : tOp r ta tb σ H Q := h
theorem op_c {σ : L2.St} {H : Hp} {r : R2} {tb : TE} {v : V} {Q : VK} (h : tb σ H fun y H2 => r v y H2 Q) : tOp r (tC v) tb σ H Q := h
theorem cons_fst {σ : L2.St} {H : Hp} {te : TE} {tr : TA} {Q : List V → Hp → Prop} (h : te σ H fun x H1 => tr σ H1 fun xs H2 => Q (x :: xs) H2) : tCons te tr σ H Q := h
theorem tup_fst {σ : L2.St} {H : Hp} {ta : TA} {Q : VK} (h : ta σ H fun vs H1 => vs.length ≤ sizeLine ∧ ∀ p, H1 p = none → Q (.ref p) (upd H1 p (.tup vs))) : tTup ta σ H Q := h
theorem asg_fst {σ : L2.St} {H : Hp} {te : TE} {D : Ends} {i : Nat} (h : te σ H fun v H1 => D.nx (σ.set i (some v)) H1) : tAsg te (gName i) D σ H := h
theorem ret_fst {σ : L2.St} {H : Hp} {te : TE} {D : Ends} (h : te σ H D.rt) : tRet te D σ H := h
/-! ### one place marked, or refused -/
theorem ok_law_text_H (T : Tx K mg w) : L2H.FnH P w K mg base (L2N.CX P w) 1 (d_law_text.at_ K) (fdOf K (d_law_text.at_ K)) ps_law_text sp_law_text := by
  obtain ⟨oc, od, dV, kV, doc, pm, an, cdv, ct, osl, e, lk, hcd, _, _⟩ := (h_law_text T).ex
  rw [e] at lk ⊢
  refine L2H.fn_ofH lk hcd sc_law_text (fun vs H Q E h => ?_) (fun A outer s H vs Q E p hot hr h => ⟨_,
      pss_one (ps_ret (pe_and (pe_callB call_isi (by rfl) (m_isinstance T) (by decide +kernel) (pa_cons (pv 0) (pa_cons (pe_bltn (v := .ty "str") (u := .type "str") (by rfl) (m_str T) (by decide +kernel) rfl) pa_nil))) (pe_one (pe_cmpR op_eq (pv 0) (pv 1) (nomark _))))), ?_⟩)
  · obtain ⟨a, b, rfl, _⟩ := h
    rfl
  · obtain ⟨a, b, rfl, q⟩ := h
    exact s_ret (v := .bl (true && decide (a = b))) (by repeat' (first | ((with_reducible refine ev_pow10 ?_ ?_ ?_) <;> first | rfl | decide) | (with_reducible refine fun (_ : _ = true) => ?_) | (with_reducible refine fun (_ : _ = false) => ?_) | (with_reducible exact ev_c) | ((with_reducible apply ev_var); rfl) | (with_reducible apply ev_op) | (with_reducible apply ev_un) | (with_reducible apply ev_cb) | (with_reducible apply ea_cons) | (with_reducible apply ev_andV) | (with_reducible apply ev_orV) | (with_reducible apply ev_notV) | (with_reducible apply ev_if) | (with_reducible apply eo_some) | (with_reducible apply el_lst) | (with_reducible exact ea_nil) | (with_reducible exact rv_I0) | (with_reducible exact ru_neg) | (with_reducible exact rv_ltS) | (with_reducible exact rv_inC) | (with_reducible exact rv_notInC) | (with_reducible exact rc_intI) | (with_reducible exact rc_intB) | (with_reducible exact rc_min2) | (with_reducible exact rc_isStr) | (with_reducible exact eo_none) | (with_reducible exact rv_inSS) | (with_reducible exact rv_notInSS) | (with_reducible exact rv_ltSS) | (with_reducible exact rv_eqSS) | (with_reducible exact rv_eqII) | (with_reducible exact rv_neII) | (with_reducible exact rv_neSS) | ((with_reducible refine rc_lenSS ?_); (first | assumption | omega | decide | (simp only [S_len] at *; omega))) | ((with_reducible refine rc_lenStr ?_); (first | assumption | omega | decide | (simp only [S_len] at *; omega))) | ((with_reducible refine rv_catSS ?_); (first | assumption | omega | decide | (simp only [S_len] at *; omega))) | (with_reducible exact rv_eq rfl) | (with_reducible exact rv_ne rfl) | ((with_reducible refine rc_lenS ?_); (first | assumption | omega | decide | (simp only [S_len] at *; omega))) | ((with_reducible refine rc_lenL ?_); assumption) | ((with_reducible apply rv_ixL); assumption; rfl) | ((with_reducible refine rv_catS ?_); (first | assumption | omega | decide | (simp only [S_len] at *; omega))) | ((with_reducible refine rv_I ?_); (first | (show (0 : Int) < _; (first | assumption | omega | decide | (simp only [S_len] at *; omega))) | exact .inr ⟨by decide, by decide⟩ | exact .inl ⟨by (first | assumption | omega | decide | (simp only [S_len] at *; omega)), by (first | assumption | omega | decide | (simp only [S_len] at *; omega))⟩ | exact .inr ⟨by (first | assumption | omega | decide | (simp only [S_len] at *; omega)), by (first | assumption | omega | decide | (simp only [S_len] at *; omega))⟩ | exact ⟨by decide, by decide, by decide⟩ | exact wide_div (b := 128) (by (first | assumption | omega | decide | (simp only [S_len] at *; omega))) (by (first | assumption | omega | decide | (simp only [S_len] at *; omega))) (by decide) (by decide))))) fun H1 e1 => q H1 e1
theorem ok_law_whole_H (T : Tx K mg w) : L2H.FnH P w K mg base (L2N.CX P w) 1 (d_law_whole.at_ K) (fdOf K (d_law_whole.at_ K)) ps_law_whole sp_law_whole := by
  obtain ⟨oc, od, dV, kV, doc, pm, an, cdv, ct, osl, e, lk, hcd, _, _⟩ := (h_law_whole T).ex
  rw [e] at lk ⊢
  refine L2H.fn_ofH lk hcd sc_law_whole (fun vs H Q E h => ?_) (fun A outer s H vs Q E p hot hr h => ⟨_,
      (pss_one (ps_ret (pe_and (pe_callB call_isi (by rfl) (m_isinstance T) (by decide +kernel) (pa_cons (pv 0) (pa_cons (pe_bltn (v := .ty "int") (u := .type "int") (by rfl) (m_int T) (by decide +kernel) rfl) pa_nil))) (pe_one (pe_not (pe_callB call_isi (by rfl) (m_isinstance T) (by decide +kernel) (pa_cons (pv 0) (pa_cons (pe_bltn (v := .ty "bool") (u := .type "bool") (by rfl) (m_bool T) (by decide +kernel) rfl) pa_nil)))))))), ?_⟩)
  · obtain ⟨i, rfl, _⟩ := h
    rfl
  · obtain ⟨i, rfl, q⟩ := h
    exact s_ret (v := .bl (true && !false)) (ev_andV (ev_cb (ea_cons (by exact ev_var rfl) (ea_cons ev_c ea_nil)) rc_isInt) fun _ => ev_notV (ev_cb (ea_cons (by exact ev_var rfl) (ea_cons ev_c ea_nil)) rc_isIntB)) fun H1 e1 => q H1 e1
theorem am_good : ∀ c ∈ SG, c ≠ 35 → am c ∈ SG ∧ am c ≠ 35 := by decide +kernel
theorem ev_mrk {σ : L2.St} {H : Hp} {tr tp : TE} {l : List Nat} {k : Nat} (hg : Good l) (hl : l.length ≤ 1000) (hk : k < l.length) (hn : l.getD k 0 ≠ 35) (hr : ∀ H1, Ev tr σ H1 (.str (S l))) (hp : ∀ H1, Ev tp σ H1 (.int (k : Int))) :
    Ev (tOp (fun x y H Q => ∃ i j, x = .str i ∧ y = .str j ∧ i.length + j.length ≤ sizeLine ∧ Q (.str (i ++ j)) H) (tOp (fun x y H Q => ∃ i j, x = .str i ∧ y = .str j ∧ i.length + j.length ≤ sizeLine ∧ Q (.str (i ++ j)) H) (tSl rSlS tr tNoPart (tPart tp)) (tCall sp_law_dotted [] E0 (tCons (tOp rIxS tr tp) tNil))) (tSl rSlS tr (tPart (tOp (rI0 fun i j => V.int (i + j)) tp (tC (V.int 1)))) tNoPart)) σ H (.str (S (mrk l k))) := by
  refine ev_op (ev_op (ev_to (k := k) (hr _) (hp _) (by omega)) (y := .str (S [am (l.getD k 0)])) (ev_dotted (ev_op (hr _) (hp _) (rv_ixSS (i := (k : Int)) (by omega) (by omega) (by omega))) (hg _ (getD_in hk)) hn) (rv_catSS (by rw [List.length_take]; simp; omega)))
    (ev_from (k := k + 1) (hr _) (by rw [show ((k + 1 : Nat) : Int) = (k : Int) + 1 by omega]; exact ev_op (hp _) ev_c rv_I0) (by omega)) (rv_catSS (by rw [List.length_append, List.length_take, List.length_drop]; simp; omega))
def sp_law_marks : Sp := fun vs H Q _ => ∃ (l : List Nat) (p : Int), vs = [.str (S l), .int p] ∧ Good l ∧ l.length ≤ 1000 ∧ p.natAbs.log2 < 1900 ∧ RetV (.bl true) H Q
theorem ok_law_marks (T : Tx K mg w) : OkD P w K mg base 5 d_law_marks ps_law_marks sp_law_marks := by
  refine (h_law_marks T).ok sc_law_marks (fun vs H Q E h => ?_) (fun cdv A outer s H vs Q E hr h => ⟨_,
      (pss_cons (ps_set (i := 2) sc_law_marks.nd rfl (Or.inl rfl) (pe_chain op_le op_lt pe_int (pv 1) (pe_callB call_len_str (by rfl) (m_len T) (by decide +kernel) (pa_cons (pv 0) pa_nil))))
      (pss_cons (ps_if (pt_val (pv 2)) (pss_one (ps_set (i := 2) sc_law_marks.nd rfl (Or.inl rfl) (pe_cmpR op_ne (pe_ix ix_str (pv 0) (pv 1) (fun _ _ => rfl)) pe_str (nomark _)))) pss_nil)
      (pss_cons (L2N.ps_try_as (i := 3) (Wout := fun _ _ _ _ => False) rfl rfl sc_law_marks.nd rfl rfl ⟨rfl, by decide, Or.inl (m_LeapError T)⟩ takes0N
        (fun W pn xe tk _ => (pss_one (ps_set (i := 4) sc_law_marks.nd rfl (Or.inl rfl) (pe_callSD (ok_marked (P := P) (w := w) (base := base) T) (hr.mono (by decide)) (by rfl) (m_marked T) (k_marked T) (b_marked T) .nil (fun σ => L2N.passAt tk σ) (pa_cons (pv 0) (pa_cons (pv 1) pa_nil))))))
        (fun a oe cls d pn hz hf => pss_cons (ps_if (PW.pt (pw_or (pt_val (pv 2)) (pw_or1 (pt_not (pt_val (pe_callB (call_isX (D := He.ga K "InvalidPlace") hz.zc hf) (by rfl) (m_isinstance T) (by decide +kernel) (pa_cons (pv 3) (pa_cons (pe_glob (v := .ref (He.ga K "InvalidPlace")) rfl (m_InvalidPlace T) rfl) pa_nil)))))))) (pss_one (ps_ret pe_bl)) pss_nil)
          (pss_one (ps_ret (pe_and (L2H.pe_callH (ok_law_whole_H (P := P) (w := w) (base := base) T) ⟨(hr.mono (show 1 ≤ 4 by decide)).dp, (hr.mono (show 1 ≤ 4 by decide)).un⟩ (hot_suite hz hf) (by rfl) (m_law_whole T) (k_law_whole T) (b_law_whole T) (fun _ => passAtN) (pa_cons (pe_xf (x_InvalidPlace T).xf (x_InvalidPlace T).no hz.zc hf (pv 3)) pa_nil))
            (pe_one (pe_cmpR op_eq (pe_xf (x_InvalidPlace T).xf (x_InvalidPlace T).no hz.zc hf (pv 3)) (pv 1) (nomark _))))))))
      (pss_one (ps_ret (pe_and (pv 2) (pe_one (pe_call (ok_law_text (P := P) (w := w) (base := base) T) (hr.mono (by decide)) (by rfl) (m_law_text T) (k_law_text T) (b_law_text T) .nil passN (pa_cons (pv 4) (pa_cons
        (pe_op op_add_str (pe_op op_add_str (pe_slice sl_str (pv 0) po_none (po_some (pv 1))) (pe_call (ok_law_dotted (P := P) (w := w) (base := base) T) (hr.mono (by decide)) (by rfl) (m_law_dotted T) (k_law_dotted T) (b_law_dotted T) .nil passN (pa_cons (pe_ix ix_str (pv 0) (pv 1) (fun _ _ => rfl)) pa_nil))) (pe_slice sl_str (pv 0) (po_some (pe_op op_add (pv 1) pe_int)) po_none)) pa_nil)))))))))), ?_⟩)
  · obtain ⟨l, p, rfl, _⟩ := h
    rfl
  · obtain ⟨l, p, rfl, hg, hl, hp, q⟩ := h
    have k1 : Str.ofString "#" = S [35] := by decide +kernel
    simp only [k1]
    refine q_asg (v := .bl (decide (0 ≤ p) && decide (p < (l.length : Int)))) (ev_chain ev_c (by exact ev_var rfl) rv_I0 (fun _ => ev_cb (ea_cons (by exact ev_var rfl) ea_nil) (rc_lenStr (by omega))) fun _ => rv_I0) fun H1 e1 => ?_
    refine q_ifAsg (b := (decide (0 ≤ p) && decide (p < (l.length : Int)))) (v := .bl (okPl l p)) (et_B (by exact ev_var rfl)) (fun hb => ?_) (fun hb => ?_) fun H2 e2 => ?_
    · have hb2 := hb
      simp only [Bool.and_eq_true, decide_eq_true_eq] at hb2
      unfold okPl
      rw [hb, Bool.true_and]
      exact ev_op (ev_op (by exact ev_var rfl) (by exact ev_var rfl) (rv_ixSS (by omega) hb2.1 hb2.2)) ev_c rv_neSS
    · unfold okPl
      rw [hb]
      rfl
    replace e1 := e1.trans e2
    refine ⟨_, rfl, _, rfl, l, p, rfl, ⟨hl, hg.low⟩, hp, fun _ hok H3 e3 => ?_, fun _ hno d H3 hd e3 hx => ?_, fun z => absurd hg z⟩
    · dsimp only [gName]
      obtain ⟨⟨h0, h1⟩, h2⟩ := okPl_iff.mp hok
      obtain ⟨k, rfl⟩ : ∃ k : Nat, p = (k : Int) := ⟨p.toNat, by omega⟩
      refine s_ret (v := .bl (okPl l (k : Int) && true)) (ev_andV (by exact ev_var rfl) fun _ => ev_text (l := mrk l k) (by exact ev_var rfl) (ev_mrk hg hl (by omega) h2 (fun _ => by exact ev_var rfl) (fun _ => by exact ev_var rfl)) rfl) fun H4 e4 => ?_
      rw [hok]
      exact q H4 ((e1.trans e3).trans e4)
    · refine ⟨true, (x_InvalidPlace T).exm, fun _ a' ha' => ?_, fun z => by cases z⟩
      dsimp only
      have rx : RC (rIsX (He.ga K "InvalidPlace") a' (.ref (He.ga K "InvalidPlace")) (some d)) [.ref a', .ref (He.ga K "InvalidPlace")] H3 (.bl true) := fun H4 e Q q => ⟨d, _, rfl, rfl, rfl, e _ _ hx, q H4 (Ex.refl H4)⟩
      refine q_when (b := (okPl l p || !true)) (et_or (et_B (by exact ev_var rfl)) fun _ => et_not (et_B (ev_cb (ea_cons (ta := tVar 3) (by exact ev_var rfl) (ea_cons ev_c ea_nil)) rx))) (fun hc => by rw [hno] at hc; cases hc) (fun _ H4 e4 => ?_)
      refine ret_fst ?_
      refine ⟨_, rfl, rfl, rfl, d, _, _, rfl, e4 _ _ hx, rfl, p, rfl, fun H5 e5 => ⟨true, rfl, ?_⟩⟩
      rw [if_pos rfl]
      refine ⟨_, rfl, rfl, rfl, d, _, _, rfl, e5 _ _ (e4 _ _ hx), rfl, _, rfl, rfl, ?_⟩
      rw [decide_eq_true rfl]
      exact q H5 (((e1.trans e3).trans e4).trans e5)
/-! ### rows refused -/
def sp_law_call (K : PySem.W.Frag) : Sp := fun vs H Q E => ∃ (which : Int) (l : List Nat) (p : Int), vs = [.int which, .str (S l), .int p] ∧ Row l ∧ ¬ Good l ∧ p.natAbs.log2 < 1900 ∧ Bad K "InvalidRow" "row" H E (.str (S l))
theorem ok_law_call (T : Tx K mg w) : OkD P w K mg base 5 d_law_call ps_law_call (sp_law_call K) := by
  refine (h_law_call T).ok sc_law_call (fun vs H Q E h => ?_) (fun cdv A outer s H vs Q E hr h => ⟨_,
      (pss_cons (ps_if (pt_cmpR op_eq (pv 0) pe_int (nomark _)) (pss_one (ps_ret (pe_callSD (ok_plain (P := P) (w := w) (base := base) T) (hr.mono (by decide)) (by rfl) (m_plain T) (k_plain T) (b_plain T) .nil (fun σ => L2N.passAt (L2N.takes_of rfl rfl rfl rfl) σ) (pa_cons (pv 1) pa_nil)))) pss_nil)
      (pss_cons (ps_if (pt_cmpR op_eq (pv 0) pe_int (nomark _)) (pss_one (ps_ret (pe_callSD (ok_marked_places (P := P) (w := w) (base := base) T) (hr.mono (by decide)) (by rfl) (m_marked_places T) (k_marked_places T) (b_marked_places T) .nil (fun σ => L2N.passAt (L2N.takes_of rfl rfl rfl rfl) σ) (pa_cons (pv 1) pa_nil)))) pss_nil)
      (pss_cons (ps_if (pt_cmpR op_eq (pv 0) pe_int (nomark _)) (pss_one (ps_ret (pe_callSD (ok_pegs (P := P) (w := w) (base := base) T) (hr.mono (by decide)) (by rfl) (m_pegs T) (k_pegs T) (b_pegs T) .nil (fun σ => L2N.passAt (L2N.takes_of rfl rfl rfl rfl) σ) (pa_cons (pv 1) pa_nil)))) pss_nil)
      (pss_one (ps_ret (pe_callSD (ok_marked (P := P) (w := w) (base := base) T) (hr.mono (by decide)) (by rfl) (m_marked T) (k_marked T) (b_marked T) .nil (fun σ => L2N.passAt (L2N.takes_of rfl rfl rfl rfl) σ) (pa_cons (pv 1) (pa_cons (pv 2) pa_nil)))))))), ?_⟩)
  · obtain ⟨which, l, p, rfl, _⟩ := h
    rfl
  · obtain ⟨which, l, p, rfl, hr1, hg, hp, q⟩ := h
    refine q_when (b := decide (which = 0)) (by first | ((with_reducible apply et_test); (repeat' (first | ((with_reducible refine ev_pow10 ?_ ?_ ?_) <;> first | rfl | decide) | (with_reducible refine fun (_ : _ = true) => ?_) | (with_reducible refine fun (_ : _ = false) => ?_) | (with_reducible exact ev_c) | ((with_reducible apply ev_var); rfl) | (with_reducible apply ev_op) | (with_reducible apply ev_un) | (with_reducible apply ev_cb) | (with_reducible apply ea_cons) | (with_reducible apply ev_andV) | (with_reducible apply ev_orV) | (with_reducible apply ev_notV) | (with_reducible apply ev_if) | (with_reducible apply eo_some) | (with_reducible apply el_lst) | (with_reducible exact ea_nil) | (with_reducible exact rv_I0) | (with_reducible exact ru_neg) | (with_reducible exact rv_ltS) | (with_reducible exact rv_inC) | (with_reducible exact rv_notInC) | (with_reducible exact rc_intI) | (with_reducible exact rc_intB) | (with_reducible exact rc_min2) | (with_reducible exact rc_isStr) | (with_reducible exact eo_none) | (with_reducible exact rv_inSS) | (with_reducible exact rv_notInSS) | (with_reducible exact rv_ltSS) | (with_reducible exact rv_eqSS) | (with_reducible exact rv_eqII) | (with_reducible exact rv_neII) | (with_reducible exact rv_neSS) | ((with_reducible refine rc_lenSS ?_); (first | assumption | omega | decide | (simp only [S_len] at *; omega))) | ((with_reducible refine rc_lenStr ?_); (first | assumption | omega | decide | (simp only [S_len] at *; omega))) | ((with_reducible refine rv_catSS ?_); (first | assumption | omega | decide | (simp only [S_len] at *; omega))) | (with_reducible exact rv_eq rfl) | (with_reducible exact rv_ne rfl) | ((with_reducible refine rc_lenS ?_); (first | assumption | omega | decide | (simp only [S_len] at *; omega))) | ((with_reducible refine rc_lenL ?_); assumption) | ((with_reducible apply rv_ixL); assumption; rfl) | ((with_reducible refine rv_catS ?_); (first | assumption | omega | decide | (simp only [S_len] at *; omega))) | ((with_reducible refine rv_I ?_); (first | (show (0 : Int) < _; (first | assumption | omega | decide | (simp only [S_len] at *; omega))) | exact .inr ⟨by decide, by decide⟩ | exact .inl ⟨by (first | assumption | omega | decide | (simp only [S_len] at *; omega)), by (first | assumption | omega | decide | (simp only [S_len] at *; omega))⟩ | exact .inr ⟨by (first | assumption | omega | decide | (simp only [S_len] at *; omega)), by (first | assumption | omega | decide | (simp only [S_len] at *; omega))⟩ | exact ⟨by decide, by decide, by decide⟩ | exact wide_div (b := 128) (by (first | assumption | omega | decide | (simp only [S_len] at *; omega))) (by (first | assumption | omega | decide | (simp only [S_len] at *; omega))) (by decide) (by decide)))))) | ((with_reducible apply et_B); (repeat' (first | ((with_reducible refine ev_pow10 ?_ ?_ ?_) <;> first | rfl | decide) | (with_reducible refine fun (_ : _ = true) => ?_) | (with_reducible refine fun (_ : _ = false) => ?_) | (with_reducible exact ev_c) | ((with_reducible apply ev_var); rfl) | (with_reducible apply ev_op) | (with_reducible apply ev_un) | (with_reducible apply ev_cb) | (with_reducible apply ea_cons) | (with_reducible apply ev_andV) | (with_reducible apply ev_orV) | (with_reducible apply ev_notV) | (with_reducible apply ev_if) | (with_reducible apply eo_some) | (with_reducible apply el_lst) | (with_reducible exact ea_nil) | (with_reducible exact rv_I0) | (with_reducible exact ru_neg) | (with_reducible exact rv_ltS) | (with_reducible exact rv_inC) | (with_reducible exact rv_notInC) | (with_reducible exact rc_intI) | (with_reducible exact rc_intB) | (with_reducible exact rc_min2) | (with_reducible exact rc_isStr) | (with_reducible exact eo_none) | (with_reducible exact rv_inSS) | (with_reducible exact rv_notInSS) | (with_reducible exact rv_ltSS) | (with_reducible exact rv_eqSS) | (with_reducible exact rv_eqII) | (with_reducible exact rv_neII) | (with_reducible exact rv_neSS) | ((with_reducible refine rc_lenSS ?_); (first | assumption | omega | decide | (simp only [S_len] at *; omega))) | ((with_reducible refine rc_lenStr ?_); (first | assumption | omega | decide | (simp only [S_len] at *; omega))) | ((with_reducible refine rv_catSS ?_); (first | assumption | omega | decide | (simp only [S_len] at *; omega))) | (with_reducible exact rv_eq rfl) | (with_reducible exact rv_ne rfl) | ((with_reducible refine rc_lenS ?_); (first | assumption | omega | decide | (simp only [S_len] at *; omega))) | ((with_reducible refine rc_lenL ?_); assumption) | ((with_reducible apply rv_ixL); assumption; rfl) | ((with_reducible refine rv_catS ?_); (first | assumption | omega | decide | (simp only [S_len] at *; omega))) | ((with_reducible refine rv_I ?_); (first | (show (0 : Int) < _; (first | assumption | omega | decide | (simp only [S_len] at *; omega))) | exact .inr ⟨by decide, by decide⟩ | exact .inl ⟨by (first | assumption | omega | decide | (simp only [S_len] at *; omega)), by (first | assumption | omega | decide | (simp only [S_len] at *; omega))⟩ | exact .inr ⟨by (first | assumption | omega | decide | (simp only [S_len] at *; omega)), by (first | assumption | omega | decide | (simp only [S_len] at *; omega))⟩ | exact ⟨by decide, by decide, by decide⟩ | exact wide_div (b := 128) (by (first | assumption | omega | decide | (simp only [S_len] at *; omega))) (by (first | assumption | omega | decide | (simp only [S_len] at *; omega))) (by decide) (by decide))))))) (fun hc H1 e1 => ?_) (fun hc H1 e1 => ?_)
    · exact ⟨_, rfl, l, rfl, hr1, fun z => absurd z hg, fun _ => q.ex e1⟩
    refine q_when (b := decide (which = 1)) (by first | ((with_reducible apply et_test); (repeat' (first | ((with_reducible refine ev_pow10 ?_ ?_ ?_) <;> first | rfl | decide) | (with_reducible refine fun (_ : _ = true) => ?_) | (with_reducible refine fun (_ : _ = false) => ?_) | (with_reducible exact ev_c) | ((with_reducible apply ev_var); rfl) | (with_reducible apply ev_op) | (with_reducible apply ev_un) | (with_reducible apply ev_cb) | (with_reducible apply ea_cons) | (with_reducible apply ev_andV) | (with_reducible apply ev_orV) | (with_reducible apply ev_notV) | (with_reducible apply ev_if) | (with_reducible apply eo_some) | (with_reducible apply el_lst) | (with_reducible exact ea_nil) | (with_reducible exact rv_I0) | (with_reducible exact ru_neg) | (with_reducible exact rv_ltS) | (with_reducible exact rv_inC) | (with_reducible exact rv_notInC) | (with_reducible exact rc_intI) | (with_reducible exact rc_intB) | (with_reducible exact rc_min2) | (with_reducible exact rc_isStr) | (with_reducible exact eo_none) | (with_reducible exact rv_inSS) | (with_reducible exact rv_notInSS) | (with_reducible exact rv_ltSS) | (with_reducible exact rv_eqSS) | (with_reducible exact rv_eqII) | (with_reducible exact rv_neII) | (with_reducible exact rv_neSS) | ((with_reducible refine rc_lenSS ?_); (first | assumption | omega | decide | (simp only [S_len] at *; omega))) | ((with_reducible refine rc_lenStr ?_); (first | assumption | omega | decide | (simp only [S_len] at *; omega))) | ((with_reducible refine rv_catSS ?_); (first | assumption | omega | decide | (simp only [S_len] at *; omega))) | (with_reducible exact rv_eq rfl) | (with_reducible exact rv_ne rfl) | ((with_reducible refine rc_lenS ?_); (first | assumption | omega | decide | (simp only [S_len] at *; omega))) | ((with_reducible refine rc_lenL ?_); assumption) | ((with_reducible apply rv_ixL); assumption; rfl) | ((with_reducible refine rv_catS ?_); (first | assumption | omega | decide | (simp only [S_len] at *; omega))) | ((with_reducible refine rv_I ?_); (first | (show (0 : Int) < _; (first | assumption | omega | decide | (simp only [S_len] at *; omega))) | exact .inr ⟨by decide, by decide⟩ | exact .inl ⟨by (first | assumption | omega | decide | (simp only [S_len] at *; omega)), by (first | assumption | omega | decide | (simp only [S_len] at *; omega))⟩ | exact .inr ⟨by (first | assumption | omega | decide | (simp only [S_len] at *; omega)), by (first | assumption | omega | decide | (simp only [S_len] at *; omega))⟩ | exact ⟨by decide, by decide, by decide⟩ | exact wide_div (b := 128) (by (first | assumption | omega | decide | (simp only [S_len] at *; omega))) (by (first | assumption | omega | decide | (simp only [S_len] at *; omega))) (by decide) (by decide)))))) | ((with_reducible apply et_B); (repeat' (first | ((with_reducible refine ev_pow10 ?_ ?_ ?_) <;> first | rfl | decide) | (with_reducible refine fun (_ : _ = true) => ?_) | (with_reducible refine fun (_ : _ = false) => ?_) | (with_reducible exact ev_c) | ((with_reducible apply ev_var); rfl) | (with_reducible apply ev_op) | (with_reducible apply ev_un) | (with_reducible apply ev_cb) | (with_reducible apply ea_cons) | (with_reducible apply ev_andV) | (with_reducible apply ev_orV) | (with_reducible apply ev_notV) | (with_reducible apply ev_if) | (with_reducible apply eo_some) | (with_reducible apply el_lst) | (with_reducible exact ea_nil) | (with_reducible exact rv_I0) | (with_reducible exact ru_neg) | (with_reducible exact rv_ltS) | (with_reducible exact rv_inC) | (with_reducible exact rv_notInC) | (with_reducible exact rc_intI) | (with_reducible exact rc_intB) | (with_reducible exact rc_min2) | (with_reducible exact rc_isStr) | (with_reducible exact eo_none) | (with_reducible exact rv_inSS) | (with_reducible exact rv_notInSS) | (with_reducible exact rv_ltSS) | (with_reducible exact rv_eqSS) | (with_reducible exact rv_eqII) | (with_reducible exact rv_neII) | (with_reducible exact rv_neSS) | ((with_reducible refine rc_lenSS ?_); (first | assumption | omega | decide | (simp only [S_len] at *; omega))) | ((with_reducible refine rc_lenStr ?_); (first | assumption | omega | decide | (simp only [S_len] at *; omega))) | ((with_reducible refine rv_catSS ?_); (first | assumption | omega | decide | (simp only [S_len] at *; omega))) | (with_reducible exact rv_eq rfl) | (with_reducible exact rv_ne rfl) | ((with_reducible refine rc_lenS ?_); (first | assumption | omega | decide | (simp only [S_len] at *; omega))) | ((with_reducible refine rc_lenL ?_); assumption) | ((with_reducible apply rv_ixL); assumption; rfl) | ((with_reducible refine rv_catS ?_); (first | assumption | omega | decide | (simp only [S_len] at *; omega))) | ((with_reducible refine rv_I ?_); (first | (show (0 : Int) < _; (first | assumption | omega | decide | (simp only [S_len] at *; omega))) | exact .inr ⟨by decide, by decide⟩ | exact .inl ⟨by (first | assumption | omega | decide | (simp only [S_len] at *; omega)), by (first | assumption | omega | decide | (simp only [S_len] at *; omega))⟩ | exact .inr ⟨by (first | assumption | omega | decide | (simp only [S_len] at *; omega)), by (first | assumption | omega | decide | (simp only [S_len] at *; omega))⟩ | exact ⟨by decide, by decide, by decide⟩ | exact wide_div (b := 128) (by (first | assumption | omega | decide | (simp only [S_len] at *; omega))) (by (first | assumption | omega | decide | (simp only [S_len] at *; omega))) (by decide) (by decide))))))) (fun hc H2 e2 => ?_) (fun hc H2 e2 => ?_)
    · exact ⟨_, rfl, l, rfl, hr1, fun z => absurd z hg, fun _ => q.ex (e1.trans e2)⟩
    refine q_when (b := decide (which = 2)) (by first | ((with_reducible apply et_test); (repeat' (first | ((with_reducible refine ev_pow10 ?_ ?_ ?_) <;> first | rfl | decide) | (with_reducible refine fun (_ : _ = true) => ?_) | (with_reducible refine fun (_ : _ = false) => ?_) | (with_reducible exact ev_c) | ((with_reducible apply ev_var); rfl) | (with_reducible apply ev_op) | (with_reducible apply ev_un) | (with_reducible apply ev_cb) | (with_reducible apply ea_cons) | (with_reducible apply ev_andV) | (with_reducible apply ev_orV) | (with_reducible apply ev_notV) | (with_reducible apply ev_if) | (with_reducible apply eo_some) | (with_reducible apply el_lst) | (with_reducible exact ea_nil) | (with_reducible exact rv_I0) | (with_reducible exact ru_neg) | (with_reducible exact rv_ltS) | (with_reducible exact rv_inC) | (with_reducible exact rv_notInC) | (with_reducible exact rc_intI) | (with_reducible exact rc_intB) | (with_reducible exact rc_min2) | (with_reducible exact rc_isStr) | (with_reducible exact eo_none) | (with_reducible exact rv_inSS) | (with_reducible exact rv_notInSS) | (with_reducible exact rv_ltSS) | (with_reducible exact rv_eqSS) | (with_reducible exact rv_eqII) | (with_reducible exact rv_neII) | (with_reducible exact rv_neSS) | ((with_reducible refine rc_lenSS ?_); (first | assumption | omega | decide | (simp only [S_len] at *; omega))) | ((with_reducible refine rc_lenStr ?_); (first | assumption | omega | decide | (simp only [S_len] at *; omega))) | ((with_reducible refine rv_catSS ?_); (first | assumption | omega | decide | (simp only [S_len] at *; omega))) | (with_reducible exact rv_eq rfl) | (with_reducible exact rv_ne rfl) | ((with_reducible refine rc_lenS ?_); (first | assumption | omega | decide | (simp only [S_len] at *; omega))) | ((with_reducible refine rc_lenL ?_); assumption) | ((with_reducible apply rv_ixL); assumption; rfl) | ((with_reducible refine rv_catS ?_); (first | assumption | omega | decide | (simp only [S_len] at *; omega))) | ((with_reducible refine rv_I ?_); (first | (show (0 : Int) < _; (first | assumption | omega | decide | (simp only [S_len] at *; omega))) | exact .inr ⟨by decide, by decide⟩ | exact .inl ⟨by (first | assumption | omega | decide | (simp only [S_len] at *; omega)), by (first | assumption | omega | decide | (simp only [S_len] at *; omega))⟩ | exact .inr ⟨by (first | assumption | omega | decide | (simp only [S_len] at *; omega)), by (first | assumption | omega | decide | (simp only [S_len] at *; omega))⟩ | exact ⟨by decide, by decide, by decide⟩ | exact wide_div (b := 128) (by (first | assumption | omega | decide | (simp only [S_len] at *; omega))) (by (first | assumption | omega | decide | (simp only [S_len] at *; omega))) (by decide) (by decide)))))) | ((with_reducible apply et_B); (repeat' (first | ((with_reducible refine ev_pow10 ?_ ?_ ?_) <;> first | rfl | decide) | (with_reducible refine fun (_ : _ = true) => ?_) | (with_reducible refine fun (_ : _ = false) => ?_) | (with_reducible exact ev_c) | ((with_reducible apply ev_var); rfl) | (with_reducible apply ev_op) | (with_reducible apply ev_un) | (with_reducible apply ev_cb) | (with_reducible apply ea_cons) | (with_reducible apply ev_andV) | (with_reducible apply ev_orV) | (with_reducible apply ev_notV) | (with_reducible apply ev_if) | (with_reducible apply eo_some) | (with_reducible apply el_lst) | (with_reducible exact ea_nil) | (with_reducible exact rv_I0) | (with_reducible exact ru_neg) | (with_reducible exact rv_ltS) | (with_reducible exact rv_inC) | (with_reducible exact rv_notInC) | (with_reducible exact rc_intI) | (with_reducible exact rc_intB) | (with_reducible exact rc_min2) | (with_reducible exact rc_isStr) | (with_reducible exact eo_none) | (with_reducible exact rv_inSS) | (with_reducible exact rv_notInSS) | (with_reducible exact rv_ltSS) | (with_reducible exact rv_eqSS) | (with_reducible exact rv_eqII) | (with_reducible exact rv_neII) | (with_reducible exact rv_neSS) | ((with_reducible refine rc_lenSS ?_); (first | assumption | omega | decide | (simp only [S_len] at *; omega))) | ((with_reducible refine rc_lenStr ?_); (first | assumption | omega | decide | (simp only [S_len] at *; omega))) | ((with_reducible refine rv_catSS ?_); (first | assumption | omega | decide | (simp only [S_len] at *; omega))) | (with_reducible exact rv_eq rfl) | (with_reducible exact rv_ne rfl) | ((with_reducible refine rc_lenS ?_); (first | assumption | omega | decide | (simp only [S_len] at *; omega))) | ((with_reducible refine rc_lenL ?_); assumption) | ((with_reducible apply rv_ixL); assumption; rfl) | ((with_reducible refine rv_catS ?_); (first | assumption | omega | decide | (simp only [S_len] at *; omega))) | ((with_reducible refine rv_I ?_); (first | (show (0 : Int) < _; (first | assumption | omega | decide | (simp only [S_len] at *; omega))) | exact .inr ⟨by decide, by decide⟩ | exact .inl ⟨by (first | assumption | omega | decide | (simp only [S_len] at *; omega)), by (first | assumption | omega | decide | (simp only [S_len] at *; omega))⟩ | exact .inr ⟨by (first | assumption | omega | decide | (simp only [S_len] at *; omega)), by (first | assumption | omega | decide | (simp only [S_len] at *; omega))⟩ | exact ⟨by decide, by decide, by decide⟩ | exact wide_div (b := 128) (by (first | assumption | omega | decide | (simp only [S_len] at *; omega))) (by (first | assumption | omega | decide | (simp only [S_len] at *; omega))) (by decide) (by decide))))))) (fun hc H3 e3 => ?_) (fun hc H3 e3 => ?_)
    · exact ⟨_, rfl, l, rfl, hr1, fun z => absurd z hg, fun _ => q.ex ((e1.trans e2).trans e3)⟩
    · exact ⟨_, rfl, _, rfl, l, p, rfl, hr1, hp, fun z => absurd z hg, fun z => absurd z hg, fun _ => q.ex ((e1.trans e2).trans e3)⟩
def sp_law_refuses : Sp := fun vs H Q _ => ∃ (which : Int) (l : List Nat) (p : Int), vs = [.int which, .str (S l), .int p] ∧ Row l ∧ ¬ Good l ∧ p.natAbs.log2 < 1900 ∧ RetV (.bl true) H Q
theorem ok_law_refuses (T : Tx K mg w) : OkD P w K mg base 6 d_law_refuses ps_law_refuses sp_law_refuses := by
  refine (h_law_refuses T).ok sc_law_refuses (fun vs H Q E h => ?_) (fun cdv A outer s H vs Q E hr h => ⟨_,
      (pss_cons (L2N.ps_try_as (i := 3) (Wout := fun _ _ _ _ => False) rfl rfl sc_law_refuses.nd rfl rfl ⟨rfl, by decide, Or.inl (m_LeapError T)⟩ takes0N
        (fun W pn xe tk _ => pss_one (ps_expr (pe_callSD (ok_law_call (P := P) (w := w) (base := base) T) (hr.mono (by decide)) (by rfl) (m_law_call T) (k_law_call T) (b_law_call T) .nil (fun σ => L2N.passAt tk σ) (pa_cons (pv 0) (pa_cons (pv 1) (pa_cons (pv 2) pa_nil))))))
        (fun a oe cls d pn hz hf => pss_one (ps_ret (pe_and (pe_callB (call_isX (D := He.ga K "InvalidRow") hz.zc hf) (by rfl) (m_isinstance T) (by decide +kernel) (pa_cons (pv 3) (pa_cons (pe_glob (v := .ref (He.ga K "InvalidRow")) rfl (m_InvalidRow T) rfl) pa_nil)))
          (pe_one (L2H.pe_callH (ok_law_text_H (P := P) (w := w) (base := base) T) ⟨(hr.mono (show 1 ≤ 5 by decide)).dp, (hr.mono (show 1 ≤ 5 by decide)).un⟩ (hot_suite hz hf) (by rfl) (m_law_text T) (k_law_text T) (b_law_text T) (fun _ => passAtN) (pa_cons (pe_xf (x_InvalidRow T).xf (x_InvalidRow T).no hz.zc hf (pv 3)) (pa_cons (pv 1) pa_nil))))))))
      (pss_one (ps_ret pe_bl))), ?_⟩)
  · obtain ⟨which, l, p, rfl, _⟩ := h
    rfl
  · obtain ⟨which, l, p, rfl, hr1, hg, hp, q⟩ := h
    refine ⟨_, rfl, _, rfl, _, rfl, which, l, p, rfl, hr1, hg, hp, fun d H1 hd e1 hx => ?_⟩
    refine ⟨true, (x_InvalidRow T).exm, fun _ a ha => ?_, fun z => by cases z⟩
    refine ⟨_, rfl, d, _, rfl, rfl, rfl, hx, true, rfl, iteT ?_⟩
    refine ⟨_, rfl, rfl, rfl, d, _, _, rfl, hx, rfl, _, rfl, l, l, rfl, fun H2 e2 => ?_⟩
    rw [decide_eq_true rfl]
    exact q H2 (e1.trans e2)
end
end K00
namespace K00
open PySem PySem.Spec PyProof.Rows L2 Lc Evl
section
variable {P : Program} {w : World} {K : PySem.W.Frag} {mg : Str → Option Value} {base : Heap}
/-! ### lists made one behind another, loops over a drawn number -/
theorem el_rg {σ : L2.St} {H : Hp} {ta tb : TE} {a b : Int} (ha : Ev ta σ H (.int a)) (hb : Ev tb σ H (.int b)) (h : RgOk a b) : EvL (tLstRg (tRg2 ta tb)) σ H (rgV a b) := fun H1 e Q q =>
  ha H1 e _ fun H2 e2 => hb H2 (e.trans e2) _ fun H3 e3 => ⟨a, b, rfl, rfl, h, fun p hp => q p _ (fresh_back (e2.trans e3) hp) ((e2.trans e3).trans (Ex.new hp)) upd_same⟩
theorem el_catN {σ : L2.St} {H : Hp} {ta tb : TE} {xs ys : List V} (ha : EvL ta σ H xs) (hb : EvL tb σ H ys) (hz : xs.length + ys.length ≤ 100000) : EvL (tOp rCat ta tb) σ H (xs ++ ys) := fun H1 e Q q =>
  ha H1 e _ fun p H2 hp e2 h2 => hb H2 (e.trans e2) _ fun b H3 hb3 e3 h3 => ⟨p, b, xs, ys, rfl, rfl, e3 _ _ h2, h3, sz_of hz, fun p' hp' => q p' _ (fresh_back (e2.trans e3) hp') ((e2.trans e3).trans (Ex.new hp')) upd_same⟩
theorem lg {n : Nat} (h : n < 2 ^ 200) : n.log2 < 1900 := by
  by_cases h0 : n = 0
  · subst h0
    decide
  · exact Nat.lt_trans ((Nat.log2_lt h0).mpr h) (by decide)
theorem s_forTake {σ : L2.St} {H : Hp} {te : TE} {b : Addr} {i j : Nat} {many : Int} {E : XK} {tu : TS} {D : Ends} (hv : σ[i]? = some (some (.ref b))) (hb : Bx H b) (he : Ev te σ H (.int many)) (h0 : 0 < many) (h1 : many ≤ 100000)
    (k : ∀ d H', 0 ≤ d → d < many → ExB b H H' → Bx H' b → ∃ Pv : Nat → L2.St → Hp → Prop, Pv 0 σ H' ∧ (∀ (i : Nat) σ' H', (i : Int) < d → Pv i σ' H' → tu { D with nx := Pv (i + 1), ct := Pv (i + 1), bk := D.nx } (σ'.set j (some (.int (i : Int)))) H') ∧ ∀ σ' H', Pv d.toNat σ' H' → D.nx σ' H') :
    tFor (iRng1 (tCons (tCall sp_law_take [] E (tCons (tVar i) (tCons te tNil))) tNil)) (gName j) tu D σ H :=
by
  unfold tFor iRng1
  refine cons_fst ?_
  refine sp_take_then hv hb he h0 (Nat.lt_of_le_of_lt (show many.natAbs ≤ 100000 by omega) (by decide)) fun d H' d0 d1 x y => ?_
  obtain ⟨Pv, p0, ps, pd⟩ := k d H' d0 d1 x y
  exact ⟨d, rfl, by omega, by omega, for_range (lo := 0) (n := d.toNat) Pv p0 (fun i σ' H' hi p => by
    have e0 : (0 : Int) + (i : Int) = (i : Int) := Int.zero_add _
    show tu { D with nx := Pv (i + 1), ct := Pv (i + 1), bk := D.nx } (σ'.set j (some (.int ((0 : Int) + (i : Int))))) H'
    rw [e0]
    exact ps i σ' H' (by omega) p) pd⟩
/-! ### every place -/
theorem ev_marks {σ : L2.St} {H : Hp} {t1 t2 : TE} {l : List Nat} {p : Int} (h1 : Ev t1 σ H (.str (S l))) (h2 : Ev t2 σ H (.int p)) (hg : Good l) (hl : l.length ≤ 1000) (hp : p.natAbs.log2 < 1900) : Ev (tCall sp_law_marks [] E0 (tCons t1 (tCons t2 tNil))) σ H (.bl true) :=
  ev_call (ea_cons h1 (ea_cons h2 ea_nil)) fun H1 e1 Q q E => ⟨l, p, rfl, hg, hl, hp, q⟩
def plcs (n : Nat) (far : Int) : List Int := ((List.range (n + 2 - (-2) : Int).toNat).map fun (i : Nat) => (-2 + (i : Int))) ++ [-1 - (n : Int) - far, (n : Int) + far]
theorem plcs_eq (n : Nat) (far : Int) : rgV (-2) ((n : Int) + 2) ++ [.int (-1 - (n : Int) - far), .int ((n : Int) + far)] = (plcs n far).map V.int := by
  unfold plcs rgV
  rw [List.map_append, List.map_map]
  rfl
theorem plcs_small {n : Nat} {far : Int} (hn : n ≤ 60) (h0 : 0 ≤ far) (h1 : far < 100000000000000000000000000000) : ∀ p ∈ plcs n far, p.natAbs.log2 < 1900 := fun p hp => by
  refine lg (Nat.lt_of_le_of_lt (show p.natAbs ≤ 1000000000000000000000000000000 from ?_) (by decide))
  rcases List.mem_append.mp hp with h | h
  · obtain ⟨i, hi, rfl⟩ := List.mem_map.mp h
    have := List.mem_range.mp hi
    omega
  · simp only [List.mem_cons, List.not_mem_nil, or_false] at h
    rcases h with rfl | rfl <;> omega
def sp_law_places : Sp := fun vs H Q _ => ∃ (b : Addr) (l : List Nat), vs = [.ref b, .str (S l)] ∧ Bx H b ∧ Good l ∧ l.length ≤ 60 ∧ ∀ H', ExB b H H' → Bx H' b → Q (.bl true) H'
theorem ok_law_places (T : Tx K mg w) : OkD P w K mg base 6 d_law_places ps_law_places sp_law_places := by
  refine (h_law_places T).ok sc_law_places (fun vs H Q E h => ?_) (fun cdv A outer s H vs Q E hr h => ⟨_,
      (pss_cons (ps_set (i := 2) sc_law_places.nd rfl (Or.inl rfl) (pe_call (ok_law_take (P := P) (w := w) (base := base) T) (hr.mono (by decide)) (by rfl) (m_law_take T) (k_law_take T) (b_law_take T) .nil passN (pa_cons (pv 0) (pa_cons (pe_op op_pow pe_int pe_int) pa_nil))))
      (pss_cons (ps_for (passes_of rfl) rfl (pi_list (pe_op op_cat (pe_listRg rfl (by rfl) (m_list T) (prg_2 (by rfl) (m_range T) (pe_un un_neg pe_int) (pe_op op_add (pe_callB call_len_str (by rfl) (m_len T) (by decide +kernel) (pa_cons (pv 1) pa_nil)) pe_int))) (pe_lst (pa_cons (pe_op op_sub (pe_op op_sub (pe_un un_neg pe_int) (pe_callB call_len_str (by rfl) (m_len T) (by decide +kernel) (pa_cons (pv 1) pa_nil))) (pv 2)) (pa_cons (pe_op op_add (pe_callB call_len_str (by rfl) (m_len T) (by decide +kernel) (pa_cons (pv 1) pa_nil)) (pv 2)) pa_nil))))) (pg_name (i := 3) sc_law_places.nd rfl (Or.inl rfl)) (pss_one (ps_if (pt_not (pt_val (pe_call (ok_law_marks (P := P) (w := w) (base := base) T) (hr.mono (by decide)) (by rfl) (m_law_marks T) (k_law_marks T) (b_law_marks T) .nil passN (pa_cons (pv 1) (pa_cons (pv 3) pa_nil))))) (pss_one (ps_ret pe_bl)) pss_nil)))
      (pss_one (ps_ret pe_bl)))), ?_⟩)
  · obtain ⟨b, l, rfl, _⟩ := h
    rfl
  · obtain ⟨b, l, rfl, hb, hg, hl, q⟩ := h
    refine q_first ?_
    refine sp_take_then (b := b) (many := 100000000000000000000000000000) rfl hb (ev_pow10 (by decide) (by decide) (by decide)) (by decide) (by decide) fun far H1 f0 f1 e1 b1 => ?_
    have hsm := plcs_small hl f0 f1
    refine q_forNLn (xs := (plcs l.length far).map V.int) ?_ (fun p i σ' H' => H' p = some (.lst ((plcs l.length far).map V.int)) ∧ ExB b H H' ∧ Bx H' b ∧ ∃ v3, σ' = [some (.ref b), some (.str (S l)), some (.int far), v3]) (fun p H2 hp e2 h2 => ⟨h2, e1.trans (ExB.of e2), b1.ex e2, none, rfl⟩) (fun p i σ' H' _ hP => SqL.of hP.1) ?_ ?_
    · rw [← plcs_eq]
      refine el_catN (el_rg (ev_un ev_c ru_neg) (ev_op (ev_cb (ea_cons (by exact ev_var rfl) ea_nil) (rc_lenStr (by omega))) ev_c rv_I0) ⟨by decide, by decide, by omega, by omega, by omega⟩) (el_lst (ea_cons (ev_op (ev_op (ev_un ev_c ru_neg) (ev_cb (ea_cons (by exact ev_var rfl) ea_nil) (rc_lenStr (by omega))) rv_I0) (by exact ev_var rfl) rv_I0) (ea_cons (ev_op (ev_cb (ea_cons (by exact ev_var rfl) ea_nil) (rc_lenStr (by omega))) (by exact ev_var rfl) rv_I0) ea_nil)) (by simp)) (by rw [rgV_length]; simp; omega)
    · rintro p i x σ' H' hx ⟨hp, e, b2, v3, rfl⟩
      obtain ⟨y, hy, rfl⟩ := List.mem_map.mp (List.mem_of_getElem? hx)
      refine s_when (b := !true) (et_not (et_B (ev_marks (by exact ev_var rfl) (by exact ev_var rfl) hg (by omega) (hsm y hy)))) (fun hc => by cases hc) (fun _ H2 e2 => ?_)
      exact ⟨e2 _ _ hp, e.trans (ExB.of e2), b2.ex e2, _, rfl⟩
    · rintro p σ' H' ⟨hp, e, b2, v3, rfl⟩
      exact s_ret (by exact ev_c) fun H2 e2 => q H2 (e.trans (ExB.of e2)) (b2.ex e2)
/-! ### some places one after another -/
theorem mrk_set {l : List Nat} {k : Nat} (h : k < l.length) : mrk l k = l.set k (am (l.getD k 0)) := by
  unfold mrk
  rw [List.set_eq_take_append_cons_drop, if_pos h, List.append_assoc]
  rfl
theorem mrk_len {l : List Nat} {k : Nat} (h : k < l.length) : (mrk l k).length = l.length := by rw [mrk_set h, List.length_set]
theorem mrk_good {l : List Nat} {k : Nat} (h : k < l.length) (hg : Good l) (hn : l.getD k 0 ≠ 35) : Good (mrk l k) := fun c hc => by
  rw [mrk_set h] at hc
  rcases List.mem_or_eq_of_mem_set hc with hc | hc
  · exact hg c hc
  · rw [hc]
    exact (am_good _ (hg _ (getD_in h)) hn).1
theorem mrk_at {l : List Nat} {k j : Nat} (h : k < l.length) (hg : Good l) (hn : l.getD k 0 ≠ 35) (hj : l.getD j 0 ≠ 35) : (mrk l k).getD j 0 ≠ 35 := by
  rw [mrk_set h, List.getD_eq_getElem?_getD, List.getElem?_set]
  split
  · exact (am_good _ (hg _ (getD_in h)) hn).2
  · rw [← List.getD_eq_getElem?_getD]
    exact hj
def fre (l : List Nat) : List Nat := (List.range l.length).filter fun i => !decide ([l.getD i 0] = [35])
theorem fre_in {l : List Nat} {k : Nat} (h : k ∈ fre l) : k < l.length ∧ l.getD k 0 ≠ 35 := by
  obtain ⟨h1, h2⟩ := List.mem_filter.mp h
  exact ⟨List.mem_range.mp h1, by simpa using h2⟩
theorem fre_len (l : List Nat) : (fre l).length ≤ l.length := Nat.le_trans (List.length_filter_le _ _) (by rw [List.length_range]; exact Nat.le_refl _)
def frV (l : List Nat) : List V := (fre l).map fun (k : Nat) => V.int (k : Int)
def sp_law_together : Sp := fun vs H Q _ => ∃ (b : Addr) (l : List Nat), vs = [.ref b, .str (S l)] ∧ Bx H b ∧ Good l ∧ l.length ≤ 60 ∧ ∀ H', ExB b H H' → Bx H' b → Q (.bl true) H'
theorem ev_looked {σ : L2.St} {H : Hp} {t1 : TE} {l : List Nat} (h1 : Ev t1 σ H (.str (S l))) (hg : Good l) (hl : l.length ≤ 1000) : Ev (tCall (sp_law_looked K) [] E0 (tCons t1 tNil)) σ H (.bl true) :=
  ev_call (ea_cons h1 ea_nil) fun H1 e1 Q q E => ⟨l, rfl, hg, hl, q⟩
theorem ev_marked {σ : L2.St} {H : Hp} {t1 t2 : TE} {l : List Nat} {k : Nat} (h1 : Ev t1 σ H (.str (S l))) (h2 : Ev t2 σ H (.int (k : Int))) (hg : Good l) (hl : l.length ≤ 1000) (hk : k < l.length) (hn : l.getD k 0 ≠ 35) : Ev (tCall (sp_marked K) [] E0 (tCons t1 (tCons t2 tNil))) σ H (.str (S (mrk l k))) :=
  ev_call (ea_cons h1 (ea_cons h2 ea_nil)) fun H1 e1 Q q E => ⟨l, k, rfl, ⟨hl, hg.low⟩, lg (Nat.lt_of_le_of_lt (show (k : Int).natAbs ≤ 1000 by omega) (by decide)), fun _ _ => q, fun _ z => (by rw [okPl_iff.mpr ⟨⟨by omega, by omega⟩, hn⟩] at z; cases z), fun z => absurd hg z⟩
theorem bx_ne {H : Hp} {b p : Addr} (h : Bx H b) (hp : H p = none) : b ≠ p := fun z => by
  obtain ⟨i, j, k, h⟩ := h
  rw [z, hp] at h
  cases h
theorem ok_law_together (T : Tx K mg w) : OkD P w K mg base 6 d_law_together ps_law_together sp_law_together := by
  refine (h_law_together T).ok sc_law_together (fun vs H Q E h => ?_) (fun cdv A outer s H vs Q E hr h => ⟨_,
      (pss_cons (ps_setLc (i := 2) (own := [("_law_at", 6)]) (g := gName 6) rfl sc_law_together.nd rfl rfl (sw_true rfl rfl rfl (by decide +kernel)) (pi_range1 rfl (m_range T) (pa_cons (pe_callB call_len_str (by rfl) (m_len T) (by decide +kernel) (pa_cons (pv 1) pa_nil)) pa_nil)) (blkOk_by (own := [("_law_at", 6)]) (N := ns_law_together) (sc := defScope st_law_together) (by decide +kernel)) (fun _ _ _ _ _ => pg_name (i := 6) sc_law_together.nd rfl (Or.inl rfl)) (fun _ _ _ _ _ => (pts_one (pt_cmpR op_ne (pe_ix ix_str (pv 1) (pv 6) (fun _ _ => rfl)) pe_str (nomark _)))) (fun _ _ _ _ _ => (pv 6)))
      (pss_cons (ps_set (i := 3) sc_law_together.nd rfl (Or.inl rfl) (pv 1))
      (pss_cons (ps_set (i := 4) sc_law_together.nd rfl (Or.inl rfl) (pv 1))
      (pss_cons (ps_for (passes_of rfl) rfl (pi_range1 rfl (m_range T) (pa_cons (pe_call (ok_law_take (P := P) (w := w) (base := base) T) (hr.mono (by decide)) (by rfl) (m_law_take T) (k_law_take T) (b_law_take T) .nil passN (pa_cons (pv 0) (pa_cons pe_int pa_nil))) pa_nil)) (pg_name (i := 5) sc_law_together.nd rfl (Or.inl rfl)) (pss_one (ps_if (pt_cmpR op_gt (pe_callB call_len (by rfl) (m_len T) (by decide +kernel) (pa_cons (pv 2) pa_nil)) pe_int (nomark _)) (pss_cons (ps_set (i := 7) sc_law_together.nd rfl (Or.inl rfl) (pe_ix ix_list (pv 2) (pe_call (ok_law_take (P := P) (w := w) (base := base) T) (hr.mono (by decide)) (by rfl) (m_law_take T) (k_law_take T) (b_law_take T) .nil passN (pa_cons (pv 0) (pa_cons (pe_callB call_len (by rfl) (m_len T) (by decide +kernel) (pa_cons (pv 2) pa_nil)) pa_nil))) (fun _ _ => rfl)))
      (pss_cons (ps_set (i := 3) sc_law_together.nd rfl (Or.inl rfl) (pe_op op_add_str (pe_op op_add_str (pe_slice sl_str (pv 3) po_none (po_some (pv 7))) (pe_call (ok_law_dotted (P := P) (w := w) (base := base) T) (hr.mono (by decide)) (by rfl) (m_law_dotted T) (k_law_dotted T) (b_law_dotted T) .nil passN (pa_cons (pe_ix ix_str (pv 3) (pv 7) (fun _ _ => rfl)) pa_nil))) (pe_slice sl_str (pv 3) (po_some (pe_op op_add (pv 7) pe_int)) po_none)))
      (pss_cons (ps_set (i := 4) sc_law_together.nd rfl (Or.inl rfl) (pe_call (ok_marked (P := P) (w := w) (base := base) T) (hr.mono (by decide)) (by rfl) (m_marked T) (k_marked T) (b_marked T) .nil passN (pa_cons (pv 4) (pa_cons (pv 7) pa_nil))))
      (pss_one (ps_if (pt_not (pt_val (pe_call (ok_law_text (P := P) (w := w) (base := base) T) (hr.mono (by decide)) (by rfl) (m_law_text T) (k_law_text T) (b_law_text T) .nil passN (pa_cons (pv 4) (pa_cons (pv 3) pa_nil))))) (pss_one (ps_ret pe_bl)) pss_nil))))) pss_nil)))
      (pss_one (ps_ret (pe_call (ok_law_looked (P := P) (w := w) (base := base) T) (hr.mono (by decide)) (by rfl) (m_law_looked T) (k_law_looked T) (b_law_looked T) .nil passN (pa_cons (pv 4) pa_nil)))))))), ?_⟩)
  · obtain ⟨b, l, rfl, _⟩ := h
    rfl
  · obtain ⟨b, l, rfl, hb, hg, hl, q⟩ := h
    have k1 : Str.ofString "#" = S [35] := by decide +kernel
    simp only [k1]
    have hfl := fre_len l
    refine q_asgL (xs := frV l) ?_ fun pf H1 hpf e1 h1 => ?_
    · have h3 := el_lcR1 (σ := L2.start ns_law_together [V.ref b, V.str (S l)]) (H := H) (j := 6) (vs := [6]) (t := tTest (tOp rNe (tOp rIxS (tVar 1) (tVar 6)) (tC (.str (S [35]))))) (te := tVar 6) (ta := tCons (tCB (fun xs H Q => ∃ z, xs = [V.str z] ∧ z.length ≤ sizeLine ∧ Q (.int z.length) H) (tCons (tVar 1) tNil)) tNil) (n := (l.length : Int)) (fun i => !decide ([l.getD i 0] = [35])) (fun i => V.int (i : Nat)) (ea_cons (ev_cb (ea_cons (by exact ev_var rfl) ea_nil) (rc_lenStr (by omega))) ea_nil) (by omega) (fun x => rfl)
        (fun i H5 _ hi => et_test (ev_op (ev_op (by exact ev_var rfl) (by exact ev_var rfl) (rv_ixSS (i := (i : Int)) (by omega) (by omega) hi)) ev_c rv_neSS)) (fun i H5 _ hi _ => by exact ev_var rfl)
      rw [Int.toNat_natCast] at h3
      exact h3
    have hbf := bx_ne hb hpf
    refine q_asg (v := .str (S l)) (by exact ev_var rfl) fun H2 e2 => ?_
    refine q_asg (v := .str (S l)) (by exact ev_var rfl) fun H3 e3 => ?_
    have e03 := (e1.trans e2).trans e3
    have h3 := e3 _ _ (e2 _ _ h1)
    have b3 := hb.ex e03
    refine s_forTake (D := { nx := _, rt := Q }) (b := b) (many := 9) rfl b3 ev_c (by decide) (by decide) fun d H4 d0 d1 e4 b4 => ?_
    refine ⟨fun i σ' H' => ExB b H H' ∧ Bx H' b ∧ H' pf = some (.lst (frV l)) ∧ ∃ (m : List Nat) (v5 v7 : Option V), σ' = [some (.ref b), some (.str (S l)), some (.ref pf), some (.str (S m)), some (.str (S m)), v5, none, v7] ∧ Good m ∧ m.length = l.length ∧ ∀ j, l.getD j 0 ≠ 35 → m.getD j 0 ≠ 35, ?_, ?_, ?_⟩
    · exact ⟨(ExB.of e03).trans e4, b4, e4 _ _ (Ne.symm hbf) h3, l, none, none, rfl, hg, rfl, fun j h => h⟩
    · rintro i σ' H' hi ⟨e, b5, h5, m, v5, v7, rfl, mg, ml, mn⟩
      have hlen := rc_lenL (K := K) (sq_of (K := K) h5)
      have hfrl : (frV l).length = (fre l).length := by unfold frV; rw [List.length_map]
      refine s_when (b := decide ((0 : Int) < ((frV l).length : Int))) (et_test (ev_op (ev_cb (ea_cons (by exact ev_var rfl) ea_nil) hlen) ev_c rv_I0)) (fun hc H6 e6 => ?_) (fun hc H6 e6 => ?_)
      · have hpos := of_decide_eq_true hc
        refine q_first (op_fst ?_)
        have h6 := e6 _ _ h5
        have b6 := b5.ex e6
        refine ⟨_, rfl, ?_⟩
        refine sp_take_then (b := b) (many := ((frV l).length : Int)) rfl b6 (ev_cb (ea_cons (by exact ev_var rfl) ea_nil) (rc_lenL (K := K) (sq_of (K := K) h6))) hpos (Nat.lt_of_le_of_lt (show ((frV l).length : Int).natAbs ≤ 60 by omega) (by decide)) fun u H7 u0 u1 e7 b7 => ?_
        have h7 := e7 _ _ (Ne.symm hbf) h6
        obtain ⟨k, hk⟩ : ∃ k, (fre l)[u.toNat]? = some k := ⟨_, List.getElem?_eq_getElem (show u.toNat < (fre l).length by omega)⟩
        have hkv : atI (frV l) u = some (V.int (k : Int)) := by
          rw [atI_i u0 u1 V.non, List.getD_eq_getElem?_getD]
          unfold frV
          rw [List.getElem?_map, hk]
          rfl
        obtain ⟨hk1, hk2⟩ := fre_in (List.mem_of_getElem? hk)
        have hkm : k < m.length := by omega
        have hmn := mn k hk2
        refine ⟨pf, _, u, _, rfl, rfl, sq_of h7, hkv, ?_⟩
        dsimp only
        refine q_asg (v := .str (S (mrk m k))) (by exact ev_mrk (tr := tVar 3) (tp := tVar 7) mg (by omega) hkm hmn (fun _ => by exact ev_var rfl) (fun _ => by exact ev_var rfl)) fun H8 e8 => ?_
        refine q_asg (v := .str (S (mrk m k))) (by exact ev_marked (K := K) (t1 := tVar 4) (t2 := tVar 7) (by exact ev_var rfl) (by exact ev_var rfl) mg (by omega) hkm hmn) fun H9 e9 => ?_
        refine s_when (b := !true) (et_not (et_B (ev_text (by exact ev_var rfl) (by exact ev_var rfl) rfl))) (fun hz => by cases hz) (fun _ H10 e10 => ?_)
        have e810 := (e8.trans e9).trans e10
        exact ⟨((e.trans (ExB.of e6)).trans e7).trans (ExB.of e810), b7.ex e810, e810 _ _ h7, mrk m k, _, _, rfl, mrk_good hkm mg hmn, by rw [mrk_len hkm]; exact ml, fun j hj => mrk_at hkm mg hmn (mn j hj)⟩
      · exact ⟨e.trans (ExB.of e6), b5.ex e6, e6 _ _ h5, m, _, _, rfl, mg, ml, mn⟩
    · rintro σ' H' ⟨e, b5, h5, m, v5, v7, rfl, mg, ml, mn⟩
      dsimp only
      exact s_ret (ev_looked (K := K) (by exact ev_var rfl) mg (by omega)) fun H6 e6 => q H6 (e.trans (ExB.of e6)) (b5.ex e6)
end
end K00
namespace K00
open PySem PySem.Spec PyProof.Rows L2 Lc Evl
section
variable {P : Program} {w : World} {K : PySem.W.Frag} {mg : Str → Option Value} {base : Heap}
/-! ### the law -/
def sp_law (K : PySem.W.Frag) : Sp := fun vs H Q _ => ∃ (a : Addr) (ns : List Int), vs = [.ref a] ∧ SqL K H a (ns.map V.int) ∧ ∀ H1, Q (.bl true) H1
theorem new_seq {H H1 H2 : Hp} {a b : Addr} {xs : List V} (hs : SqL K H a xs) (hb : H b = none) (e : Ex H H1) (e2 : ExB b H1 H2) : SqL K H2 a xs := by
  have k : ∀ o, H a = some o → H2 a = some o := fun o h => e2 a o (fun z => by rw [z, hb] at h; cases h) (e a o h)
  rcases hs with (h | ⟨o, h⟩) | h
  · exact .inl (.inl (k _ h))
  · exact .inl (.inr ⟨o, k _ h⟩)
  · exact .inr h
theorem refuses_at {σ : L2.St} {H : Hp} {tw tb : TE} {i : Nat} {l : List Nat} {w b : Int} (hr : Row l) (hg : ¬ Good l) (hb : b.natAbs.log2 < 1900) (h1 : Ev tw σ H (.int w)) (h2 : σ[i]? = some (some (.str (S l)))) (h3 : Ev tb σ H (.int b)) : Ev (tCall sp_law_refuses [] E0 (tCons tw (tCons (tVar i) (tCons tb tNil)))) σ H (.bl true) :=
  ev_call (ea_cons h1 (ea_cons (ev_var h2) (ea_cons h3 ea_nil))) fun H1 e1 Q q E => ⟨w, l, b, rfl, hr, hg, hb, q⟩
theorem not_fst {σ : L2.St} {H : Hp} {sp : Sp} {dvs : List V} {E : XK} {te : TE} {tr : TA} {Q : Bool → Hp → Prop} (h : te σ H fun x H1 => tr σ H1 fun xs H2 => sp ((x :: xs) ++ dvs) H2 (fun x H1 => ∃ c, x = .bl c ∧ Q (!c) H1) E) : tNot (tB (tCall sp dvs E (tCons te tr))) σ H Q := h
theorem ifs_not_fst {σ : L2.St} {H : Hp} {sp : Sp} {dvs : List V} {E : XK} {te : TE} {tr : TA} {t u : TS} {D : L2.Ends} (h : te σ H fun x H1 => tr σ H1 fun xs H2 => sp ((x :: xs) ++ dvs) H2 (fun x H1 => ∃ c, x = .bl c ∧ if (!c) = true then t D σ H1 else u D σ H1) E) : tIfS (tNot (tB (tCall sp dvs E (tCons te tr)))) t u D σ H := h
theorem ok_law (T : Tx K mg w) : OkD P w K mg base 7 d_law ps_law (sp_law K) := by
  refine (h_law T).ok sc_law (fun vs H Q E h => ?_) (fun cdv A outer s H vs Q E hr h => ⟨_,
      (pss_cons (ps_set (i := 1) sc_law.nd rfl (Or.inl rfl) (pe_call (ok_law_box (P := P) (w := w) (base := base) T) (hr.mono (by decide)) (by rfl) (m_law_box T) (k_law_box T) (b_law_box T) .nil passN (pa_cons (pv 0) (pa_cons pe_int pa_nil))))
      (pss_cons (ps_set (i := 2) sc_law.nd rfl (Or.inr rfl) (pe_call (ok_law_alphabet (P := P) (w := w) (base := base) T) (hr.mono (by decide)) (by rfl) (m_law_alphabet T) (k_law_alphabet T) (b_law_alphabet T) .nil passN (pa_cons (pv 1) pa_nil)))
      (pss_cons (ps_set (i := 3) sc_law.nd rfl (Or.inl rfl) (pe_call (ok_law_size (P := P) (w := w) (base := base) T) (hr.mono (by decide)) (by rfl) (m_law_size T) (k_law_size T) (b_law_size T) .nil passN (pa_cons (pv 1) pa_nil)))
      (pss_cons (ps_set (i := 4) sc_law.nd rfl (Or.inr rfl) (pe_call (ok_law_box (P := P) (w := w) (base := base) T) (hr.mono (by decide)) (by rfl) (m_law_box T) (k_law_box T) (b_law_box T) .nil passN (pa_cons (pv 0) (pa_cons pe_int pa_nil))))
      (pss_cons (ps_set (i := 5) sc_law.nd rfl (Or.inl rfl) (pe_join pe_str (pe_lc (own := [("_law_at", 9)]) (g := gName 9) rfl sc_law.nd (pi_range1 rfl (m_range T) (pa_cons (pv 3) pa_nil)) (blkOk_by (own := [("_law_at", 9)]) (N := ns_law) (sc := defScope st_law) (by decide +kernel)) (fun _ _ _ _ _ => pg_name (i := 9) sc_law.nd rfl (Or.inl rfl)) (fun _ _ _ _ _ => pts_nil) (fun _ _ _ _ _ => (pe_ix ix_str (pv 2) (pe_call (ok_law_take (P := P) (w := w) (base := base) T) (hr.mono (by decide)) (by rfl) (m_law_take T) (k_law_take T) (b_law_take T) .nil passN (pa_cons (pv 4) (pa_cons (pe_callB call_len_str (by rfl) (m_len T) (by decide +kernel) (pa_cons (pv 2) pa_nil)) pa_nil))) (fun _ _ => rfl))))))
      (pss_cons (ps_set (i := 6) sc_law.nd rfl (Or.inl rfl) (pe_call (ok_law_box (P := P) (w := w) (base := base) T) (hr.mono (by decide)) (by rfl) (m_law_box T) (k_law_box T) (b_law_box T) .nil passN (pa_cons (pv 0) (pa_cons pe_int pa_nil))))
      (pss_cons (ps_if (PW.pt (pw_or (pt_not (pt_val (pe_call0 (ok_law_strings (P := P) (w := w) (base := base) T) (hr.mono (by decide)) (by rfl) (m_law_strings T) (k_law_strings T) (b_law_strings T) .nil passN))) (pw_or1 (pt_not (pt_val (pe_call (ok_law_errors (P := P) (w := w) (base := base) T) (hr.mono (by decide)) (by rfl) (m_law_errors T) (k_law_errors T) (b_law_errors T) .nil passN (pa_cons (pe_call (ok_law_take (P := P) (w := w) (base := base) T) (hr.mono (by decide)) (by rfl) (m_law_take T) (k_law_take T) (b_law_take T) .nil passN (pa_cons (pv 6) (pa_cons (pe_op op_pow pe_int pe_int) pa_nil))) (pa_cons (pv 5) pa_nil)))))))) (pss_one (ps_ret pe_bl)) pss_nil)
      (pss_cons (ps_if (PW.pt (pw_or (pt_not (pt_val (pe_call (ok_law_looked (P := P) (w := w) (base := base) T) (hr.mono (by decide)) (by rfl) (m_law_looked T) (k_law_looked T) (b_law_looked T) .nil passN (pa_cons (pv 5) pa_nil)))) (pw_or1 (pt_not (pt_val (pe_call (ok_law_places (P := P) (w := w) (base := base) T) (hr.mono (by decide)) (by rfl) (m_law_places T) (k_law_places T) (b_law_places T) .nil passN (pa_cons (pv 6) (pa_cons (pv 5) pa_nil)))))))) (pss_one (ps_ret pe_bl)) pss_nil)
      (pss_cons (ps_if (pt_not (pt_val (pe_call (ok_law_together (P := P) (w := w) (base := base) T) (hr.mono (by decide)) (by rfl) (m_law_together T) (k_law_together T) (b_law_together T) .nil passN (pa_cons (pv 6) (pa_cons (pv 5) pa_nil))))) (pss_one (ps_ret pe_bl)) pss_nil)
      (pss_cons (ps_set (i := 7) sc_law.nd rfl (Or.inl rfl) (pe_call (ok_law_bent (P := P) (w := w) (base := base) T) (hr.mono (by decide)) (by rfl) (m_law_bent T) (k_law_bent T) (b_law_bent T) .nil passN (pa_cons (pv 6) (pa_cons (pv 5) pa_nil))))
      (pss_cons (ps_for (passes_of rfl) rfl (pi_range1 rfl (m_range T) (pa_cons pe_int pa_nil)) (pg_name (i := 8) sc_law.nd rfl (Or.inl rfl)) (pss_one (ps_if (pt_not (pt_val (pe_call (ok_law_refuses (P := P) (w := w) (base := base) T) (hr.mono (by decide)) (by rfl) (m_law_refuses T) (k_law_refuses T) (b_law_refuses T) .nil passN (pa_cons (pv 8) (pa_cons (pv 7) (pa_cons (pe_call (ok_law_take (P := P) (w := w) (base := base) T) (hr.mono (by decide)) (by rfl) (m_law_take T) (k_law_take T) (b_law_take T) .nil passN (pa_cons (pv 6) (pa_cons (pe_callB call_len_str (by rfl) (m_len T) (by decide +kernel) (pa_cons (pv 7) pa_nil)) pa_nil))) pa_nil)))))) (pss_one (ps_ret pe_bl)) pss_nil)))
      (pss_one (ps_ret (pe_and (pe_call (ok_law_refuses (P := P) (w := w) (base := base) T) (hr.mono (by decide)) (by rfl) (m_law_refuses T) (k_law_refuses T) (b_law_refuses T) .nil passN (pa_cons pe_int (pa_cons (pv 7) (pa_cons (pe_un un_neg pe_int) pa_nil)))) (pe_one (pe_call (ok_law_refuses (P := P) (w := w) (base := base) T) (hr.mono (by decide)) (by rfl) (m_law_refuses T) (k_law_refuses T) (b_law_refuses T) .nil passN (pa_cons pe_int (pa_cons (pv 7) (pa_cons (pe_callB call_len_str (by rfl) (m_len T) (by decide +kernel) (pa_cons (pv 7) pa_nil)) pa_nil))))))))))))))))))), ?_⟩)
  · obtain ⟨a, ns, rfl, _⟩ := h
    rfl
  · obtain ⟨a, ns, rfl, hs, q⟩ := h
    have k1 : Str.ofString "" = S [] := by decide +kernel
    simp only [k1]
    refine ⟨_, rfl, a, ns, 0, rfl, hs, by decide, by decide, fun b H1 hb e1 bb => ?_⟩
    refine ⟨_, rfl, b, rfl, bb, fun al H2 ag ap al1 e2 b2 => ?_⟩
    refine ⟨_, rfl, b, rfl, b2, fun n H3 n0 n1 e3 b3 => ?_⟩
    have hs3 := new_seq hs hb e1 (e2.trans e3)
    dsimp only
    refine ⟨_, rfl, a, ns, 1, rfl, hs3, by decide, by decide, fun c H4 hc e4 bc => ?_⟩
    have hs4 := ex_l e4 hs3
    dsimp only
    refine ⟨⟨_, rfl⟩, ?_⟩
    refine ⟨_, rfl, n, rfl, by omega, by omega, fun D hD => ?_⟩
    have hcD : D ≠ c := fun z => by
      obtain ⟨x, y, w3, h3⟩ := bc
      rw [z, h3] at hD
      cases hD
    refine lc_range (lo := 0) (n := n.toNat) (fun i H' => ∃ cs : List Nat, cs.length = i ∧ (∀ x ∈ cs, x ∈ SG) ∧ H' D = some (.lst (cs.map fun x => V.str (S [x]))) ∧ ExB c H4 H' ∧ Bx H' c) ⟨[], rfl, by simp, upd_same, (ExB.of (Ex.new hD)), bc.ex (Ex.new hD)⟩ ?_ ?_
    · rintro i H' hi ⟨cs, rfl, hca, hDl, ep, bp'⟩
      refine ⟨rfl, ?_⟩
      refine ⟨_, rfl, ?_⟩
      refine sp_take_then (b := c) (many := (al.length : Int)) rfl bp' (by repeat' (first | ((with_reducible refine ev_pow10 ?_ ?_ ?_) <;> first | rfl | decide) | (with_reducible refine fun (_ : _ = true) => ?_) | (with_reducible refine fun (_ : _ = false) => ?_) | (with_reducible exact ev_c) | ((with_reducible apply ev_var); rfl) | (with_reducible apply ev_op) | (with_reducible apply ev_un) | (with_reducible apply ev_cb) | (with_reducible apply ea_cons) | (with_reducible apply ev_andV) | (with_reducible apply ev_orV) | (with_reducible apply ev_notV) | (with_reducible apply ev_if) | (with_reducible apply eo_some) | (with_reducible apply el_lst) | (with_reducible exact ea_nil) | (with_reducible exact rv_I0) | (with_reducible exact ru_neg) | (with_reducible exact rv_ltS) | (with_reducible exact rv_inC) | (with_reducible exact rv_notInC) | (with_reducible exact rc_intI) | (with_reducible exact rc_intB) | (with_reducible exact rc_min2) | (with_reducible exact rc_isStr) | (with_reducible exact eo_none) | (with_reducible exact rv_inSS) | (with_reducible exact rv_notInSS) | (with_reducible exact rv_ltSS) | (with_reducible exact rv_eqSS) | (with_reducible exact rv_eqII) | (with_reducible exact rv_neII) | (with_reducible exact rv_neSS) | ((with_reducible refine rc_lenSS ?_); (first | assumption | omega | decide | (simp only [S_len] at *; omega))) | ((with_reducible refine rc_lenStr ?_); (first | assumption | omega | decide | (simp only [S_len] at *; omega))) | ((with_reducible refine rv_catSS ?_); (first | assumption | omega | decide | (simp only [S_len] at *; omega))) | (with_reducible exact rv_eq rfl) | (with_reducible exact rv_ne rfl) | ((with_reducible refine rc_lenS ?_); (first | assumption | omega | decide | (simp only [S_len] at *; omega))) | ((with_reducible refine rc_lenL ?_); assumption) | ((with_reducible apply rv_ixL); assumption; rfl) | ((with_reducible refine rv_catS ?_); (first | assumption | omega | decide | (simp only [S_len] at *; omega))) | ((with_reducible refine rv_I ?_); (first | (show (0 : Int) < _; (first | assumption | omega | decide | (simp only [S_len] at *; omega))) | exact .inr ⟨by decide, by decide⟩ | exact .inl ⟨by (first | assumption | omega | decide | (simp only [S_len] at *; omega)), by (first | assumption | omega | decide | (simp only [S_len] at *; omega))⟩ | exact .inr ⟨by (first | assumption | omega | decide | (simp only [S_len] at *; omega)), by (first | assumption | omega | decide | (simp only [S_len] at *; omega))⟩ | exact ⟨by decide, by decide, by decide⟩ | exact wide_div (b := 128) (by (first | assumption | omega | decide | (simp only [S_len] at *; omega))) (by (first | assumption | omega | decide | (simp only [S_len] at *; omega))) (by decide) (by decide))))) (by omega) (Nat.lt_of_le_of_lt (show (al.length : Int).natAbs ≤ 11 by omega) (by decide)) fun d H2 d0 d1 e2 b2 => ?_
      refine ⟨S al, d, al.getD d.toNat 0, rfl, rfl, sz_of (by rw [S_len]; omega), atI_i d0 (by exact d1) 0, ?_⟩
      refine ⟨_, e2 D _ hcD hDl, Nat.lt_of_lt_of_le (show _ < 100 by rw [List.length_map]; omega) (by decide), cs ++ [al.getD d.toNat 0], by simp, ?_, ?_, ?_, ?_⟩
      · intro x hx
        rcases List.mem_append.mp hx with hx | hx
        · exact hca x hx
        · have hx2 : x = al.getD d.toNat 0 := by simpa using hx
          rw [hx2]
          exact ag _ (getD_in (by omega))
      · rw [upd_same, List.map_append]
        rfl
      · intro x o hx ho
        have hxD : x ≠ D := fun z => by rw [z, hD] at ho; cases ho
        rw [upd_ne hxD]
        exact e2 x o hx (ep x o hx ho)
      · obtain ⟨x, y, z, h3⟩ := b2
        exact ⟨x, y, z, by rw [upd_ne (Ne.symm hcD)]; exact h3⟩
    · rintro H5 ⟨l, hll, hg, hDl, e5, b5⟩
      have hs5 : SqL K H5 a (ns.map V.int) := new_seq hs3 hc e4 e5
      have hl : l.length ≤ 60 := by omega
      have hl0 := hl
      refine ⟨S [], D, l.map fun x => S [x], rfl, rfl, .inl (sq_of (by rw [List.map_map]; exact hDl)), join_sz _ (by omega), ?_⟩
      rw [join_S]
      dsimp only
      refine ⟨_, rfl, a, ns, 2, rfl, hs5, by decide, by decide, fun d H6 hd e6 bd => ?_⟩
      dsimp only [gName]
      clear hs hs3 hs4 hs5 e1 e2 e3 e4 e5 e6 b2 b3 b5 bb bc hDl hD hcD hll hd hc hb
      have hG : Good l := hg
      have hrow : Row l := ⟨by omega, hG.low⟩
      -- the sign strings, the errors
      refine ⟨rfl, fun H7 e7 => ⟨true, rfl, ?_⟩⟩
      refine iteF ?_
      have b7 := bd.ex e7
      refine not_fst ?_
      refine sp_take_then (b := d) (i := 6) (many := 1000000000) rfl b7 (ev_pow10 (by decide) (by decide) (by decide)) (by decide) (by decide) fun u H8 u0 u1 e8 b8 => ?_
      refine ⟨_, rfl, u, l, rfl, lg (Nat.lt_of_le_of_lt (show u.natAbs ≤ 1000000000 by omega) (by decide)), by omega, hG.low, fun H9 e9 => ⟨true, rfl, iteF ?_⟩⟩
      have b9 := b8.ex e9
      clear b7 b8 bd e7 e8 e9
      -- looked at, every place
      refine ⟨_, rfl, l, rfl, hg, by omega, fun H10 e10 => ⟨true, rfl, iteF ?_⟩⟩
      refine ⟨_, rfl, _, rfl, d, l, rfl, b9.ex e10, hg, hl, fun H11 e11 b11 => ⟨true, rfl, iteF ?_⟩⟩
      -- some places together
      refine ⟨_, rfl, _, rfl, d, l, rfl, b11, hg, hl, fun H12 e12 b12 => ⟨true, rfl, iteF ?_⟩⟩
      -- a strange sign
      refine ⟨_, rfl, _, rfl, d, l, rfl, b12, hg, by omega, fun m H13 hr hm e13 b13 => ?_⟩
      dsimp only [gName]
      have hml : m.length ≤ 1000 := hr.1
      have hm0 : 0 < m.length := by
        refine Nat.pos_of_ne_zero fun z => hm ?_
        rw [List.length_eq_zero_iff.mp z]
        intro x hx
        cases hx
      refine q_forR1 (n := 4) (by exact ea_cons ev_c ea_nil) (by decide) (fun i σ' H' => Bx H' d ∧ ∃ v8, σ' = [some (.ref a), some (.ref b), some (.str (S al)), some (.int n), some (.ref c), some (.str (S l)), some (.ref d), some (.str (S m)), v8, none]) (fun H2 e2 => ⟨b13.ex e2, none, rfl⟩) ?_ ?_
      · rintro i σ' H' hi ⟨b14, v8, rfl⟩
        dsimp only [List.set]
        refine ifs_not_fst ?_
        refine ⟨_, rfl, ?_⟩
        refine cons_fst ?_
        refine ⟨_, rfl, ?_⟩
        refine cons_fst (sp_take_then (b := d) (many := (m.length : Int)) rfl b14 (by repeat' (first | ((with_reducible refine ev_pow10 ?_ ?_ ?_) <;> first | rfl | decide) | (with_reducible refine fun (_ : _ = true) => ?_) | (with_reducible refine fun (_ : _ = false) => ?_) | (with_reducible exact ev_c) | ((with_reducible apply ev_var); rfl) | (with_reducible apply ev_op) | (with_reducible apply ev_un) | (with_reducible apply ev_cb) | (with_reducible apply ea_cons) | (with_reducible apply ev_andV) | (with_reducible apply ev_orV) | (with_reducible apply ev_notV) | (with_reducible apply ev_if) | (with_reducible apply eo_some) | (with_reducible apply el_lst) | (with_reducible exact ea_nil) | (with_reducible exact rv_I0) | (with_reducible exact ru_neg) | (with_reducible exact rv_ltS) | (with_reducible exact rv_inC) | (with_reducible exact rv_notInC) | (with_reducible exact rc_intI) | (with_reducible exact rc_intB) | (with_reducible exact rc_min2) | (with_reducible exact rc_isStr) | (with_reducible exact eo_none) | (with_reducible exact rv_inSS) | (with_reducible exact rv_notInSS) | (with_reducible exact rv_ltSS) | (with_reducible exact rv_eqSS) | (with_reducible exact rv_eqII) | (with_reducible exact rv_neII) | (with_reducible exact rv_neSS) | ((with_reducible refine rc_lenSS ?_); (first | assumption | omega | decide | (simp only [S_len] at *; omega))) | ((with_reducible refine rc_lenStr ?_); (first | assumption | omega | decide | (simp only [S_len] at *; omega))) | ((with_reducible refine rv_catSS ?_); (first | assumption | omega | decide | (simp only [S_len] at *; omega))) | (with_reducible exact rv_eq rfl) | (with_reducible exact rv_ne rfl) | ((with_reducible refine rc_lenS ?_); (first | assumption | omega | decide | (simp only [S_len] at *; omega))) | ((with_reducible refine rc_lenL ?_); assumption) | ((with_reducible apply rv_ixL); assumption; rfl) | ((with_reducible refine rv_catS ?_); (first | assumption | omega | decide | (simp only [S_len] at *; omega))) | ((with_reducible refine rv_I ?_); (first | (show (0 : Int) < _; (first | assumption | omega | decide | (simp only [S_len] at *; omega))) | exact .inr ⟨by decide, by decide⟩ | exact .inl ⟨by (first | assumption | omega | decide | (simp only [S_len] at *; omega)), by (first | assumption | omega | decide | (simp only [S_len] at *; omega))⟩ | exact .inr ⟨by (first | assumption | omega | decide | (simp only [S_len] at *; omega)), by (first | assumption | omega | decide | (simp only [S_len] at *; omega))⟩ | exact ⟨by decide, by decide, by decide⟩ | exact wide_div (b := 128) (by (first | assumption | omega | decide | (simp only [S_len] at *; omega))) (by (first | assumption | omega | decide | (simp only [S_len] at *; omega))) (by decide) (by decide))))) (by omega) (Nat.lt_of_le_of_lt (show (m.length : Int).natAbs ≤ 1000 by omega) (by decide)) fun u H15 u0 u1 e15 b15 => ?_)
        refine ⟨(i : Int), m, u, rfl, hr, hm, lg (Nat.lt_of_le_of_lt (show u.natAbs ≤ 1000 by omega) (by decide)), fun H16 e16 => ⟨true, rfl, iteF ?_⟩⟩
        exact ⟨b15.ex e16, _, rfl⟩
      · rintro σ' H' ⟨b14, v8, rfl⟩
        exact s_ret (v := .bl (true && true)) (ev_andV (refuses_at hr hm (by decide) ev_c rfl (ev_un ev_c ru_neg)) fun _ => refuses_at hr hm (lg (Nat.lt_of_le_of_lt (show (m.length : Int).natAbs ≤ 1000 by omega) (by decide))) ev_c rfl (by repeat' (first | ((with_reducible refine ev_pow10 ?_ ?_ ?_) <;> first | rfl | decide) | (with_reducible refine fun (_ : _ = true) => ?_) | (with_reducible refine fun (_ : _ = false) => ?_) | (with_reducible exact ev_c) | ((with_reducible apply ev_var); rfl) | (with_reducible apply ev_op) | (with_reducible apply ev_un) | (with_reducible apply ev_cb) | (with_reducible apply ea_cons) | (with_reducible apply ev_andV) | (with_reducible apply ev_orV) | (with_reducible apply ev_notV) | (with_reducible apply ev_if) | (with_reducible apply eo_some) | (with_reducible apply el_lst) | (with_reducible exact ea_nil) | (with_reducible exact rv_I0) | (with_reducible exact ru_neg) | (with_reducible exact rv_ltS) | (with_reducible exact rv_inC) | (with_reducible exact rv_notInC) | (with_reducible exact rc_intI) | (with_reducible exact rc_intB) | (with_reducible exact rc_min2) | (with_reducible exact rc_isStr) | (with_reducible exact eo_none) | (with_reducible exact rv_inSS) | (with_reducible exact rv_notInSS) | (with_reducible exact rv_ltSS) | (with_reducible exact rv_eqSS) | (with_reducible exact rv_eqII) | (with_reducible exact rv_neII) | (with_reducible exact rv_neSS) | ((with_reducible refine rc_lenSS ?_); (first | assumption | omega | decide | (simp only [S_len] at *; omega))) | ((with_reducible refine rc_lenStr ?_); (first | assumption | omega | decide | (simp only [S_len] at *; omega))) | ((with_reducible refine rv_catSS ?_); (first | assumption | omega | decide | (simp only [S_len] at *; omega))) | (with_reducible exact rv_eq rfl) | (with_reducible exact rv_ne rfl) | ((with_reducible refine rc_lenS ?_); (first | assumption | omega | decide | (simp only [S_len] at *; omega))) | ((with_reducible refine rc_lenL ?_); assumption) | ((with_reducible apply rv_ixL); assumption; rfl) | ((with_reducible refine rv_catS ?_); (first | assumption | omega | decide | (simp only [S_len] at *; omega))) | ((with_reducible refine rv_I ?_); (first | (show (0 : Int) < _; (first | assumption | omega | decide | (simp only [S_len] at *; omega))) | exact .inr ⟨by decide, by decide⟩ | exact .inl ⟨by (first | assumption | omega | decide | (simp only [S_len] at *; omega)), by (first | assumption | omega | decide | (simp only [S_len] at *; omega))⟩ | exact .inr ⟨by (first | assumption | omega | decide | (simp only [S_len] at *; omega)), by (first | assumption | omega | decide | (simp only [S_len] at *; omega))⟩ | exact ⟨by decide, by decide, by decide⟩ | exact wide_div (b := 128) (by (first | assumption | omega | decide | (simp only [S_len] at *; omega))) (by (first | assumption | omega | decide | (simp only [S_len] at *; omega))) (by decide) (by decide)))))) fun H7 e7 => q H7
end
end K00
namespace K00
open PySem PySem.Spec PyProof.Rows L2 Lc Evl
theorem walkX {l : PySem.W.OpenLaw} {m lev : Nat} {qp : Program} {los : List Str} {Xq : (Str → Option Value) → Heap → Prop} {Yq : World → Heap → Prop} {dr : DefRec} {z : Str}
    (h1 : l.most = some m) (h2 : m ≤ sizeLine) (h3 : dr.params.defaults = []) (h4 : Room lev callerA)
    (F : ∀ (w : World) (mg : Str → Option Value) (g : Addr) (hp : Heap), Yq w hp → hp.Ns mainGlobals mg → mg dr.name = some (.ref g) → ∃ (K : PySem.W.Frag) (fd : FuncData) (sp : Sp), K.In hp ∧
        (∀ (t : Shared) (v : Value), BindsTo t fd ⟨[v], []⟩ [(z, v)]) ∧ (∀ (H : Hp) (c : Addr) (is : List Int), SqL K H c (is.map V.int) → sp [.ref c] H (fun r _ => r = .bl true) fun _ _ _ => False) ∧
        ∀ b : Heap, K.In b → b.Ns mainGlobals mg → FnOk l.prog w K mg b (L2N.CX l.prog w) lev g fd [z] sp) : PySem.W.WalkO qp los Xq Yq l.row.toRowW dr [] (fun f vs => PySem.call f vs) := by
  refine Att.attach_call h1 h3 fun w _ _ mg _ g _ _ _ _ _ _ is G Y _ _ _ k1 ho hi hl hg => ?_
  obtain ⟨K, fd, sp, KX, hb, hsp, hF⟩ := F w mg g _ Y G.T.g k1
  refine law_call KX G.T.g G.T.b G.T.builtins G.T.nolimit hg ho hi (Nat.le_trans hl h2) h4 hF hb (fun H _ hS => hsp H _ is hS) ?_
  intro H e s' h
  obtain ⟨_, _, _, _, _, _, _, _, _, _, _, _, no⟩ := h
  exact no
theorem facts {P : Program} {w : World} {K : PySem.W.Frag} {h : Heap} {mg : Str → Option Value} {f : Addr} (X : K.In h) (G : h.Ns mainGlobals mg) (hfa : mg ("law" : Str) = some (.ref f)) (c : SaysM fa fn ts ex w K) :
    ∃ fd : FuncData, (∀ (s : Shared) (v : Value), BindsTo s fd ⟨[v], []⟩ [("_law_script", v)]) ∧ ∀ base : Heap, K.In base → base.Ns mainGlobals mg → FnOk P w K mg base (L2N.CX P w) 7 f fd ["_law_script"] (sp_law K) := by
  have T : Tx K mg w := ⟨⟨h, X, G⟩, c⟩
  have e := hfa.symm.trans (m_law T)
  cases e
  have b := FunD.bindsA (ps := ["_law_script"]) (h_law T) fun _ _ _ _ _ _ us hl => match us, hl with | [_], _ => rfl
  exact ⟨_, fun s v => b s [v] rfl, fun base _ _ => ok_law T⟩
end K00
open PySem PySem.W PySem.Calls PyProof.Rows
theorem PySem.Challenge.cw_leapcard_k00_sign_strings_and_marks_holds : PySem.Challenge.rw_leapcard_k00_sign_strings_and_marks.Holds := by
  w_on; o_law
  refine HandSHeadRun.head_any (r := OpenLaw.row PySem.Challenge.rw_leapcard_k00_sign_strings_and_marks) (q := view (OpenLaw.row PySem.Challenge.rw_leapcard_k00_sign_strings_and_marks).prog [60]) (H := K00.hk) (ob := K00.ob) (M := 24000) (loose := K00.names) (d := HandSHeadRun.topDef (OpenLaw.row PySem.Challenge.rw_leapcard_k00_sign_strings_and_marks).prog 60) (kwd := []) K00.ob_eq
    (by kernel_rfl) (fun s => by kernel_rfl) K00.run (by kernel_rfl) (by kernel_rfl) (by kernel_rfl) (by rfl) (by first | assumption | decide +kernel) (by decide +kernel) ⟨rfl, rfl, rfl, rfl, rfl, by decide +kernel⟩ ?hw ?hc
  case hw => w_witness2
  case hc =>
    refine K00.walkX (l := PySem.Challenge.rw_leapcard_k00_sign_strings_and_marks) (m := 63) (lev := 7) (z := "_law_script") rfl (by decide) (by kernel_rfl) ⟨rfl, by decide, by decide⟩ ?F
    intro w mg fa h Y G hmg0
    obtain ⟨K, KX, c⟩ := Y
    have hmg : mg ("law" : PySem.Str) = some (.ref fa) := by
      have e : (HandSHeadRun.topDef (OpenLaw.row PySem.Challenge.rw_leapcard_k00_sign_strings_and_marks).prog 60).name = ("law" : PySem.Str) := by kernel_rfl
      rw [← e]
      exact hmg0
    obtain ⟨fd, hb, hF⟩ := K00.facts (P := (PySem.Challenge.rw_leapcard_k00_sign_strings_and_marks).prog) (w := w) KX G hmg c
    exact ⟨K, fd, K00.sp_law K, KX, hb, fun H a ns hS => ⟨a, ns, rfl, hS, fun _ => rfl⟩, hF⟩
