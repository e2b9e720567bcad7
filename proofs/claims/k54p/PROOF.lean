import PyProof.Rows.All
import Wide.All
import OpenK.AllK
import Wide.FinOn
import HandS.ForMost
import HandS.Exc
import HandS.ExcInit
import HandS.ExcCtx
import HandS.ExcField
import HandS.ExcIs
import HandS.TryOnly
import HandS.ExcOwn
import HandS.CallSlots
import HandS.WordsExc
import HandS.HotCalls
import HandS.SuiteRaise
import HandS.Defaults
import HandS.Wide
import HandS.FStr
import HandS.StrMore
import HandS.IsInst
import HandS.Evl
import HandS.Head0
import HandS.Head1
import HandS.Head2
import HandS.HeadEnd
import HandS.HeadHook1
import HandS.HeadHook2
import HandS.EndBits
import HandS.HeadHook3
import HandS.HeadNt
import HandS.More
import HandS.ClsMeth
import HandS.Style
import HandS.SortKw
import KE.KRevSl
import KE.DatumOrd
import KE.KCallOwn
import HandS.OwnEq
import HandS.ReplaceLit
import HandS.ReplaceDef
import HandS.FStrTup
import HandS.Conv
import PyProof.CollectStr
import HandS.ReplaceList
import HandS.Zip
import KE.KOpsOwn
import PySem.Challenge.RW_leapcard_k54_weights_checked
import HandS.MakeKwOnly
import HandS.Replace
set_option Elab.async false
set_option linter.all false
set_option maxRecDepth 100000
set_option maxHeartbeats 2000000
namespace Lc
open PySem PySem.Spec PyProof.Rows L2

/-! ### an error class, whatever own classes stand between it and ValueError -/
def excC (K : PySem.W.Frag) (C : Addr) : Bool := match K.lookup C with
  | some ⟨.type "type", _, .cls cd, sl⟩ => (match cd.mro, sl.toList with
    | .ref C' :: bm, [_, _, _, _, some (.builtin n), _] => C' == C && (n == "ValueError.__new__" && (!cd.hasDel && (cd.hasDict && PySem.HandSPX.refsVE bm)))
    | _, _ => false)
  | _ => false
theorem excC_ok {K : PySem.W.Frag} {C : Addr} (q : excC K C = true) :
    ∃ nm q N bs bm sn sub ab col dd k0 k1 k2 k3 k5, K.lookup C = some (excClassObj nm q C N bs bm true sn sub ab col dd k0 k1 k2 k3 k5 "ValueError.__new__") ∧ PySem.HandSPX.refsVE bm = true := by
  unfold excC at q
  split at q
  · rename_i dd cd sl ho
    split at q
    · rename_i C' bm k0 k1 k2 k3 n k5 hm hs
      simp only [Bool.and_eq_true, beq_iff_eq, Bool.not_eq_true'] at q
      obtain ⟨rfl, rfl, hdel, hd, hv⟩ := q
      obtain ⟨nm, bs, mro, ns, qn, hdd, sn, sub, ab, col, del⟩ := cd
      dsimp only at hm hdel hd
      subst hm hdel hd
      have hsl : sl = #[k0, k1, k2, k3, some (.builtin "ValueError.__new__"), k5] := by
        obtain ⟨l⟩ := sl
        simp only at hs
        rw [hs]
      subst hsl
      exact ⟨nm, qn, ns, bs, bm, sn, sub, ab, col, dd, k0, k1, k2, k3, k5, ho, hv⟩
    · cases q
  · cases q
def oexB (K : PySem.W.Frag) (C : Addr) : Bool := excC K C && (decide (PySem.W.findIn K (.ref C) "__setattr__" = some (some (.builtin "object.__setattr__"))) && (decide (PySem.W.subIn K (.ref C) (.type "BaseException") = some true) &&
  (decide (PySem.W.typeIn K (.ref C) = some (.type "type")) && PySem.W.keepIn K (.ref C))))
theorem oexB_ok {K : PySem.W.Frag} {C : Addr} (h : oexB K C = true) : OexC K C := by
  obtain ⟨h1, h⟩ := Bool.and_eq_true_iff.mp h
  obtain ⟨h2, h⟩ := Bool.and_eq_true_iff.mp h
  obtain ⟨h3, h⟩ := Bool.and_eq_true_iff.mp h
  obtain ⟨h4, h5⟩ := Bool.and_eq_true_iff.mp h
  exact ⟨excC_ok h1, of_decide_eq_true h2, of_decide_eq_true h3, of_decide_eq_true h4, h5⟩

/-! ### the facts of a head: names, defs, tables with text keys, one more Bool -/
abbrev AlE : Type := He.AlD × (List (Option (List (Option (Str × Int)))) × Bool)
def asM (g : Addr → Option Obj) (n : Nat) : List Addr := He.asD g n ++ [cStatics]
def obsE (fa : List He.Fa) (fn : List He5.DefA) (ts : List He.Tab) (ex : PySem.W.Frag → Bool) (K : PySem.W.Frag) : AlE := (He5.obsA fa fn K, ts.map (fun t => He.dicW K (t.1 K)), ex K)
def obsEG (n : Nat) (fa : List He.Fa) (fn : List He5.DefA) (ts : List He.Tab) (ex : PySem.W.Frag → Bool) (g : Addr → Option Obj) : AlE := obsE fa fn ts ex (He.frG g (asM g n))
structure SaysM (fa : List He.Fa) (fn : List He5.DefA) (ts : List He.Tab) (ex : PySem.W.Frag → Bool) (w : World) (K : PySem.W.Frag) : Prop where
  a : He5.SaysA fa fn K
  t : ts.map (fun t => He.dicW K (t.1 K)) = ts.map fun t => some (He.keysIn w.params t.2)
  e : ex K = true
def hookM (n : Nat) (fa : List He.Fa) (fn : List He5.DefA) (ts : List He.Tab) (ex : PySem.W.Frag → Bool) : PySem.W.Hook where
  α := AlE
  obs := fun s => obsEG n fa fn ts ex s.heap.get?
  val := fun w => (He5.valA fn, ts.map (fun t : He.Tab => some (He.keysIn w.params t.2)), true)
  says := fun w h => ∃ K : PySem.W.Frag, K.In h ∧ SaysM fa fn ts ex w K
  of := fun _ _ e => ⟨_, He.frG_in, congrArg (fun z : AlE => z.1) e, congrArg (fun z : AlE => z.2.1) e, congrArg (fun z : AlE => z.2.2) e⟩
  keeps := fun _ _ _ ⟨K, hK, c⟩ k => ⟨K, PySem.W.Frag.In.keeps hK k, c⟩
theorem obsEG_eq {n : Nat} {fa : List He.Fa} {fn : List He5.DefA} {ts : List He.Tab} {ex : PySem.W.Frag → Bool} {g : Addr → Option Obj} {s : Shared} (h : ∀ a, g a = s.heap.get? a) : obsEG n fa fn ts ex g = (hookM n fa fn ts ex).obs s := by
  have e : g = s.heap.get? := funext h
  rw [e] <;> rfl
theorem SaysM.tab {fa : List He.Fa} {fn : List He5.DefA} {ts : List He.Tab} {ex : PySem.W.Frag → Bool} {w : World} {K : PySem.W.Frag} (c : SaysM fa fn ts ex w K) (i : Nat) {t : He.Tab} (h : ts[i]? = some t := by rfl) : ∃ es n, KDict K w (t.1 K) es n := by
  have e : (ts.map fun t => He.dicW K (t.1 K))[i]? = (ts.map fun t => some (He.keysIn w.params t.2))[i]? := by rw [c.t]
  rw [List.getElem?_map, List.getElem?_map, h] at e
  exact He.dicW_ok (Option.some.inj e)

/-! ### a def of the text, found by where it stands -/
instance : Inhabited FuncData := ⟨PySem.W.fnOf "" "" { posonlyargs := [], args := [], vararg := none, kwonlyargs := [], kw_defaults := [], kwarg := none, defaults := [] } [] { kind := .function, names := [], isGenerator := false, isCoroutine := false } .none .none .none .none none .none .none⟩
def fdOf (K : PySem.W.Frag) (f : Addr) : FuncData := match K.lookup f with
  | some ⟨_, _, .func fd, _⟩ => fd
  | _ => default
abbrev HasD (K : PySem.W.Frag) (d : He5.DefA) : Prop := FunD K d.name d.qual d.params d.body d.scope (d.dvs K) (d.kws K) (d.at_ K) (fdOf K (d.at_ K))
theorem fdOf_eq {K : PySem.W.Frag} {x qual : Str} {pa : Arguments} {bd : List Stmt} {sc : Scope} {dvs : List V} {kws : List (Str × V)} {f : Addr} {fd : FuncData} (F : FunD K x qual pa bd sc dvs kws f fd) : fdOf K f = fd := by
  obtain ⟨oc, od, dV, kV, doc, pm, an, cdv, ct, osl, rfl, lk, _⟩ := F.ex
  unfold fdOf
  rw [lk]
theorem has_of {fa : List He.Fa} {fn : List He5.DefA} {K : PySem.W.Frag} (c : He5.SaysA fa fn K) (i : Nat) {d : He5.DefA} (h : fn[i]? = some d) : HasD K d := by
  obtain ⟨fd, F⟩ := c.def_ i h
  show FunD K d.name d.qual d.params d.body d.scope (d.dvs K) (d.kws K) (d.at_ K) (fdOf K (d.at_ K))
  rw [fdOf_eq F]
  exact F
abbrev OkD (P : Program) (w : World) (K : PySem.W.Frag) (mg : Str → Option Value) (base : Heap) (k : Nat) (d : He5.DefA) (ps : List Str) (sp : Sp) : Prop := FnOk P w K mg base (L2N.CX P w) k (d.at_ K) (fdOf K (d.at_ K)) ps sp
end Lc
namespace Lc
open PySem PySem.Spec PyProof.Rows L2
section
variable {X : Cx}
/-! ### s[::-1] of a text -/
def revS (z : Str) : Str := ⟨z.cps.toList.reverse.toArray⟩
def tRevS (te : TE) : TE := fun σ H Q => te σ H fun x H1 => ∃ z, x = .str z ∧ z.length ≤ sizeLine ∧ Q (.str (revS z)) H1
theorem revS_picks (z : Str) : ((Builtin.Str.strSliceIndices none none (-1) z.length).filterMap (z.cps[·]?)).toArray = z.cps.toList.reverse.toArray := by
  have e : Builtin.Str.strSliceIndices none none (-1) z.length = sliceRange ((z.length : Int) - 1) (-1) (-1) := by
    first
      | rfl
      | simp [Builtin.Str.strSliceIndices]
  rw [e, PySem.W.krv_sliceRange, PySem.W.krv_range, List.filterMap_reverse]
  have h := PySem.W.krv_all z.cps
  exact congrArg (fun l : List Nat => l.reverse.toArray) h
theorem pe_revS {e : Expr} {te : TE} {k : Nat} {p1 p2 p3 pos : Pos} (he : PE X e te) : PE X (.Subscript e (.Slice none none (some (.UnaryOp .USub (.Constant (.int 1) k p1) p2)) p3) pos) (tRevS te) := by
  refine ⟨fun pins s σ H Q I h => ?_⟩
  refine Subscript_ (thn (he.run pins s σ H _ I h) fun v s1 ⟨x, H1, I1, r1, q1⟩ => ?_)
  obtain ⟨z, ex, hz, q⟩ := q1
  subst ex
  obtain ⟨t, rfl⟩ := r1
  have hst : PO X (some (.UnaryOp .USub (.Constant (.int 1) k p1) p2)) (tPart (tUn (rU fun i => .int (-i)) (tC (.int 1)))) := po_some (pe_un un_neg pe_int)
  refine wpAny_Slice (thn (po_none.run pins s1 σ H1 (fun o H2 => o = none ∧ H2 = H1) I1 ⟨rfl, rfl⟩) fun vl s2 ⟨l, H2, I2, pl, el, e2⟩ => ?_)
  subst el e2
  refine thn (po_none.run pins s2 σ H2 (fun o H3 => o = none ∧ H3 = H2) I2 ⟨rfl, rfl⟩) fun vu s3 ⟨u, H3, I3, pu, eu, e3⟩ => ?_
  subst eu e3
  refine thn (hst.run pins s3 σ H3 (fun o H4 => o = some (-1) ∧ H4 = H3) I3 ⟨1, rfl, -1, rfl, rfl, rfl⟩) fun vs s4 ⟨o, H4, I4, ps, eo, e4⟩ => ?_
  subst eo e4
  have I5 : Inv X pins σ H4 { s4 with heap := s4.heap.push { cls := .type "slice", data := .fields #[vl, vu, vs] } } := I4.kept (t' := s4.toks) fun b ob q => Heap.get?_push_of_some _ q
  cases pl
  cases pu
  cases ps with
  | int _ t5 =>
  show wpAny (model X.prog X.w) X.A (subscriptTail e (.Slice none none (some (.UnaryOp .USub (.Constant (.int 1) k p1) p2)) p3) (.str z t) (.ref s4.heap.objs.size)) (EP X pins σ Q) X.xe { s4 with heap := s4.heap.push { cls := .type "slice", data := .fields #[.none, .none, .int (-1) t5] } }
  refine tail_any (ops := [.str z t, .ref s4.heap.objs.size]) (typeIs_str _ _ _) F.slot_str_getitem.lookup ?_ (by with_unfolding_all rfl)
  refine wpAny_getItem_str_slice (l := none) (u := none) (st := some (-1, t5)) (Heap.IsSliceOf.new _ .none .none (.int (-1) t5)) (by rfl) ?_
  show Made.post (if ((-1 : Int) == 1 && (Builtin.Str.strSliceIndices none none (-1) z.length).length == z.length) = true then Made.val (.str z t)
    else Made.str ⟨((Builtin.Str.strSliceIndices none none (-1) z.length).filterMap (z.cps[·]?)).toArray⟩) (EP X pins σ Q) _
  rw [if_neg (by rw [show ((-1 : Int) == 1) = false by decide, Bool.false_and]; decide), revS_picks]
  refine ⟨?_, .str (revS z), H4, I5.tok _, ⟨_, rfl⟩, q⟩
  show z.cps.toList.reverse.toArray.size ≤ sizeLine
  have hz2 : z.cps.toList.length ≤ sizeLine := by
    have : z.length = z.cps.toList.length := by simp [Str.length]
    omega
  simpa using hz2

/-! ### min(xs, default=d) of a list of texts -/
def minS : Str → List Str → Str := PySem.W.minOf
def rMinSD (K : PySem.W.Frag) : List V → List V → Hp → VK → Prop := fun vs zs H Q => ∃ (a : Addr) (xs : List Str) (d : V), vs = [.ref a] ∧ zs = [d] ∧ SqL K H a (xs.map V.str) ∧ (xs = [] → Q d H) ∧ ∀ y ys, xs = y :: ys → Q (.str (minS y ys)) H
theorem holdAll_strs {h : Heap} : ∀ {xs : List Str} {its : List Value}, Vals (xs.map V.str) its → PySem.W.HoldAll h its xs
  | [], its, r => by
    cases r
    exact ⟨_, .nil⟩
  | x :: xs, its, r => by
    cases r with
    | cons r1 r2 =>
      obtain ⟨t, rfl⟩ := r1
      obtain ⟨as, q⟩ := holdAll_strs (h := h) r2
      exact ⟨_, .cons (.str x t) q⟩
theorem cr_minSD (hc : X.calm = true) (hu : X.A.units + 1 < cLine) : CallRK X (.builtin "min") [("default" : Str)] (rMinSD X.K) := by
  intro pins s σ H vs zs us ws Q I r rz h
  obtain ⟨a, xs, d, rfl, rfl, hs, q0, q1⟩ := h
  obtain ⟨its, rv, hl, _⟩ := I.list hs
  rw [Vals.ref1 r]
  cases rz with
  | cons rd rn =>
    cases rn
    rename_i dv
    show wpAny _ _ (call (.builtin "min") [.ref a] [(Str.ofString "default", dv)]) _ _ _
    refine PySem.W.min_list_datum_default (α := Str) (xs := xs) (I.ok.hd hc) hl.isList (by simpa using holdAll_strs rv) hu (fun e h' tk hk => ?_) fun y ys i v h' tk e hi hv hk => ?_
    · exact ⟨d, H, I.kept hk, rd, q0 e⟩
    · refine ⟨.str (minS y ys), H, I.kept hk, ?_, q1 y ys e⟩
      obtain ⟨as, rr⟩ := hv
      have rr' : Reads h' v (.str (minS y ys)) as := rr
      cases rr' with
      | str _ t => exact ⟨t, rfl⟩
/-- the call -/
theorem pe_minSD {e : Expr} {t : TA} {tk : TA} {p pos : Pos} {kw : Keyword} (hc : X.calm = true) (hu : X.A.units + 1 < cLine) (hg : Gl X "min") (hm : X.mg "min" = none) (ha : PA X [e] t) (hk : PK X [kw] tk)
    (he : backTo pos (starEach (e :: []) X.env) = (false, eval e X.env) :: backTo pos (starEach [] X.env) := by rfl) (hpl : (backTo pos (starEach (e :: []) X.env)).any (·.1) = false := by rfl)
    (hall : (backToKw pos (keywordEach [kw] X.env)).all (·.1.isSome) = true := by rfl) (hnone : (backToKw pos (keywordEach [kw] X.env)).any (·.1.isNone) = false := by rfl) (hks : (backToKw pos (keywordEach [kw] X.env)).filterMap (·.1) = [("default" : Str)] := by rfl) :
    PE X (.Call (.Name "min" p) [e] [kw] pos) (tCKw (rMinSD X.K) t tk) :=
  pe_callBK (cr_minSD hc hu) hg hm (by decide +kernel) ha hk (by decide) (by decide) he hpl hall hnone hks

/-! ### C.__init__(self, ..) of an own class C between the error's class and ValueError -/
theorem pe_ownInit {x : Str} {CL : Addr} {e : Expr} {es : List Expr} {ta : TA} {p1 p2 pos : Pos} {pl : Sem Bool} (hg : Gl X x) (hm : X.mg x = some (.ref CL)) (hdb : (x == ("__debug__" : Str)) = false := by decide)
    (sp : PySem.W.specialIn X.K (.ref CL) "__getattribute__" = some (some (.builtin "type.__getattribute__"))) (rd : PySem.W.readsIn X.K CL (.type "type") = true)
    (vV : PySem.W.findCls X.K (.ref CL) (.type "type") "__init__" = some (.val (.builtin "ValueError.__init__"))) (ha : PA X (e :: es) ta)
    (hc : eval (.Call (.Attribute (.Name x p1) "__init__" p2) (e :: es) [] pos) X.env = (do
      let ov ← eval (.Name x p1) X.env
      standAt p2.atName
      let (f, first) ← holding [ov] (getMethod ov "__init__" pl)
      callWith pos f first (backTo pos (starEach (e :: es) X.env)) (backToKw pos (keywordEach [] X.env))) := by rfl)
    (he : starEach (e :: es) X.env = (false, eval e X.env) :: starEach es X.env := by rfl) (hpl : (backTo pos (starEach es X.env)).any (·.1) = false := by rfl) :
    PE X (.Call (.Attribute (.Name x p1) "__init__" p2) (e :: es) [] pos) (tVeI X.K ta) := by
  refine ⟨fun pins s σ H Q I h => ?_⟩
  refine PySem.W.methodCall_KW (ld_glob I hg hm ?_ hdb) hc
  refine PySem.W.method_cls I.kIn sp (PySem.W.cls_value I.kIn rd vV (by decide +kernel) ?_)
  show wpAny _ _ (callWith pos (Value.builtin "ValueError.__init__") [] (backTo pos (starEach (e :: es) X.env)) []) _ _ _
  refine PyProof.Rows.callWith_method1 (thn (ha.run pos pins _ σ H _ (I.tok _) h) fun us s1 ⟨vs, H1, I1, r1, a, C, ws, ev, hl, T, ea, q⟩ => ?_) he hpl
  subst ev
  cases r1 with
  | @cons _ u0 _ ur ra rw' =>
    obtain rfl : u0 = Value.ref a := ra
    have hlen : ur.length ≤ sizeLine := by
      rw [← Paired.length rw', sizeLine_eq]
      omega
    exact oinit_ok T I1 ea hlen fun s' J => ⟨.non, H1, J, rfl, q⟩

/-! ### an error with its own __init__ made where nothing is handled: its context is None -/
theorem passN : Passes (L2N.CX X.prog X.w) X E0 := fun _ _ _ _ _ _ _ h => by
  obtain ⟨_, _, _, _, _, _, _, _, _, _, _, _, no⟩ := h
  exact absurd no id
theorem pmkN_oex {CY : CXT} {nm : Str} {C g : Addr} {lev : Nat} {fdI : FuncData} {prs : List Str} {pr : Sp} {xs : List Value} {ws : List V} {arg : Expr} {more : List Expr} {tA : TA} {q1 q2 : Pos}
    (ox : OexC X.K C) (at_ : PySem.W.findIn X.K (.ref C) "__init__" = some (some (.ref g))) (isf : PySem.W.typeIn X.K (.ref g) = some (.type "function"))
    (keeps : FnOk X.prog X.w X.K X.mg X.base CY lev g fdI prs pr) (room : Room (lev + 1) X.A) (bnd : Binds X.K fdI prs xs) (vls : Vals ws xs) (ps : Passes CY X E0) (gl : Gl X nm) (mgx : X.mg nm = some (.ref C)) (pa : PA X (arg :: more) tA)
    (ndb : (nm == ("__debug__" : Str)) = false := by decide) (plain1 : starEach (arg :: more) X.env = (false, eval arg X.env) :: starEach more X.env := by rfl) (plain2 : (backTo q2 (starEach more X.env)).any (·.1) = false := by rfl) :
    L2N.PMk X (.Call (.Name nm q1) (arg :: more) [] q2) (tMkO C pr ws tA) := by
  intro pins s σ H Q I goal
  obtain ⟨_, _, _, _, mro, _, _, _, _, _, _, _, _, _, _, lkC, ve⟩ := ox.cls
  refine wpAny_Call_Name_kw (ld_glob I gl mgx ?_ ndb)
  refine PySem.W.callWith_K (h₀ := X.base) I.ok.mod.kin ox.kC (thn (pa.run q2 pins s σ H _ I goal) ?_) plain1 plain2
  rintro us ⟨hp, gs, dr, tk, os⟩ ⟨vs, Ha, Ia, ra, small, each⟩
  refine ⟨Ia.kIn, ?_⟩
  show wpAny _ _ (call (.ref C) us) _ _ _
  have above : hp.objs.size ≤ hp.objs.size + 1 := by omega
  have free : Ha (hp.objs.size + 1) = none := Ia.hok.fresh above
  have pr1 := each (hp.objs.size + 1) free
  let hp2 := (hp.push (PySem.W.kdv_tup us)).push (PySem.HandSPX.excO C hp.objs.size)
  have kept : ∀ b o, hp.get? b = some o → hp2.get? b = some o := fun b o e => Heap.get?_push_of_some _ (Heap.get?_push_of_some _ e)
  have here : hp2.get? (hp.objs.size + 1) = some (PySem.HandSPX.excO C hp.objs.size) := by show ((hp.push (PySem.W.kdv_tup us)).push (PySem.HandSPX.excO C hp.objs.size)).get? _ = _; heap_get
  have Ib : Inv X pins σ (upd Ha (hp.objs.size + 1) (exo (hp.objs.size + 1) C none)) ⟨hp2, gs, dr, tk, os⟩ := Ia.laid (t' := tk) (a := hp.objs.size + 1) (o := exo (hp.objs.size + 1) C none) (h' := hp2) kept above (exo_ok here)
  have rb : Vals (V.ref (hp.objs.size + 1) :: (vs ++ ws)) (Value.ref (hp.objs.size + 1) :: (us ++ xs)) := .cons rfl (ra.append vls)
  have many : (Value.ref (hp.objs.size + 1) :: us ++ xs).length = prs.length := by rw [← keeps.len _ _ _ _ pr1]; exact rb.length.symm
  have fits : us.length ≤ sizeLine := by rw [← Paired.length ra, sizeLine_eq]; omega
  have body := keeps.run _ X.stack _ _ ⟨Value.ref (hp.objs.size + 1) :: us, []⟩ (Value.ref (hp.objs.size + 1) :: (us ++ xs)) _ _ E0 (room.make C us []) (Ib.env0.make C us []) (bnd _ (Value.ref (hp.objs.size + 1) :: us) Ib.kIn many) rb pr1
  refine wpAny_call (PySem.HandSPX.call_own F.excBase_ValueError (fun Y => PySem.HandSPX.refsVE_contains Y mro ve) (Ia.kIn _ _ lkC) (PySem.W.looks_findIn Ia.kIn at_) (fun self => PySem.W.bind_fn Ia.kIn self isf) fits (codeAny_mono body ?_))
  intro r s' after
  match r, after with
  | .error er, after => exact ps pins σ _ _ er s' Ib after
  | .ok (.ret u), after =>
    obtain ⟨v, Hb, os2, bare2, un2, hok2, rv, none_, d, fs, oa, od, newd, fin⟩ := after
    subst none_
    obtain ⟨h2, g2, d2, t2, os'⟩ := s'
    refine ⟨rv, ?_⟩
    obtain ⟨t0, G, J, kG, ge, hoe, na⟩ := mk_end0 (d2 := d2) (t2 := t2) Ia above kept un2 hok2 os2 bare2 oa od newd
    exact ⟨hp.objs.size + 1, _, _, ⟨G, g2, d2, t2, os'⟩, _, .ref C, some d, rfl, J, kG, ge, hoe, ⟨rfl, rfl, fun vs hv => by cases hv; rfl⟩, rfl, rfl, na, rfl, bare2, raises_own ox.exC ox.tyC, fin⟩
  | .ok .next, after => exact False.elim after
  | .ok .brk, after => exact False.elim after
  | .ok .cont, after => exact False.elim after

/-! ### isinstance(e, C), e the caught error, C its very class -/
theorem isi_same {x D : Addr} {ox : Obj} {od : Option Obj} {prog : Program} {w : World} {A : Around} {E : Value → Shared → Prop} {s : Shared} {Q : Value → Shared → Prop} (J : PySem.W.InstAt s.heap x ox D od) (h : ∀ tk, Q (.bool true) { s with toks := tk }) :
    wpAny (model prog w) A (call (.builtin "isinstance") [.ref x, .ref D]) Q E s := by
  refine call_isinstance (S := fun _ R s => PySem.W.InstAt s.heap x ox D od ∧ ∀ tk, R (.ok (.ret (.bool true))) { s with toks := tk }) (fun prog w A R s hs => isinstance_outer ?_ (fun z => nomatch z)) ⟨J, h⟩
  obtain ⟨hp, g, d, tt, os⟩ := s
  obtain ⟨J2, hq⟩ := hs
  have LT := J2.type (M := model prog w)
  unfold Builtin.«isinstance.nested»
  refine wpAny_bind (LT.at ?_)
  rw [if_pos (beq_self_eq_true _)]
  first
    | exact wpAny_bind (wpAny_rule (wpAny_pure (hq tt)))
    | exact wpAny_bind (wpAny_rule (hq tt))
def rIsX (D a : Addr) (cls : Value) (d : Option Addr) : List V → Hp → VK → Prop := fun xs H Q => ∃ (dd : Addr) (fs : List (Str × V)), xs = [.ref a, .ref D] ∧ cls = .ref D ∧ d = some dd ∧ H dd = some (.xd fs) ∧ Q (.bl true) H
theorem call_isX {a D : Addr} {oe : Obj} {cls : Value} {d : Option Addr} {pn : List (Addr × Obj)} (hz : Zc cls d oe) (hf : ∃ vs, oe.data = .fields vs) : CallR (X.suite a ((a, oe) :: pn)) (.builtin "isinstance") (rIsX D a cls d) := by
  intro pins s σ H xs us Q I r h
  obtain ⟨dd, fs, rfl, rfl, rfl, ha, q⟩ := h
  obtain ⟨u1, u2, rfl, r1, r2⟩ := vals2 r
  obtain rfl : u1 = Value.ref a := r1
  obtain rfl : u2 = Value.ref D := r2
  obtain ⟨hget, _⟩ := I.pin (a, oe) (List.mem_append.mpr (.inl List.mem_cons_self))
  obtain ⟨vs, hv⟩ := hf
  have hx : ObjOk X.prog X.w H s.heap dd (.xd fs) := I.hok dd _ ha
  obtain ⟨mA, hns, _⟩ := hx
  obtain ⟨od, ho, _⟩ := lookIn_ns hns
  have J : PySem.W.InstAt s.heap a oe D (some od) := ⟨hget, hz.1, by unfold PySem.W.notCls; rw [hv] <;> rfl, by rw [hz.2]; exact ho⟩
  exact isi_same J fun tk => ⟨.bl true, H, I.tok _, rfl, q⟩
theorem hot_suite {a : Addr} {oe : Obj} {cls : Value} {d : Option Addr} {pn : List (Addr × Obj)} (hz : L2N.Zn cls d oe) (hf : ∃ vs, oe.data = .fields vs) : L2H.HotC (X.suite a ((a, oe) :: pn)) := by
  obtain ⟨vs, hv⟩ := hf
  exact ⟨(a, oe), ⟨rfl, vs, hv, hz.2.2 vs hv⟩, List.mem_cons_self⟩
theorem takes0N : L2N.Takes X (fun _ _ _ _ => False) := fun _ _ x => by
  obtain ⟨_, _, _, _, _, _, _, _, _, _, _, _, _, _, _, _, no⟩ := x
  exact absurd no id
theorem passAtN {σ : L2.St} : PassesAt (L2N.CX X.prog X.w) X σ E0 := fun _ _ _ _ _ _ h => by
  obtain ⟨_, _, _, _, _, _, _, _, _, _, _, _, no⟩ := h
  exact absurd no id
end
end Lc
namespace Lc
open PySem PySem.Spec PyProof.Rows L2 Evl
section
variable {K : PySem.W.Frag} {σ : L2.St} {H H' : Hp} {ta tb te tx : TE} {t u : TT} {x y z v : V} {r : R2} {D : Ends}
theorem rv_catS {a b : Str} (h : a.length + b.length ≤ 100000) : RV (fun x y H Q => ∃ i j, x = .str i ∧ y = .str j ∧ i.length + j.length ≤ sizeLine ∧ Q (.str (i ++ j)) H) (.str a) (.str b) H (.str (a ++ b)) := fun H1 _ _ q => ⟨a, b, rfl, rfl, sz_of h, q H1 (Ex.refl H1)⟩
theorem rv_ltS {a b : Str} : RV (fun x y H Q => ∃ i j, x = .str i ∧ y = .str j ∧ Q (.bl (decide (i.cps.toList < j.cps.toList))) H) (.str a) (.str b) H (.bl (decide (a.cps.toList < b.cps.toList))) := fun H1 _ _ q => ⟨a, b, rfl, rfl, q H1 (Ex.refl H1)⟩
theorem rv_inC {c : Nat} {b : Str} : RV (fun x y H Q => ∃ (c : Nat) (z : Str), x = .str ⟨#[c]⟩ ∧ y = .str z ∧ Q (.bl (decide (c ∈ z.cps.toList))) H) (.str ⟨#[c]⟩) (.str b) H (.bl (decide (c ∈ b.cps.toList))) := fun H1 _ _ q => ⟨c, b, rfl, rfl, q H1 (Ex.refl H1)⟩
theorem rv_notInC {c : Nat} {b : Str} : RV (fun x y H Q => ∃ (c : Nat) (z : Str), x = .str ⟨#[c]⟩ ∧ y = .str z ∧ Q (.bl (!decide (c ∈ z.cps.toList))) H) (.str ⟨#[c]⟩) (.str b) H (.bl (!decide (c ∈ b.cps.toList))) := fun H1 _ _ q => ⟨c, b, rfl, rfl, q H1 (Ex.refl H1)⟩
theorem rc_lenS {w : Str} (h : w.length ≤ 100000) : RC (fun xs H Q => ∃ x n, xs = [x] ∧ LenV K x H n ∧ Q (.int n) H) [.str w] H (.int w.length) := fun H1 _ _ q => ⟨.str w, w.length, rfl, ⟨sz_of h, rfl⟩, q H1 (Ex.refl H1)⟩
theorem rc_lenL {p : Addr} {xs : List V} (h : SqL K H p xs) : RC (fun xs H Q => ∃ x n, xs = [x] ∧ LenV K x H n ∧ Q (.int n) H) [.ref p] H (.int xs.length) := fun H1 e _ q => ⟨.ref p, xs.length, rfl, .inl ⟨xs, ex_l e h, rfl⟩, q H1 (Ex.refl H1)⟩
theorem rc_lenT {p : Addr} {xs : List V} (h : SqT K H p xs) : RC (fun xs H Q => ∃ x n, xs = [x] ∧ LenV K x H n ∧ Q (.int n) H) [.ref p] H (.int xs.length) := fun H1 e _ q => ⟨.ref p, xs.length, rfl, .inr ⟨xs, ex_t e h, rfl⟩, q H1 (Ex.refl H1)⟩
theorem rc_intI {i : Int} : RC (fun xs H Q => (∃ i, xs = [V.int i] ∧ Q (V.int i) H) ∨ ∃ k, xs = [V.bl k] ∧ Q (V.int (if k = true then 1 else 0)) H) [.int i] H (.int i) := fun H1 _ _ q => .inl ⟨i, rfl, q H1 (Ex.refl H1)⟩
theorem rc_intB {k : Bool} : RC (fun xs H Q => (∃ i, xs = [V.int i] ∧ Q (V.int i) H) ∨ ∃ k, xs = [V.bl k] ∧ Q (V.int (if k = true then 1 else 0)) H) [.bl k] H (.int (if k = true then 1 else 0)) := fun H1 _ _ q => .inr ⟨k, rfl, q H1 (Ex.refl H1)⟩
theorem rc_sum {p : Addr} {ns : List Int} (h : SqL K H p (ns.map V.int)) : RC (rSum K) [.ref p] H (.int ns.sum) := fun H1 e _ q => ⟨p, ns, rfl, ex_l e h, q H1 (Ex.refl H1)⟩
theorem rc_min2 {i j : Int} : RC (fun xs H Q => ∃ i j, xs = [V.int i, V.int j] ∧ Q (.int (if j < i then j else i)) H) [.int i, .int j] H (.int (if j < i then j else i)) := fun H1 _ _ q => ⟨i, j, rfl, q H1 (Ex.refl H1)⟩
theorem rc_isStr {w : Str} : RC (rIsi K) [.str w, .ty "str"] H (.bl true) := fun H1 _ _ q => ⟨.str w, .ty "str", .type "str", .type "str", true, rfl, .ty _, .base (.str _), kit_ty (by decide +kernel), q H1 (Ex.refl H1)⟩
theorem ev_slS {tl th : TO} {w : Str} {lo hi : Option Int} (h : Ev te σ H (.str w)) (h1 : EvO tl σ H lo) (h2 : EvO th σ H hi) (hz : w.length ≤ 100000) : Ev (tSl rSlS te tl th) σ H (.str (cutS w lo hi)) := fun H1 e _ q =>
  h H1 e _ fun H2 e2 => h1 H2 (e.trans e2) _ fun H3 e3 => h2 H3 ((e.trans e2).trans e3) _ fun H4 e4 => ⟨w, rfl, sz_of hz, q H4 ((e2.trans e3).trans e4)⟩
theorem ev_revS {w : Str} (h : Ev te σ H (.str w)) (hz : w.length ≤ 100000) : Ev (tRevS te) σ H (.str (revS w)) := fun H1 e _ q => h H1 e _ fun H2 e2 => ⟨w, rfl, sz_of hz, q H2 e2⟩
theorem ev_join {a : Str} {ys : List Str} (h : Ev ta σ H (.str a)) (hl : EvL te σ H (ys.map V.str)) (hz : (ys.map (·.length)).sum + ys.length * a.length ≤ 16777216) :
    Ev (tM1 (fun x xs H Q => ∃ a p, ∃ ys : List Str, x = .str a ∧ xs = [.ref p] ∧ (SqL K H p (ys.map V.str) ∨ SqT K H p (ys.map V.str)) ∧ (ys.map (·.length)).sum + ys.length * a.length ≤ 16777216 ∧ Q (.str (Txt.join a ys)) H) ta te) σ H (.str (Txt.join a ys)) := fun H1 e _ q =>
  h H1 e _ fun H2 e2 => ⟨⟨a, rfl⟩, hl H2 (e.trans e2) _ fun p H3 _ e3 hp => ⟨a, p, ys, rfl, rfl, .inl (sq_of hp), hz, q H3 (e2.trans e3)⟩⟩
def minD (d : Str) : List Str → Str
  | [] => d
  | y :: ys => minS y ys
theorem ev_minSD {xs : List Str} {d : Str} (hl : EvL te σ H (xs.map V.str)) (hd : Ev ta σ H (.str d)) : Ev (tCKw (rMinSD K) (tCons te tNil) (tCons ta tNil)) σ H (.str (minD d xs)) := fun H1 e Q q =>
  hl H1 e _ fun p H2 _ e2 hp => hd H2 (e.trans e2) _ fun H3 e3 => ⟨p, xs, .str d, rfl, rfl, sq_of (e3 p _ hp), fun ex => by
    subst ex
    exact q H3 (e2.trans e3), fun y ys ex => by
    subst ex
    exact q H3 (e2.trans e3)⟩
end
end Lc
namespace Lc
open PySem PySem.Spec PyProof.Rows L2
section
variable {X : Cx} {CX : CXT} {k : Nat} {C f g p : Addr} {fd : FuncData} {ps : List Str} {sp : Sp} {E : XK} {pins : List (Addr × Obj)} {σ : L2.St} {H : Hp} {s : Shared}
/-! ### a def run where the room is another -/
theorem run_at {A : Around} {us : List Value} {vs : List V} {Q : VK} (hA : A.frames = X.A.frames) (F : FnOk X.prog X.w X.K X.mg X.base CX k f fd ps sp) (hr : Room k A) (hb : Binds X.K fd ps []) (hx : Passes CX X E)
    (I : Inv X pins σ H s) (r : Vals vs us) (h : sp vs H Q E) : wpAny (model X.prog X.w) A (call (.ref f) us) (EP X pins σ Q) X.xe s := by
  have e0 : Env0 X.prog X.w X.K X.mg X.base A X.stack s H := by
    have e := I.env0
    exact ⟨by rw [hA]; exact e.frames, e.mod, e.bs, e.bsz, e.funs, e.frf, e.hok, e.bare⟩
  have hl : us.length = ps.length := by rw [← r.length]; exact F.len _ _ _ _ h
  refine wpAny_call (codeAny_mono (F.run A X.stack s H ⟨us, []⟩ us vs Q E hr e0 (by
    have h2 := hb s us I.kIn (by simpa using hl)
    simpa using h2) r h) fun r s' hq => ?_)
  cases r with
  | error e => exact hx pins σ H s e s' I hq
  | ok fl =>
    cases fl with
    | ret u => exact I.after hq
    | next => exact False.elim hq
    | brk => exact False.elim hq
    | cont => exact False.elim hq
/-! ### str(o) by an own __str__ -/
def rStrOwn (C : Addr) (sp : Sp) (E : XK) : List V → Hp → VK → Prop := fun xs H Q => ∃ a dx fs, xs = [.ref a] ∧ H a = some (.ins C dx fs) ∧ sp [.ref a] H (fun v H' => ∃ z, v = .str z ∧ Q v H') E
theorem call_strOwn (F : FnOk X.prog X.w X.K X.mg X.base CX k f fd ps sp) (hr : Room (k + 2) X.A) (hs : PySem.W.findIn X.K (.ref C) "__str__" = some (some (.ref f))) (hf : PySem.W.isFn X.K (.ref f) = true) (hb : Binds X.K fd ps []) (hx : Passes CX X E) :
    CallR X (.type "str") (rStrOwn C sp E) := by
  intro pins s σ H xs us Q I r h
  obtain ⟨a, dx, fs, rfl, ha, hsp⟩ := h
  obtain ⟨u, rfl, r1⟩ := vals1 r
  obtain rfl : u = Value.ref a := r1
  obtain ⟨mA, J, _⟩ := ins_get I.hok ha
  obtain ⟨od, J, _⟩ := J.look
  refine PySem.W.kso_call hr.in1.in1.units0 I.kIn J hs hf (wpAny_mono (run_at (A := X.A.in1.in1) rfl F hr.in1.in1 hb hx I r hsp) (fun w s' hw => ?_) fun _ _ x => x)
  obtain ⟨v, H', I', rv, z, rfl, q⟩ := hw
  obtain ⟨t, rfl⟩ := rv
  exact ⟨.str z, H', I', ⟨t, rfl⟩, q⟩
/-! ### a == b by an own __eq__, both answers -/
def rEqOwn (C : Addr) (sp : Sp) (E : XK) : R2 := fun x y H Q => ∃ a dx fs b dy gs, x = .ref a ∧ H a = some (.ins C dx fs) ∧ y = .ref b ∧ H b = some (.ins C dy gs) ∧ sp [.ref a, .ref b] H (fun v H' => ∃ k, v = .bl k ∧ Q v H') E
theorem op_eqOwn (F : FnOk X.prog X.w X.K X.mg X.base CX k f fd ps sp) (hr : Room k X.A) (hs : PySem.W.findIn X.K (.ref C) "__eq__" = some (some (.ref f))) (hf : PySem.W.isFn X.K (.ref f) = true) (hb : Binds X.K fd ps []) (hx : Passes CX X E) :
    OpR X (compareOp .Eq) (rEqOwn C sp E) := by
  intro pins s σ H x y v u Q I rx ry h
  obtain ⟨a, dx, fs, b, dy, gs, rfl, ha, rfl, hb', hsp⟩ := h
  obtain rfl : v = Value.ref a := rx
  obtain rfl : u = Value.ref b := ry
  show wpAny (model X.prog X.w) X.A (richCompare .Eq (.ref a) (.ref b)) (EP X pins σ Q) X.xe s
  obtain ⟨mA, J, _⟩ := ins_get I.hok ha
  obtain ⟨mB, J', _⟩ := ins_get I.hok hb'
  obtain ⟨od, J, _⟩ := J.look
  obtain ⟨od', J', _⟩ := J'.look
  obtain ⟨m, hF⟩ := I.fr
  refine PySem.W.cmp_K (op := .Eq) (tb := .ref C) hr.units0 hF I.ok.mod.kin J J'.type (by simp [PySem.W.notFirst]) hs hf (wpAny_mono (run_at (A := X.A) (vs := [.ref a, .ref b]) rfl F hr hb hx I (.cons (show RelV (.ref a) (Value.ref a) from rfl) (.cons (show RelV (.ref b) (Value.ref b) from rfl) .nil)) hsp) (fun w s' hw => ?_) fun _ _ x => x)
  obtain ⟨v, H', I', rv, k, rfl, q⟩ := hw
  cases rv
  exact ⟨.bl k, H', I', rfl, q⟩
/-! ### C.m(..), m a static method -/
structure SMet (K : PySem.W.Frag) (C : Addr) (mc : Value) (m : Str) (p g : Addr) : Prop where
  at_ : PySem.W.findCls K (.ref C) mc m = some (.get (.builtin "staticmethod.__get__") (.ref p) .none (.ref C))
  rc : ∃ rest, PySem.W.recIn K p "staticmethod" = some (.ref g :: rest)
  kp : PySem.W.keepIn K (.ref g) = true
def tSMeth (C : Addr) (sp : Sp) (dvs : List V) (E : L2.St → XK) (ta : TE) (t : TA) : TE := fun σ H Q => ta σ H fun x H1 => x = .ref C ∧ t σ H1 fun vs H2 => sp (vs ++ dvs) H2 Q (E σ)
theorem pe_smeth {mc : Value} {m : Str} {dvs : List V} {ds : List Value} {E : L2.St → XK} {o e : Expr} {es : List Expr} {pos apos : Pos} {ta : TE} {t : TA} {pl : Sem Bool} (he : PE X o ta) (r : ClX.CRead X.K C mc) (c : SMet X.K C mc m p g)
    (F : FnOk X.prog X.w X.K X.mg X.base CX k g fd ps sp) (hr : Room k X.A) (hb : Binds X.K fd ps ds) (hd : Vals dvs ds) (hx : ∀ σ, PassesAt CX X σ (E σ)) (ha : PA X (e :: es) t)
    (hst : starEach (e :: es) X.env = (false, eval e X.env) :: starEach es X.env := by rfl) (hpl : (backTo pos (starEach es X.env)).any (·.1) = false := by rfl)
    (ht : eval (.Call (.Attribute o m apos) (e :: es) [] pos) X.env = (do
      let ov ← eval o X.env
      standAt apos.atName
      let (f, first) ← holding [ov] (getMethod ov m pl)
      callWith pos f first (backTo pos (starEach (e :: es) X.env)) (backToKw pos (keywordEach [] X.env))) := by rfl) :
    PE X (.Call (.Attribute o m apos) (e :: es) [] pos) (tSMeth C sp dvs E ta t) := by
  refine ⟨fun pins s σ H Q I h => ?_⟩
  refine PySem.W.methodCall_KW (pl := pl) (thn (he.run pins s σ H _ I h) fun u s1 ⟨x, H1, I1, rx, ex, q⟩ => ?_) ht
  subst ex
  obtain rfl : u = Value.ref C := rx
  obtain ⟨rest, hp⟩ := c.rc
  refine PySem.W.method_cls I1.kIn r.ga (PySem.W.cls_bind I1.kIn r.rd c.at_ (wpAny_call (PySem.W.sm_get (s := { s1 with toks := s1.toks + 1 }) I1.kIn hp (PySem.W.handed_on rfl ?_))))
  have I2 := I1.tok (s1.toks + 1)
  refine PySem.W.callWith_K (h₀ := X.base) (first := []) I2.ok.mod.kin c.kp (thn (ha.run pos pins _ σ H1 _ I2 q) fun us s3 ⟨vs, H2, I3, rv, q2⟩ => ⟨I3.kIn, ?_⟩) hst hpl
  exact run_fnSD F hr hb hd (hx σ) I3 rv q2
end
/-! ### d.get(k, x) of a written table -/
def tKGet (K : PySem.W.Frag) (d : Addr) (td ty tx : TE) : TE := fun σ H Q => td σ H fun x H1 => x = .ref d ∧ ty σ H1 fun y H2 => tx σ H2 fun z H3 => ∃ (n : Str) (r : Option Value) (o : Option V), y = .str n ∧ PySem.W.nsIn K d n = some r ∧
  (match o, r with
    | some v, some u => RelV v u
    | none, none => True
    | _, _ => False) ∧ Q (o.getD z) H3
section
variable {X : Cx} {o e f : Expr} {apos cpos : Pos} {td ty tx : TE} {d : Addr} {es : Array DictEntry} {n : Nat}
theorem pe_kget (D : KDict X.K X.w d es n) (ho : PE X o td) (he : PE X e ty) (hf : PE X f tx) (m : M2 X o "get" apos e f cpos) : PE X (.Call (.Attribute o "get" apos) [e, f] [] cpos) (tKGet X.K d td ty tx) := by
  refine ⟨fun pins s σ H Q I h => ?_⟩
  refine wpAny_Call_method m.base m.few m.line PySem.F.plainAttrs_dict PySem.F.slot_dict_get PySem.F.type_dict_get (thn (ho.run pins s σ H _ I h) fun u s1 ⟨x, H1, I1, rx, ex, q1⟩ => ?_)
  subst ex
  obtain rfl : u = Value.ref d := rx
  refine ⟨kd_type D I1, fun b q => ?_, ?_⟩
  · cases q
    exact ⟨_, I1.kIn _ _ D.at_, rfl⟩
  rw [m.trees]
  refine Calls.callWith_builtin rfl (Calls.evalArgs_plain (Calls.spliced_cons (thn (he.run pins s1 σ H1 _ I1 q1) fun iv s2 ⟨y, H2, I2, ry, q2⟩ =>
    Calls.spliced_cons (thn (hf.run pins s2 σ H2 _ I2 q2) fun fv s3 ⟨z, H3, I3, rz, nm, r, ov, ey, ns, rel, q3⟩ => Calls.spliced_nil ?_))))
  subst ey
  obtain ⟨t, rfl⟩ := ry
  refine call_meetsIn PySem.F.slot_dict_get (kd_type D I3) PySem.F.entry_dict_get (PySem.F.args_dict_get_3 _ _ _) (meets_dict_get_default (strKind X.prog X.w) d (strKind_is X.prog X.w nm t) D.low fv) ⟨_, PySem.W.mapOf_K (prog := X.prog) I3.kIn D.at_ D.lit, ?_⟩
  rw [PySem.W.find_K D.at_ ns]
  refine ⟨ov.getD z, H3, I3.tok _, ?_, q3⟩
  cases ov with
  | none =>
    cases r with
    | none => exact rz
    | some u => exact False.elim rel
  | some v =>
    cases r with
    | none => exact False.elim rel
    | some u => exact rel
end
end Lc
namespace Lc
open PySem PySem.Spec PyProof.Rows L2
/-! ### the facts of classes, as Bools -/
section
variable {K : PySem.W.Frag} {c c2 f m : Str} {b : Bool}
def topB (K : PySem.W.Frag) : Bool := decide (PySem.W.specialIn K (.ref (He.ga K "LeapError")) "__getattribute__" = some (some (.builtin "type.__getattribute__"))) && (PySem.W.readsIn K (He.ga K "LeapError") (.type "type") &&
  ((match PySem.W.findCls K (.ref (He.ga K "LeapError")) (.type "type") "__init__" with
    | some (.val (.builtin b)) => b == "ValueError.__init__"
    | _ => false) && PySem.W.keepIn K (.ref (He.ga K "LeapError"))))
def errB (K : PySem.W.Frag) (c f : Str) : Bool := oexB K (He.ga K c) && (xfB K (He.ga K c) && (decide (PySem.W.findIn K (.ref (He.ga K c)) "__init__" = some (some (.ref (He.ma K (He.ga K c) "__init__")))) &&
  (decide (PySem.W.typeIn K (.ref (He.ma K (He.ga K c) "__init__")) = some (.type "function")) && (decide (PySem.W.findIn K (.ref (He.ga K c)) f = some none) && decide (PySem.W.exmOne K (.ref (He.ga K c)) (.ref (He.ga K "LeapError")) = some true)))))
structure XF (K : PySem.W.Frag) (c f : Str) : Prop where
  oex : OexC K (He.ga K c)
  xf : XfC K (He.ga K c)
  iC : PySem.W.findIn K (.ref (He.ga K c)) "__init__" = some (some (.ref (He.ma K (He.ga K c) "__init__")))
  tI : PySem.W.typeIn K (.ref (He.ma K (He.ga K c) "__init__")) = some (.type "function")
  no : PySem.W.findIn K (.ref (He.ga K c)) f = some none
  exm : PySem.W.exmOne K (.ref (He.ga K c)) (.ref (He.ga K "LeapError")) = some true
  sp : PySem.W.specialIn K (.ref (He.ga K "LeapError")) "__getattribute__" = some (some (.builtin "type.__getattribute__"))
  rd : PySem.W.readsIn K (He.ga K "LeapError") (.type "type") = true
  vV : PySem.W.findCls K (.ref (He.ga K "LeapError")) (.type "type") "__init__" = some (.val (.builtin "ValueError.__init__"))
  kL : PySem.W.keepIn K (.ref (He.ga K "LeapError")) = true
theorem errB_ok (ht : topB K = true) (h : errB K c f = true) : XF K c f := by
  unfold topB at ht
  unfold errB at h
  simp only [Bool.and_eq_true, decide_eq_true_eq] at ht h
  obtain ⟨t1, t2, t3, t4⟩ := ht
  obtain ⟨h1, h2, h3, h4, h5, h6⟩ := h
  refine ⟨oexB_ok h1, xfB_ok h2, h3, h4, h5, h6, t1, t2, ?_, t4⟩
  split at t3
  · rename_i b hb
    rw [hb, beq_iff_eq.mp t3]
  · cases t3
def kitB (K : PySem.W.Frag) (c c2 : Str) (b : Bool) : Bool := decide (PySem.W.kitOne K (.ref (He.ga K c)) (.ref (He.ga K c2)) = some b)
theorem kitB_ok (h : kitB K c c2 b = true) : PySem.W.kitOne K (.ref (He.ga K c)) (.ref (He.ga K c2)) = some b := of_decide_eq_true h
def clsB (K : PySem.W.Frag) (c : Str) : Bool := PySem.W.readsIn K (He.ga K c) (.type "type") && decide (PySem.W.specialIn K (.ref (He.ga K c)) "__getattribute__" = some (some (.builtin "type.__getattribute__")))
theorem clsB_ok (h : clsB K c = true) : ClX.CRead K (He.ga K c) (.type "type") := by
  obtain ⟨h1, h2⟩ := Bool.and_eq_true_iff.mp h
  exact ⟨h1, of_decide_eq_true h2⟩
def smB (K : PySem.W.Frag) (c m : Str) : Bool := He5.wrapB K (He.ga K c) "staticmethod" "staticmethod.__get__" m && PySem.W.keepIn K (.ref (He5.wf K (He.ga K c) "staticmethod" m))
theorem smB_ok (h : smB K c m = true) : SMet K (He.ga K c) (.type "type") m (He.ma K (He.ga K c) m) (He5.wf K (He.ga K c) "staticmethod" m) := by
  obtain ⟨h1, h2⟩ := Bool.and_eq_true_iff.mp h
  obtain ⟨h3, h4⟩ := He5.wrapB_ok h1
  exact ⟨h3, h4, h2⟩
end
/-! ### a name that a table does not have -/
theorem dicW_no {K : PySem.W.Frag} {P : Params} {a : Addr} {ks : List Str} (h : He.dicW K a = some (He.keysIn P ks)) {z : Str} (hz : z ∉ ks) : PySem.W.nsIn K a z = some none := by
  unfold He.dicW at h
  unfold PySem.W.nsIn
  split at h
  · rename_i oc es n sl hk
    rw [hk]
    split at h
    · have e := Option.some.inj h
      have key : ∀ d ∈ es.toList, ∃ k ∈ ks, ∃ t, d.key = .str k t := fun d hd => by
        have hm : He.keyOf d ∈ es.toList.map He.keyOf := List.mem_map_of_mem hd
        rw [e] at hm
        unfold He.keysIn at hm
        obtain ⟨k, hk, ek⟩ := List.mem_map.mp hm
        unfold He.keyOf at ek
        split at ek
        · rename_i x t q
          have e2 := Option.some.inj ek
          have e3 : k = x := congrArg Prod.fst e2
          exact ⟨k, hk, t, by rw [q, e3]⟩
        · cases ek
      have hf : es.toList.find? (fun d => d.key.isStr z) = none := by
        rw [List.find?_eq_none]
        intro d hd
        obtain ⟨k, hk, t, ek⟩ := key d hd
        rw [ek]
        have hne : k ≠ z := fun q => hz (by rw [← q]; exact hk)
        show ¬ (Value.isStr (.str k t) z) = true
        simp [Value.isStr, hne]
      show (match es.toList.find? (fun d => d.key.isStr z) with
        | some e => some (some e.val)
        | none => if es.toList.any (·.refKey) then none else some none) = some none
      rw [hf]
      have ha : es.toList.any (·.refKey) = false := by
        rw [List.any_eq_false]
        intro d hd
        obtain ⟨k, hk, t, ek⟩ := key d hd
        unfold DictEntry.refKey
        rw [ek]
        simp
      simp only [ha]
      rfl
    · cases h
  · cases h
theorem SaysM.tab_no {fa : List He.Fa} {fn : List He5.DefA} {ts : List He.Tab} {ex : PySem.W.Frag → Bool} {w : World} {K : PySem.W.Frag} (c : SaysM fa fn ts ex w K) (i : Nat) {t : He.Tab} (h : ts[i]? = some t) {z : Str} (hz : z ∉ t.2) : PySem.W.nsIn K (t.1 K) z = some none := by
  have e : (ts.map fun t => He.dicW K (t.1 K))[i]? = (ts.map fun t => some (He.keysIn w.params t.2))[i]? := by rw [c.t]
  rw [List.getElem?_map, List.getElem?_map, h] at e
  exact dicW_no (Option.some.inj e) hz
theorem passX {X : Cx} {E : XK} (tk : L2N.Takes X fun cls d _ H' => E cls d H') : Passes (L2N.CX X.prog X.w) X E := fun pins σ H s e s' I c => L2N.passAt tk σ pins H s e s' I c
end Lc
namespace Lc
open PySem PySem.Spec PyProof.Rows L2
/-! ### isinstance(x, C) of an instance of C itself -/
def rIsOwn (C : Addr) : List V → Hp → VK → Prop := fun xs H Q => ∃ a dx fs, xs = [.ref a, .ref C] ∧ H a = some (.ins C dx fs) ∧ Q (.bl true) H
theorem call_isOwn {X : Cx} {C : Addr} : CallR X (.builtin "isinstance") (rIsOwn C) := by
  intro pins s σ H xs us Q I r h
  obtain ⟨a, dx, fs, rfl, ha, q⟩ := h
  obtain ⟨u1, u2, rfl, r1, r2⟩ := vals2 r
  obtain rfl : u1 = Value.ref a := r1
  obtain rfl : u2 = Value.ref C := r2
  obtain ⟨mA, J, _⟩ := ins_get I.hok ha
  obtain ⟨od, J, _⟩ := J.look
  exact isi_same J fun tk => ⟨.bl true, H, I.tok _, rfl, q⟩
end Lc
namespace Lc
open PySem PySem.Spec PyProof.Rows L2 Evl
/-- a text by its signs -/
def S (l : List Nat) : Str := ⟨l.toArray⟩
theorem tl_S (l : List Nat) : (S l).cps.toList = l := rfl
theorem S_tl (z : Str) : S z.cps.toList = z := by
  apply Str.ext'
  simp [S]
theorem S_len (l : List Nat) : (S l).length = l.length := by simp [S, Str.length]
theorem S_inj {a b : List Nat} (h : S a = S b) : a = b := by
  have := congrArg (fun z : Str => z.cps.toList) h
  exact this
theorem S_app (a b : List Nat) : S a ++ S b = S (a ++ b) := by
  have h := TL.tl_append (S a) (S b)
  rw [← S_tl (S a ++ S b)]
  exact congrArg S h
theorem join_S : ∀ l : List Nat, Txt.join (S []) (l.map fun c => S [c]) = S l := by
  intro l
  rw [TL.join_eq, ← S_tl (Str.join (S []) _)]
  refine congrArg S ?_
  have h := TL.tl_join (S []) (l.map fun c => S [c])
  refine Eq.trans h ?_
  rw [List.map_map]
  show TL.joinL [] (l.map fun c => [c]) = l
  induction l with
  | nil => rfl
  | cons a r ih =>
    cases r with
    | nil => rfl
    | cons b r =>
      show [a] ++ ([] ++ TL.joinL [] ((b :: r).map fun c => [c])) = a :: b :: r
      rw [ih (TL.tl_join _ _)]
      rfl
theorem join_sz (l : List Nat) (h : l.length ≤ 100000) : (((l.map fun c => S [c]).map (·.length)).sum + (l.map fun c => S [c]).length * (S []).length) ≤ 16777216 := by
  have e : ∀ l : List Nat, ((l.map fun c => S [c]).map (·.length)).sum = l.length := by
    intro l
    induction l with
    | nil => rfl
    | cons a r ih =>
      rw [List.map_cons, List.map_cons, List.sum_cons, ih, S_len]
      simp
      omega
  rw [e]
  have : (S []).length = 0 := rfl
  rw [this]
  omega
theorem cut_from (l : List Nat) (i : Nat) : cutS (S l) (some (i : Int)) none = S (l.drop i) := by
  unfold cutS
  rw [S_len, HT.sIx_nat, HT.sIx_none, tl_S]
  refine congrArg S ?_
  rw [List.take_of_length_le (by rw [List.length_drop]; omega)]
  by_cases h : i ≤ l.length
  · rw [Nat.min_eq_left h]
  · rw [Nat.min_eq_right (by omega), List.drop_of_length_le (Nat.le_refl _), List.drop_of_length_le (by omega)]
theorem cut_to (l : List Nat) (i : Nat) : cutS (S l) none (some (i : Int)) = S (l.take i) := by
  unfold cutS
  rw [S_len, HT.sIx_nat, HT.sIx_none, tl_S]
  refine congrArg S ?_
  rw [List.drop_zero, Nat.sub_zero]
  by_cases h : i ≤ l.length
  · rw [Nat.min_eq_left h]
  · rw [Nat.min_eq_right (by omega), List.take_of_length_le (Nat.le_refl _), List.take_of_length_le (by omega)]
theorem atI_i {α : Type} {xs : List α} {i : Int} (h0 : 0 ≤ i) (h1 : i < xs.length) (d : α) : atI xs i = some (xs.getD i.toNat d) := by
  have e : i = (i.toNat : Int) := by omega
  have hl : i.toNat < xs.length := by omega
  rw [e]
  refine atI_nat ?_
  rw [Int.toNat_natCast, List.getElem?_eq_getElem hl, List.getD_eq_getElem?_getD, List.getElem?_eq_getElem hl]
  rfl
theorem revS_S (l : List Nat) : revS (S l) = S l.reverse := rfl
section
variable {K : PySem.W.Frag} {σ : L2.St} {H H' : Hp} {ta tb te tx : TE} {t u : TT} {x y z v : V} {r : R2} {D : Ends}
theorem rv_ixSS {l : List Nat} {i : Int} (hl : l.length ≤ 100000) (h0 : 0 ≤ i) (h1 : i < l.length) : RV rIxS (.str (S l)) (.int i) H (.str (S [l.getD i.toNat 0])) := rv_ixS (by rw [S_len]; exact hl) (atI_i h0 h1 0)
theorem ev_cbL {r : List V → Hp → VK → Prop} {xs : List V} (h : EvL te σ H xs) (hr : ∀ p H1, H1 p = some (.lst xs) → Ex H H1 → RC r [.ref p] H1 z) : Ev (tCB r (tCons te tNil)) σ H z := fun H1 e Q q =>
  h H1 e _ fun p H2 _ e2 hp => hr p H2 hp (e.trans e2) H2 (Ex.refl H2) Q fun H3 e3 => q H3 (e2.trans e3)
theorem cutV_ints (ns : List Int) (lo hi : Option Int) : ∃ ms : List Int, cutV (ns.map V.int) lo hi = ms.map V.int := by
  unfold cutV
  exact ⟨_, by rw [← List.map_drop, ← List.map_take]⟩
end
/-! ### a box of three ints that a call changes -/
def Bx (H : Hp) (b : Addr) : Prop := ∃ i j k : Int, H b = some (.lst [.int i, .int j, .int k])
def ExB (b : Addr) (H H' : Hp) : Prop := ∀ c o, c ≠ b → H c = some o → H' c = some o
theorem ExB.refl {b : Addr} (H : Hp) : ExB b H H := fun _ _ _ h => h
theorem ExB.trans {b : Addr} {H H1 H2 : Hp} (h : ExB b H H1) (h2 : ExB b H1 H2) : ExB b H H2 := fun c o hc e => h2 c o hc (h c o hc e)
theorem ExB.of {b : Addr} {H H1 : Hp} (h : Ex H H1) : ExB b H H1 := fun c o _ e => h c o e
theorem Bx.ex {b : Addr} {H H1 : Hp} (h : Bx H b) (e : Ex H H1) : Bx H1 b := by
  obtain ⟨i, j, k, h⟩ := h
  exact ⟨i, j, k, e b _ h⟩
theorem ExB.upd {b : Addr} {H : Hp} {o : HO} : ExB b H (upd H b o) := fun c o hc e => by rw [upd_ne hc]; exact e
theorem Bx.put {b : Addr} {H : Hp} {i j k : Int} : Bx (upd H b (.lst [.int i, .int j, .int k])) b := ⟨i, j, k, upd_same⟩
theorem ExB.seq {K : PySem.W.Frag} {b a : Addr} {H H' : Hp} {xs : List V} (e : ExB b H H') (hab : a ≠ b) (h : SqL K H a xs) : SqL K H' a xs := by
  rcases h with (h | ⟨o, h⟩) | h
  · exact .inl (.inl (e _ _ hab h))
  · exact .inl (.inr ⟨o, e _ _ hab h⟩)
  · exact .inr h
theorem ExB.bx {b c : Addr} {H H' : Hp} (e : ExB b H H') (hcb : c ≠ b) (h : Bx H c) : Bx H' c := by
  obtain ⟨i, j, k, h⟩ := h
  exact ⟨i, j, k, e c _ hcb h⟩

section
variable {H : Hp}
theorem rv_inSS {c : Nat} {g : List Nat} : RV (fun x y H Q => ∃ (c : Nat) (z : Str), x = .str ⟨#[c]⟩ ∧ y = .str z ∧ Q (.bl (decide (c ∈ z.cps.toList))) H) (.str (S [c])) (.str (S g)) H (.bl (decide (c ∈ g))) := fun H1 _ _ q => ⟨c, S g, rfl, rfl, q H1 (Ex.refl H1)⟩
theorem rv_notInSS {c : Nat} {g : List Nat} : RV (fun x y H Q => ∃ (c : Nat) (z : Str), x = .str ⟨#[c]⟩ ∧ y = .str z ∧ Q (.bl (!decide (c ∈ z.cps.toList))) H) (.str (S [c])) (.str (S g)) H (.bl (!decide (c ∈ g))) := fun H1 _ _ q => ⟨c, S g, rfl, rfl, q H1 (Ex.refl H1)⟩
theorem rv_ltSS {a b : List Nat} : RV (fun x y H Q => ∃ i j, x = .str i ∧ y = .str j ∧ Q (.bl (decide (i.cps.toList < j.cps.toList))) H) (.str (S a)) (.str (S b)) H (.bl (decide (a < b))) := fun H1 _ _ q => ⟨S a, S b, rfl, rfl, q H1 (Ex.refl H1)⟩
theorem rv_catSS {a b : List Nat} (h : a.length + b.length ≤ 100000) : RV (fun x y H Q => ∃ i j, x = .str i ∧ y = .str j ∧ i.length + j.length ≤ sizeLine ∧ Q (.str (i ++ j)) H) (.str (S a)) (.str (S b)) H (.str (S (a ++ b))) := by
  have h2 := rv_catS (H := H) (a := S a) (b := S b) (by rw [S_len, S_len]; exact h)
  rw [S_app] at h2
  exact h2
theorem rc_lenSS {K : PySem.W.Frag} {l : List Nat} (h : l.length ≤ 100000) : RC (fun xs H Q => ∃ x n, xs = [x] ∧ LenV K x H n ∧ Q (.int n) H) [.str (S l)] H (.int l.length) := by
  have h2 := rc_lenS (K := K) (H := H) (w := S l) (by rw [S_len]; exact h)
  rw [S_len] at h2
  exact h2
theorem rc_lenStr {l : List Nat} (h : l.length ≤ 100000) : RC (fun xs H Q => ∃ z, xs = [V.str z] ∧ z.length ≤ sizeLine ∧ Q (.int z.length) H) [.str (S l)] H (.int l.length) := fun H1 _ _ q => ⟨S l, rfl, sz_of (by rw [S_len]; exact h), by rw [S_len]; exact q H1 (Ex.refl H1)⟩
theorem rv_eqII {a b : Int} : RV rEq (.int a) (.int b) H (.bl (decide (a = b))) := by
  have h2 := rv_eq (H := H) (x := .int a) (y := .int b) rfl
  have e : decide (V.int a = V.int b) = decide (a = b) := decide_eq_decide.mpr ⟨fun h => by injection h, fun h => by rw [h]⟩
  rw [e] at h2
  exact h2
theorem rv_neII {a b : Int} : RV rNe (.int a) (.int b) H (.bl (!decide (a = b))) := by
  have h2 := rv_ne (H := H) (x := .int a) (y := .int b) rfl
  have e : decide (V.int a = V.int b) = decide (a = b) := decide_eq_decide.mpr ⟨fun h => by injection h, fun h => by rw [h]⟩
  rw [e] at h2
  exact h2
theorem rv_neSS {a b : List Nat} : RV rNe (.str (S a)) (.str (S b)) H (.bl (!decide (a = b))) := by
  have h2 := rv_ne (H := H) (x := .str (S a)) (y := .str (S b)) rfl
  have e : decide (V.str (S a) = V.str (S b)) = decide (a = b) := decide_eq_decide.mpr ⟨fun h => S_inj (by injection h), fun h => by rw [h]⟩
  rw [e] at h2
  exact h2
theorem rv_eqSS {a b : List Nat} : RV rEq (.str (S a)) (.str (S b)) H (.bl (decide (a = b))) := by
  have h2 := rv_eq (H := H) (x := .str (S a)) (y := .str (S b)) rfl
  have e : decide (V.str (S a) = V.str (S b)) = decide (a = b) := by
    apply decide_eq_decide.mpr
    constructor
    · intro h
      exact S_inj (by injection h)
    · intro h
      rw [h]
  rw [e] at h2
  exact h2
end
/-! ### loops and comprehensions over a text -/
section
variable {K : PySem.W.Frag} {σ : L2.St} {H H' : Hp} {ta tb te tx : TE} {t : TT} {x y z v : V} {r : R2} {D : Ends} {tu tz : TS}
theorem its_at {l : List Nat} {i : Nat} {c : Nat} (h : (S l).cps[i]? = some c) : l[i]? = some c := by
  have h2 : l.toArray[i]? = some c := h
  simpa using h2
theorem its_sz (l : List Nat) : (S l).cps.size = l.length := by
  show l.toArray.size = l.length
  simp
theorem s_forS {l : List Nat} {j : Nat} (h : Ev te σ H (.str (S l))) (Pv : Nat → L2.St → Hp → Prop) (h0 : ∀ H1, Ex H H1 → Pv 0 σ H1)
    (hs : ∀ i c σ' H', l[i]? = some c → Pv i σ' H' → tu { D with nx := Pv (i + 1), ct := Pv (i + 1), bk := D.nx } (σ'.set j (some (.str (S [c])))) H') (hd : ∀ σ' H', Pv l.length σ' H' → D.nx σ' H') : tFor (iStr te) (gName j) tu D σ H :=
  h H (Ex.refl H) _ fun H1 e => ⟨S l, rfl, fun i m σ' H' => m = l.length - i ∧ i ≤ l.length ∧ Pv i σ' H', ⟨l.length, by simp, Nat.zero_le _, h0 H1 e⟩, fun i m σ' H' hw => by
    obtain ⟨rfl, hi, p⟩ := hw
    by_cases hlt : i < l.length
    · refine .inr ⟨by show i < (S l).cps.size; rw [its_sz]; exact hlt, Pv (i + 1), fun σ2 H2 p2 => ⟨l.length - (i + 1), by omega, rfl, hlt, p2⟩, fun x H2 hy => ?_⟩
      obtain ⟨e2, c, hc, ex⟩ := hy
      subst e2 ex
      exact hs i c σ' _ (its_at hc) p
    · have ei : i = l.length := by omega
      subst ei
      exact .inl ⟨by show (S l).cps.size ≤ l.length; rw [its_sz]; exact Nat.le_refl _, hd σ' H' p⟩⟩
theorem q_forS {l : List Nat} {j : Nat} (h : Ev te σ H (.str (S l))) (Pv : Nat → L2.St → Hp → Prop) (h0 : ∀ H1, Ex H H1 → Pv 0 σ H1)
    (hs : ∀ i c σ' H', l[i]? = some c → Pv i σ' H' → tu { D with nx := Pv (i + 1), ct := Pv (i + 1), bk := tz D } (σ'.set j (some (.str (S [c])))) H') (hd : ∀ σ' H', Pv l.length σ' H' → tz D σ' H') : tSeq (tFor (iStr te) (gName j) tu) tz D σ H :=
  s_forS (D := { D with nx := tz D }) h Pv h0 hs hd
theorem el_lcS {l : List Nat} {tl : TE} {j : Nat} {vs : List Nat} (f : Nat → Bool) (v : Nat → V) (h : Ev tl σ H (.str (S l))) (hz : l.length ≤ 40000) (hw : ∀ x, wipe ((wipe σ vs).set j (some x)) vs = wipe σ vs)
    (ht : ∀ (i : Nat) (c : Nat) H1, Ex H H1 → l[i]? = some c → EvT t ((wipe σ vs).set j (some (.str (S [c])))) H1 (f i)) (he : ∀ (i : Nat) (c : Nat) H1, Ex H H1 → l[i]? = some c → f i = true → Ev te ((wipe σ vs).set j (some (.str (S [c])))) H1 (v i)) :
    EvL (tLc (iStr tl) (gName j) t te vs) σ H (given l.length f v) := fun H0 e Q q => h H0 e _ fun H1 e1 => ⟨S l, rfl, fun Dl hD => by
  refine ⟨fun i m H' => m = l.length - i ∧ i ≤ l.length ∧ Cw H1 f v Dl i H', ⟨l.length, by simp, Nat.zero_le _, ⟨hD, Ex.new hD, upd_same⟩⟩, ?_⟩
  rintro i m H' ⟨rfl, hi, p⟩
  by_cases hlt : i < l.length
  · refine .inr ⟨by show i < (S l).cps.size; rw [its_sz]; exact hlt, Cw H1 f v Dl (i + 1), fun H2 p2 => ⟨l.length - (i + 1), by omega, rfl, hlt, p2⟩, fun x H2 hy => ?_⟩
    obtain ⟨e2, c, hc, ex⟩ := hy
    subst e2 ex
    have hc' := its_at hc
    exact ⟨hw _, cw_turn p (by omega) (ht i c H1 (e.trans e1) hc') (fun hf => he i c H1 (e.trans e1) hc' hf)⟩
  · have ei : i = l.length := by omega
    subst ei
    exact .inl ⟨by show (S l).cps.size ≤ l.length; rw [its_sz]; exact Nat.le_refl _, q Dl H' (fresh_back e1 p.1) (e1.trans p.2.1) p.2.2⟩⟩
end
theorem et_yes {σ : L2.St} {H : Hp} : EvT tYes σ H true := fun H1 _ _ q => q H1 (Ex.refl H1)
theorem given_all (n : Nat) (v : Nat → V) : given n (fun _ => true) v = (List.range n).map v := by
  unfold given
  rw [List.filter_eq_self.mpr (fun _ _ => rfl)]
theorem ev_index {K : PySem.W.Frag} {W : WX} {σ : L2.St} {H : Hp} {to : TE} {ta : TA} {z b : Str} {k : Nat} (ho : Ev to σ H (.str z)) (ha : EvA ta σ H [.str b]) (hk : Txt.index0 z b = some k) : Ev (tBMS K "str" (rIndexX W) to ta) σ H (.int (k : Int)) := fun H1 e _ q =>
  ho H1 e _ fun H2 e2 => ⟨rfl, ha H2 (e.trans e2) _ fun H3 e3 => ⟨z, b, rfl, rfl, fun j hj => by
    rw [hk] at hj
    cases hj
    exact q H3 (e2.trans e3), fun hn => by
    rw [hk] at hn
    cases hn⟩⟩
theorem given_filter {α : Type} (l : List α) (d : α) (p : α → Bool) (g : α → V) : given l.length (fun i => p (l.getD i d)) (fun i => g (l.getD i d)) = (l.filter p).map g := by
  unfold given
  have e : l = (List.range l.length).map fun i => l.getD i d := by
    apply List.ext_getElem
    · simp
    · intro i h1 h2
      simp [h1]
  conv => rhs; rw [e]
  rw [List.filter_map, List.map_map]
  rfl
theorem ev_pow10 {σ : L2.St} {H : Hp} {n v : Int} (h : (10 : Int) ^ n.toNat = v) (h0 : 0 ≤ n) (h1 : n ≤ 1000) : Ev (tOp (rI CPow fun i j => V.int (i ^ j.toNat)) (tC (V.int 10)) (tC (V.int n))) σ H (.int v) := by
  rw [← h]
  exact ev_op ev_c ev_c (rv_I ⟨h0, by omega, by decide⟩)
theorem getD_map_str (cs : List Nat) (k : Nat) : (cs.map fun c => V.str (S [c])).getD k (V.str (S [0])) = V.str (S [cs.getD k 0]) := by
  rw [List.getD_eq_getElem?_getD, List.getD_eq_getElem?_getD, List.getElem?_map]
  cases cs[k]? <;> rfl
theorem getD_in {l : List Nat} {k : Nat} (h : k < l.length) : l.getD k 0 ∈ l := by
  rw [List.getD_eq_getElem?_getD, List.getElem?_eq_getElem h]
  exact List.getElem_mem h
theorem emod_le_nat (i : Nat) {u : Int} (h : 0 < u) : (i : Int) % u ≤ i := by
  have h1 : (i : Int) % u + u * ((i : Int) / u) = i := by
    first
      | exact Int.emod_add_mul_ediv _ _
      | exact Int.emod_add_ediv _ _
  have h2 : 0 ≤ (i : Int) / u := Int.ediv_nonneg (by omega) (by omega)
  have h3 : 0 ≤ u * ((i : Int) / u) := Int.mul_nonneg (by omega) h2
  omega
theorem ev_to {σ : L2.St} {H : Hp} {te ti : TE} {l : List Nat} {k : Nat} (h : Ev te σ H (.str (S l))) (hi : Ev ti σ H (.int (k : Int))) (hl : l.length ≤ 100000) : Ev (tSl rSlS te tNoPart (tPart ti)) σ H (.str (S (l.take k))) := by
  have h := ev_slS h eo_none (eo_some hi) (by rw [S_len]; exact hl)
  rw [cut_to] at h
  exact h
theorem ev_from {σ : L2.St} {H : Hp} {te ti : TE} {l : List Nat} {k : Nat} (h : Ev te σ H (.str (S l))) (hi : Ev ti σ H (.int (k : Int))) (hl : l.length ≤ 100000) : Ev (tSl rSlS te (tPart ti) tNoPart) σ H (.str (S (l.drop k))) := by
  have h := ev_slS h (eo_some hi) eo_none (by rw [S_len]; exact hl)
  rw [cut_from] at h
  exact h
theorem op_first {σ : L2.St} {H : Hp} {r : R2} {ta tb : TE} {x : V} {Q : VK} (h : Ev ta σ H x) (k : ∀ H1, Ex H H1 → tb σ H1 fun y H2 => r x y H2 Q) : tOp r ta tb σ H Q := h H (Ex.refl H) _ k
theorem ret_op {σ : L2.St} {H : Hp} {r : R2} {ta tb : TE} {x : V} {D : Ends} (h : Ev ta σ H x) (k : ∀ H1, Ex H H1 → tb σ H1 fun y H2 => r x y H2 D.rt) : tRet (tOp r ta tb) D σ H := h H (Ex.refl H) _ k
end Lc
namespace Lc
open PySem PySem.Spec PyProof.Rows L2
/-! ### isinstance of an error with fields, both answers -/
section
open PySem.W
variable {prog : Program} {w : World} {A : Around} {E : Value → Shared → Prop} {s : Shared} {K : Frag} {x D : Addr} {ox : Obj} {od : Option Obj}
theorem findObj_dataX {C : Addr} {name : Str} {a g : Value} (hc : (clsIn K C).isSome = true) (ha : findIn K (.ref C) name = some (some a)) (hg : specialIn K a "__get__" = some (some g)) (ht : takesIn K a = some true) : findObj K C od name = some (.bind g a) := by
  obtain ⟨cd, hc⟩ := Option.isSome_iff_exists.mp hc
  unfold findObj
  rw [hc, Option.bind_some, ha, Option.bind_some]
  simp [hg, ht]
theorem kin_classX {Q : Option Value → Shared → Prop} (hga : findIn K (.ref D) "__getattribute__" = some (some (.builtin "BaseException.__getattribute__"))) (hgt : findIn K (.ref D) "__getattr__" = some none) (hsub : subIn K (.ref D) (.type "BaseException") = some true)
    (hdct : hasDictIn K D = true) (ha : findIn K (.ref D) "__class__" = some (some (.builtin "object.__class__")))
    (hn : specialIn K (.builtin "object.__class__") "__get__" = some (some (.builtin "getset_descriptor.__get__"))) (htk : takesIn K (.builtin "object.__class__") = some true) (hm : mroIn K D (.type "object") = some true)
    (X : K.In s.heap) (I : InstAt s.heap x ox D od) (h : Q (some (.ref D)) { s with toks := s.toks + 1 }) : wpAny (model prog w) A (getAttr? (.ref x) "__class__") Q E s := by
  have hf : findObj K D od "__class__" = some (.bind (.builtin "getset_descriptor.__get__") (.builtin "object.__class__")) := findObj_dataX (by obtain ⟨cd, hc, _⟩ := any_some hdct; rw [hc]; rfl) ha hn htk
  obtain ⟨hp, g, d, t, os⟩ := s
  have L0 := I.type (M := model prog w)
  have L1 := looks_findIn (M := model prog w) X hga
  have L2 := looks_findIn (M := model prog w) X hgt
  have L3 := looks_find (M := model prog w) X I hf
  have sub : Looks (model prog w) hp (isInstance (.ref x) (.type "BaseException")) true := L0.andThen (looks_subIn X hsub)
  have hx0 : (false && onTheHeap (Value.builtin "BaseException.__getattribute__")) = false := rfl
  have hx2 : (Value.builtin "BaseException.__getattribute__" == Value.builtin "object.__getattribute__") = false := by decide +kernel
  have hx1 : (onTheHeap (Value.ref D) && Value.builtin "BaseException.__getattribute__" == Value.builtin "object.__getattribute__") = false := by rw [hx2]; rfl
  unfold getAttr? getAttrBy? getAttrBy
  refine wpAny_bind (wpAny_mkText (wpAny_bind (wpAny_attempt (wpAny_holding (wpAny_bind (L0.at (wpAny_bind (L1.at ?_))))))))
  show wpAny _ _ (if (onTheHeap (Value.ref D) && Value.builtin "BaseException.__getattribute__" == Value.builtin "object.__getattribute__") = true then _ else _) _ _ _
  rw [hx1, if_neg Bool.false_ne_true]
  unfold getAttrByItsOwn hookBefore
  refine wpAny_bind ?_
  rw [if_pos (show onTheHeap (Value.ref D) = true from rfl)]
  refine L2.at ?_
  refine wpAny_bind (wpAny_attempt (wpAny_holding ?_))
  unfold callGetattribute
  rw [hx0, if_neg Bool.false_ne_true]
  unfold boundAndCalled
  rw [PySem.F.excAttr_ValueError.ga.bind (.ref x)]
  refine wpAny_bind (wpAny_pure ?_)
  show wpAny _ _ (call (.builtin "BaseException.__getattribute__") [.ref x, .str "__class__" t]) _ _ _
  refine wpAny_call (codeAny_call_builtin PySem.F.excAttr_ValueError.ga.plain PySem.F.entry_bexc_ga ?_)
  refine @check_slot (model prog w) _ _ ⟨hp, g, d, t + 1, os⟩ "BaseException.__getattribute__" "BaseException" "__getattribute__" (.ref x) [.str "__class__" t] [] _ (by decide +kernel) (by decide +kernel) sub (PySem.F.args_bexc_ga (.ref x) (.str "__class__" t)) ?_
  unfold Builtin.«object.__getattribute__»
  refine wpAny_bind (wpAny_of_eq (a := ((Value.ref x : Value), [Value.str "__class__" t])) (by first | rfl | (simp only [slotArgs]; rfl)) ?_)
  refine wpAny_bind (wpAny_pure (wpAny_bind (L0.at (wpAny_bind (L3.at ?_)))))
  show wpAny _ _ (holding [Value.builtin "object.__class__"] (call (.builtin "getset_descriptor.__get__") [.builtin "object.__class__", .ref x, .ref D]) >>= ret) _ _ _
  refine wpAny_bind (wpAny_holding (wpAny_call (class_get (s := ⟨hp, g, d, t + 1, os⟩) (ox := ox) (od := od) X I hm ?_)))
  refine wpAny_pure ?_
  show wpAny _ _ (handedOut (.ref D)) _ _ _
  rw [handedOut_of (v := .ref D) rfl]
  first
    | exact wpAny_pure (wpAny_pure h)
    | exact wpAny_pure h
    | exact wpAny_pure (wpAny_bind (wpAny_pure (wpAny_pure h)))
theorem kitx_excX (hga : findIn K (.ref D) "__getattribute__" = some (some (.builtin "BaseException.__getattribute__"))) (hgt : findIn K (.ref D) "__getattr__" = some none) (hsub : subIn K (.ref D) (.type "BaseException") = some true) (hdct : hasDictIn K D = true) (ha : findIn K (.ref D) "__class__" = some (some (.builtin "object.__class__")))
    (hn : specialIn K (.builtin "object.__class__") "__get__" = some (some (.builtin "getset_descriptor.__get__"))) (htk : takesIn K (.builtin "object.__class__") = some true) (hm : mroIn K D (.type "object") = some true) :
    KitX K (.ref x) (.ref D) (fun h => ∃ od, InstAt h x ox D od) where
  ty := fun _ _ _ I => by
    obtain ⟨od, I⟩ := I
    exact I.type
  it := fun _ _ X _ => by
    obtain ⟨cdD, hcD, _⟩ := any_some hdct
    unfold clsIn at hcD
    split at hcD
    · rename_i c' d' cd' sl' ho
      intro A' Q' E' s' k q
      unfold isType loadHead
      exact wpAny_bind (wpAny_loadPart (k _ _ (X _ _ ho)) (wpAny_pure q))
    · cases hcD
  ne := fun h tp dd its n sl X htp => by
    obtain ⟨cdD, hcD, _⟩ := any_some hdct
    refine Bool.eq_false_iff.mpr fun q => ?_
    have e : D = tp := Value.ref.inj (beq_iff_eq.mp q)
    subst e
    unfold clsIn at hcD
    split at hcD
    · rename_i c' d' cd' sl' ho
      have z := (X _ _ ho).symm.trans htp
      cases z
    · cases hcD
  ca := fun X I k => by
    obtain ⟨od, I⟩ := I
    exact kin_classX hga hgt hsub hdct ha hn htk hm X I k
end
def excB (K : PySem.W.Frag) (D : Addr) : Bool := decide (PySem.W.findIn K (.ref D) "__class__" = some (some (.builtin "object.__class__"))) && (decide (PySem.W.specialIn K (.builtin "object.__class__") "__get__" = some (some (.builtin "getset_descriptor.__get__"))) &&
  (decide (PySem.W.takesIn K (.builtin "object.__class__") = some true) && decide (PySem.W.mroIn K D (.type "object") = some true)))
theorem excB_ok {K : PySem.W.Frag} {D : Addr} (T : XfC K D) (h : excB K D = true) : ExcC K D := by
  unfold excB at h
  simp only [Bool.and_eq_true, decide_eq_true_eq] at h
  obtain ⟨h1, h2, h3, h4⟩ := h
  exact ⟨T.ga, T.gg, T.exC, T.hdC, h1, h2, h3, h4⟩
/-- isinstance(e, c), e a caught error with fields -/
def rIsG (K : PySem.W.Frag) (D a : Addr) (cls : Value) (d : Option Addr) : List V → Hp → VK → Prop := fun xs H Q => ∃ (c : V) (cv : Value) (b : Bool) (dd : Addr) (fs : List (Str × V)), xs = [.ref a, c] ∧ ClsV c cv ∧ cls = .ref D ∧ d = some dd ∧ H dd = some (.xd fs) ∧ PySem.W.kitOne K (.ref D) cv = some b ∧ Q (.bl b) H
theorem call_isG {X : Cx} {a D : Addr} {oe : Obj} {cls : Value} {d : Option Addr} {pn : List (Addr × Obj)} (C : ExcC X.K D) (hz : Zc cls d oe) (hf : ∃ vs, oe.data = .fields vs) : CallR (X.suite a ((a, oe) :: pn)) (.builtin "isinstance") (rIsG X.K D a cls d) := by
  intro pins s σ H xs us Q I r h
  obtain ⟨c, cv, b, dd, fs, rfl, k, rfl, rfl, hdd, e, q⟩ := h
  obtain ⟨u1, u2, rfl, r1, r2⟩ := vals2 r
  obtain rfl : u1 = Value.ref a := r1
  have e2 := k.eq r2
  subst e2
  obtain ⟨hget, _⟩ := I.pin (a, oe) (List.mem_append.mpr (.inl List.mem_cons_self))
  obtain ⟨vs, hv⟩ := hf
  have hx : ObjOk X.prog X.w H s.heap dd (.xd fs) := I.hok dd _ hdd
  obtain ⟨mA, hns, _⟩ := hx
  obtain ⟨od, ho, _⟩ := lookIn_ns hns
  have J : PySem.W.InstAt s.heap a oe D (some od) := ⟨hget, hz.1, by unfold PySem.W.notCls; rw [hv] <;> rfl, by rw [hz.2]; exact ho⟩
  exact PySem.W.kia_one (kitx_excX C.hg C.hk C.hs C.hd C.ha C.hn C.ht C.hm) I.kIn ⟨some od, J⟩ e (fun z => nomatch z) fun tk => ⟨.bl b, H, I.tok tk, rfl, q⟩
/-! ### e.replace(y, z).lower(), e.replace(y, z).upper() -/
section
variable {X : Cx} {o : Expr} {to : TE}
theorem pet_m0 {id : String} {name : Str} {apos pos : Pos} {r : V → List V → Hp → VK → Prop} (slot : Slot "str" name id) (ty : typeOf (.builtin id) = pure (.type "method_descriptor")) (rule : MtR X id r) (ho : PET X o to)
    (hbase : attributeBase o name X.env (eval o X.env) = eval o X.env := by rfl) (hline : (apos.endLine == pos.line) = true := by rfl) : PET X (.Call (.Attribute o name apos) [] [] pos) (tM0 r to) := by
  intro pins s σ H Q h0 I h
  refine PySem.Call_method0 hbase hline (thn (ho pins s σ H _ h0 I h) fun v s1 ⟨x, H1, I1, r1, q1⟩ => ?_)
  obtain ⟨⟨a, rfl⟩, q1⟩ := q1
  obtain ⟨t, rfl⟩ := _root_.id r1
  exact ⟨"str", _, F.plainAttrs_str, slot, ty, typeIs_str _ _ _, (fun _ e => nomatch e), Calls.callWith_builtin rfl (PySem.evalArgs_none (rule pins s1 σ H1 _ [] _ [] Q I1 r1 .nil q1))⟩
end
/-- a def's body, one token out at its beginning -/
theorem okT {P : Program} {w : World} {K : PySem.W.Frag} {mg : Str → Option Value} {base : Heap} {k : Nat} {d : He5.DefA} {N ps : List Str} {sp : Sp} (F : HasD K d) (S : FnScope N ps d.scope) (hnc : ∀ y ∈ d.scope.names, y.2 ≠ .cell) (hps : 1 ≤ ps.length) (len : ∀ vs H Q E, sp vs H Q E → vs.length = ps.length)
    (hbody : ∀ (cdv : Value) (A : Around) (outer : List Env) (s : Shared) (H : Hp) (vs : List V) (Q : VK) (E : XK), Room k (A.deeper (envOfC d.qual d.scope s.heap.objs.size (d.at_ K) cdv)) → sp vs H Q E →
      ∃ t, PSsT (cxOf (L2N.CX P w) P w K mg base N d.qual d.scope (d.at_ K) cdv A outer s H E) d.body t ∧ t { nx := fun _ H' => Q .non H', rt := Q } (start N vs) H) :
    OkD P w K mg base (k + 1) d ps sp := by
  obtain ⟨oc, od, dV, kV, doc, pm, an, cdv, ct, osl, e, lk, hcd, _, _⟩ := F.ex
  show FnOk P w K mg base (L2N.CX P w) (k + 1) (d.at_ K) (fdOf K (d.at_ K)) ps sp
  rw [e] at lk ⊢
  exact fn_ofT lk hcd S hnc hps len (fun A outer s H vs Q E hr h => hbody cdv A outer s H vs Q E hr h)
/-! ### enumerate(a text) -/
def Itn (z : Str) : It := ⟨fun i _ => i < z.cps.size, fun i H v H' => ∃ T c, v = .ref T ∧ H T = none ∧ H' = upd H T (.tup [.int (i : Nat), .str ⟨#[c]⟩]) ∧ z.cps[i]? = some c, fun i _ => z.cps.size ≤ i⟩
theorem turn_enumS {P : Program} {w : World} {K : PySem.W.Frag} {elts : List Expr} {kk : Nat} {tpos : Pos} (z : Str) (t : Tok) (e it : Addr) (ty : String) (hty : ty = "str_ascii_iterator" ∨ ty = "str_iterator") :
    Turn P w K (.Tuple elts kk tpos) (Itn z) [e, it] e (fun i h => (∃ old, IsEnum h e it ((i : Nat) : Int) old) ∧ h.IsStrIter it ty z t i ∧ e ≠ it) where
  mem := by simp
  obj := fun i h st b hb => by
    obtain ⟨⟨old, he⟩, ⟨o, ho, hc, hd⟩, _⟩ := st
    have e' : b = e ∨ b = it := by simpa using hb
    rcases e' with q | q
    · rw [q]; exact ⟨_, he, fun v q => nomatch q⟩
    · rw [q]; exact ⟨o, ho, fun v q => by rw [hd] at q; cases q⟩
  keep := fun i h h' st k => let ⟨⟨old, he⟩, ⟨o, ho, r⟩, hne⟩ := st; ⟨⟨old, k e (by simp) _ he⟩, ⟨o, k it (by simp) o ho, r⟩, hne⟩
  item := by
    intro X hP hw hK hc i pins s σ H E I hf st hg
    subst hP hw hK
    obtain ⟨⟨old, he⟩, hit, hne⟩ := st
    have hel : e < s.heap.objs.size := Heap.lt_size he
    have hil : it < s.heap.objs.size := by obtain ⟨_, q, _⟩ := hit; exact Heap.lt_size q
    have hh : X.A.in1.handled = none := I.ok.hd hc
    have D : Draws X.prog X.w X.A.in1 it [it] z.cps.size (fun i v => ∃ c u, z.cps[i]? = some c ∧ v = .str ⟨#[c]⟩ u) (fun i h => h.IsStrIter it ty z t i) := by
      rcases hty with q | q
      · rw [q]; exact Draws.strAscii hh it z t
      · rw [q]; exact Draws.strWide hh it z t
    refine wpAny_pyNext_enum_itemD D he hit hg hne (by simpa using hne) fun x h' tk hx ho hit' hT hsz hk => ?_
    obtain ⟨c, u, hcx, rfl⟩ := hx
    refine ⟨_, rfl, wpAny_letOwnedTupleGo_enum (s := { s with heap := h', toks := tk + 1 }) ho fun h'' he' sb => ?_⟩
    have hT2 : h''.get? s.heap.objs.size = some { cls := .type "tuple", data := .seq #[.int i tk, .str ⟨#[c]⟩ u] } := (sb.2 _ (Nat.ne_of_gt hel)).trans hT
    have new : ObjOk X.prog X.w (upd H s.heap.objs.size (.tup [.int (i : Nat), .str ⟨#[c]⟩])) h'' s.heap.objs.size (.tup [.int (i : Nat), .str ⟨#[c]⟩]) :=
      ⟨by show 2 ≤ sizeLine; decide, [.int i tk, .str ⟨#[c]⟩ u], .cons ⟨_, rfl⟩ (.cons ⟨_, rfl⟩ .nil), ⟨_, hT2, rfl, _, rfl⟩⟩
    have I1 : Inv X pins σ (upd H s.heap.objs.size (.tup [.int (i : Nat), .str ⟨#[c]⟩])) { s with heap := h'', toks := tk + 1 } :=
      I.turnedNew (ch := [e, it]) (fun b ob hb q => (sb.2 b (fun z => hb (by simp [z]))).trans (hk b ob (fun z => hb (by simp [z])) (fun z => hb (by simp [z])) q)) hf (Nat.le_refl _) new
    refine ⟨.ref s.heap.objs.size, _, I1, rfl, ⟨_, c, rfl, I.hok.fresh (Nat.le_refl _), rfl, hcx⟩, ⟨⟨.str ⟨#[c]⟩ u, ?_⟩, ?_, hne⟩, fun b hb => ?_⟩
    · have e1 : ((i + 1 : Nat) : Int) = (i : Int) + 1 := by omega
      rw [e1]; exact he'
    · obtain ⟨o, ho', r⟩ := hit'
      exact ⟨o, (sb.2 it (Ne.symm hne)).trans ho', r⟩
    · have hb' : b < s.heap.objs.size := by
        have e' : b = e ∨ b = it := by simpa using hb
        rcases e' with q | q
        · rw [q]; exact hel
        · rw [q]; exact hil
      rw [upd_ne (Nat.ne_of_lt hb')]
      exact (hf b hb).1
  done := by
    intro X hP hw hK hc i pins s σ H E I hf st hg
    subst hP hw hK
    obtain ⟨⟨old, he⟩, hit, hne⟩ := st
    obtain ⟨f0, f1, f2, f3, f4, f5⟩ := hf it (by simp)
    have hh : X.A.in1.handled = none := I.ok.hd hc
    have hx : z.cps[i]? = none := Array.getElem?_eq_none hg
    have hT : s.TypeIs (.ref e) "enumerate" := ⟨_, he, rfl⟩
    unfold pyNext
    refine wpAny_bind (wpAny_attempt (wpAny_callSpecial?_slot (name := Str.ofString "__next__") hT F.slot_enumerate_next
      (wpAny_call_entry F.slot_enumerate_next hT F.entry_enumerate_next ?_ (F.args_enumerate_next_1 _))))
    show wpAny _ _ (field (.ref e) 2 >>= _) _ _ _
    refine wpAny_bind (wpAny_field he rfl (x := .ref it) rfl ?_)
    rcases hty with q | q
    · rw [q] at hit
      refine wpAny_bind (wpAny_nextOf_ascii_end hh hit hx fun h' x eb hx' => ?_)
      obtain ⟨o, ho, hc'⟩ := hx'
      refine wpAny_bind (wpAny_isInstance (T := "StopIteration") (b := true) ⟨o, ho, hc'⟩ isSubtype_stop ?_)
      exact wpAny_pure ⟨rfl, I.turned (t' := s.toks) (fun b o hb e => eb b o hb e) f0 f1 f3 f4 f5⟩
    · rw [q] at hit
      refine wpAny_bind (wpAny_nextOf_wide_end hh hit hx fun h' x eb hx' => ?_)
      obtain ⟨o, ho, hc'⟩ := hx'
      refine wpAny_bind (wpAny_isInstance (T := "StopIteration") (b := true) ⟨o, ho, hc'⟩ isSubtype_stop ?_)
      exact wpAny_pure ⟨rfl, I.turned (t' := s.toks) (fun b o hb e => eb b o hb e) f0 f1 f3 f4 f5⟩
  self := fun A i s Q E st h => let ⟨⟨_, he⟩, _⟩ := st; wpAny_pyIter_enum he h
def iEnumS (ta : TA) : TI := fun σ H R => ta σ H fun vs H1 => ∃ z, vs = [.str z] ∧ R (Itn z) H1
theorem pi_enumS {X : Cx} {e : Expr} {ta : TA} {p pos tpos : Pos} {elts : List Expr} {kk : Nat} (hg : Gl X "enumerate") (hm : X.mg "enumerate" = none) (ha : PA X [e] ta) (hs : starEach [e] X.env = [(false, eval e X.env)] := by rfl) :
    PI X (.Tuple elts kk tpos) (.Call (.Name "enumerate" p) [e] [] pos) (iEnumS ta) := by
  refine ⟨fun pins s σ H R I h => ?_⟩
  refine Call_ (ld_blt I hg hm boot_enumerate (PyProof.Rows.callWith_type1 (thn (ha.run pos pins s σ H _ I h) fun us s1 ⟨vs, H1, I1, r1, q1⟩ => ?_) hs rfl))
  obtain ⟨z, ex, q⟩ := q1
  subst ex
  obtain ⟨u, rfl, r⟩ := vals1 r1
  obtain ⟨t, rfl⟩ := r
  refine call_enumerate_str fun h' he hit hsz hk => wpAny_pyIter_enum he ?_
  have I2 : Inv X pins σ H1 { s1 with heap := h' } := I1.kept (t' := s1.toks) hk
  have hty : strIterType z = "str_ascii_iterator" ∨ strIterType z = "str_iterator" := by
    unfold strIterType
    split
    · exact .inl rfl
    · exact .inr rfl
  refine ⟨s1.heap.objs.size + 1, [s1.heap.objs.size + 1, s1.heap.objs.size], _, _, H1, rfl, I2, turn_enumS z t (s1.heap.objs.size + 1) s1.heap.objs.size _ hty, ⟨⟨.none, he⟩, hit, Nat.succ_ne_self _⟩, fun b hb => ?_, q⟩
  have e' : b = s1.heap.objs.size + 1 ∨ b = s1.heap.objs.size := by simpa using hb
  have hle : s1.heap.objs.size ≤ b := by
    rcases e' with z | z
    · rw [z]; exact Nat.le_add_right _ _
    · rw [z]; exact Nat.le_refl _
  exact I1.fpOk hle (I1.hok.fresh hle)
end Lc
namespace Lc
open PySem PySem.Spec PyProof.Rows L2
/-! ### an own error as a value: made, its field read, asked for its class -/
def tMkV (C : Addr) (sp : Sp) (dvs : List V) (ta : TA) : TE := fun σ H Q => ta σ H fun vs H1 => vs.length ≤ 1000 ∧ ∀ a, H1 a = none → sp (.ref a :: (vs ++ dvs)) (upd H1 a (exo a C none)) (fun v H2 => v = .non ∧ Q (.ref a) H2) E0
section
variable {X : Cx}
theorem pe_mkV {CY : CXT} {nm : Str} {C g : Addr} {lev : Nat} {fdI : FuncData} {prs : List Str} {pr : Sp} {xs : List Value} {ws : List V} {arg : Expr} {more : List Expr} {tA : TA} {q1 q2 : Pos}
    (ox : OexC X.K C) (at_ : PySem.W.findIn X.K (.ref C) "__init__" = some (some (.ref g))) (isf : PySem.W.typeIn X.K (.ref g) = some (.type "function"))
    (keeps : FnOk X.prog X.w X.K X.mg X.base CY lev g fdI prs pr) (room : Room (lev + 1) X.A) (bnd : Binds X.K fdI prs xs) (vls : Vals ws xs) (ps : Passes CY X E0) (gl : Gl X nm) (mgx : X.mg nm = some (.ref C)) (pa : PA X (arg :: more) tA)
    (ndb : (nm == ("__debug__" : Str)) = false := by decide) (plain1 : starEach (arg :: more) X.env = (false, eval arg X.env) :: starEach more X.env := by rfl) (plain2 : (backTo q2 (starEach more X.env)).any (·.1) = false := by rfl) :
    PE X (.Call (.Name nm q1) (arg :: more) [] q2) (tMkV C pr ws tA) := by
  refine ⟨fun pins s σ H Q I goal => ?_⟩
  obtain ⟨_, _, _, _, mro, _, _, _, _, _, _, _, _, _, _, lkC, ve⟩ := ox.cls
  refine wpAny_Call_Name_kw (ld_glob I gl mgx ?_ ndb)
  refine PySem.W.callWith_K (h₀ := X.base) I.ok.mod.kin ox.kC (thn (pa.run q2 pins s σ H _ I goal) ?_) plain1 plain2
  rintro us ⟨hp, gs, dr, tk, os⟩ ⟨vs, Ha, Ia, ra, small, each⟩
  refine ⟨Ia.kIn, ?_⟩
  show wpAny _ _ (call (.ref C) us) _ _ _
  have above : hp.objs.size ≤ hp.objs.size + 1 := by omega
  have free : Ha (hp.objs.size + 1) = none := Ia.hok.fresh above
  have pr1 := each (hp.objs.size + 1) free
  let hp2 := (hp.push (PySem.W.kdv_tup us)).push (PySem.HandSPX.excO C hp.objs.size)
  have kept : ∀ b o, hp.get? b = some o → hp2.get? b = some o := fun b o e => Heap.get?_push_of_some _ (Heap.get?_push_of_some _ e)
  have here : hp2.get? (hp.objs.size + 1) = some (PySem.HandSPX.excO C hp.objs.size) := by show ((hp.push (PySem.W.kdv_tup us)).push (PySem.HandSPX.excO C hp.objs.size)).get? _ = _; heap_get
  have Ib : Inv X pins σ (upd Ha (hp.objs.size + 1) (exo (hp.objs.size + 1) C none)) ⟨hp2, gs, dr, tk, os⟩ := Ia.laid (t' := tk) (a := hp.objs.size + 1) (o := exo (hp.objs.size + 1) C none) (h' := hp2) kept above (exo_ok here)
  have rb : Vals (V.ref (hp.objs.size + 1) :: (vs ++ ws)) (Value.ref (hp.objs.size + 1) :: (us ++ xs)) := .cons rfl (ra.append vls)
  have many : (Value.ref (hp.objs.size + 1) :: us ++ xs).length = prs.length := by rw [← keeps.len _ _ _ _ pr1]; exact rb.length.symm
  have fits : us.length ≤ sizeLine := by rw [← Paired.length ra, sizeLine_eq]; omega
  have body := keeps.run _ X.stack _ _ ⟨Value.ref (hp.objs.size + 1) :: us, []⟩ (Value.ref (hp.objs.size + 1) :: (us ++ xs)) _ _ E0 (room.make C us []) (Ib.env0.make C us []) (bnd _ (Value.ref (hp.objs.size + 1) :: us) Ib.kIn many) rb pr1
  refine wpAny_call (PySem.HandSPX.call_own F.excBase_ValueError (fun Y => PySem.HandSPX.refsVE_contains Y mro ve) (Ia.kIn _ _ lkC) (PySem.W.looks_findIn Ia.kIn at_) (fun self => PySem.W.bind_fn Ia.kIn self isf) fits (codeAny_mono body ?_))
  intro r s' after
  match r, after with
  | .error er, after => exact ps pins σ _ _ er s' Ib after
  | .ok (.ret u), after =>
    obtain ⟨v, Hb, J, rv, none_, q⟩ := Ib.after after
    subst none_
    exact ⟨rv, .ref (hp.objs.size + 1), Hb, J, rfl, q⟩
  | .ok .next, after => exact False.elim after
  | .ok .brk, after => exact False.elim after
  | .ok .cont, after => exact False.elim after
/-- e.f, e an own error with its dict -/
def tXo (K : PySem.W.Frag) (f : Str) (te : TE) : TE := fun σ H Q => te σ H fun x H1 => ∃ (a C dx : Addr) (fs : List (Str × V)) (v : V), x = .ref a ∧ XfC K C ∧ PySem.W.findIn K (.ref C) f = some none ∧ H1 a = some (exo a C (some dx)) ∧ H1 dx = some (exd dx fs) ∧ fs.lookup f = some v ∧ Q v H1
theorem exo_inst {P : Program} {w : World} {H : Hp} {h : Heap} {a C dx : Addr} {fs : List (Str × V)} (hok : HOk P w H h) (ha : H a = some (exo a C (some dx))) (hd : H dx = some (exd dx fs)) :
    ∃ (ox : Obj) (od : Obj) (mA : Str → Option Value), PySem.W.InstAt h a ox C (some od) ∧ (∀ f, RelO (fs.lookup f) (mA f)) ∧ (∀ f, PySem.W.lookIn f od = some (mA f)) := by
  obtain ⟨t1, ho⟩ := exo_at hok ha
  obtain ⟨mA, hns, rel⟩ := exd_at hok hd
  obtain ⟨od, hod, hl⟩ := lookIn_ns hns
  exact ⟨_, od, mA, ⟨ho, rfl, rfl, hod⟩, rel, hl⟩
theorem pe_xo {e : Expr} {te : TE} {pos : Pos} {n : Str} (he : PE X e te) (hb : attributeBase e n X.env (eval e X.env) = eval e X.env := by rfl) : PE X (.Attribute e n pos) (tXo X.K n te) := by
  refine ⟨fun pins s σ H Q I h => ?_⟩
  refine attr_of hb (thn (he.run pins s σ H _ I h) fun u s1 hh => ?_)
  obtain ⟨x, H1, I1, rx, a, C, dx, fs, v, ex, T, hno, ha, hd, l, q⟩ := hh
  subst ex
  obtain rfl : u = Value.ref a := rx
  obtain ⟨ox, od, mA, J, rel, hl⟩ := exo_inst I1.hok ha hd
  obtain ⟨u, hu, ru⟩ := RelO.some_of (v := v) (o := mA n) (by rw [← l]; exact rel n)
  exact HandSPX.exc_get I1.kIn J T.ga T.gg T.exC (PySem.W.findObj_own T.hdC hno rfl (by rw [hl, hu])) (handed_of ru) ⟨v, H1, I1.tok _, ru, q⟩
/-- isinstance(e, c), e an own error with its dict -/
def rIsV (K : PySem.W.Frag) : List V → Hp → VK → Prop := fun xs H Q => ∃ (a D dx : Addr) (fs : List (Str × V)) (c : V) (cv : Value) (b : Bool), xs = [.ref a, c] ∧ ClsV c cv ∧ ExcC K D ∧ H a = some (exo a D (some dx)) ∧ H dx = some (exd dx fs) ∧ PySem.W.kitOne K (.ref D) cv = some b ∧ Q (.bl b) H
theorem call_isV : CallR X (.builtin "isinstance") (rIsV X.K) := by
  intro pins s σ H xs us Q I r h
  obtain ⟨a, D, dx, fs, c, cv, b, rfl, k, C, ha, hd, e, q⟩ := h
  obtain ⟨u1, u2, rfl, r1, r2⟩ := vals2 r
  obtain rfl : u1 = Value.ref a := r1
  have e2 := k.eq r2
  subst e2
  obtain ⟨ox, od, mA, J, _, _⟩ := exo_inst I.hok ha hd
  exact PySem.W.kia_one (kitx_excX C.hg C.hk C.hs C.hd C.ha C.hn C.ht C.hm) I.kIn ⟨some od, J⟩ e (fun z => nomatch z) fun tk => ⟨.bl b, H, I.tok tk, rfl, q⟩
/-- {t!r}, t a tuple of texts -/
theorem pe_fmtRT {e : Expr} {te : TE} {pos : Pos} {k : Nat} (hr : Room k X.A) (he : PE X e te) : PE X (.FormattedValue e 114 none pos) (tFmtT X.K te) := by
  refine ⟨fun pins s σ H Q I h => ?_⟩
  refine wpAny_FormattedValue_repr (thn (he.run pins s σ H _ I h) fun v s1 hv => ?_)
  obtain ⟨x, H1, I1, r1, a, l, rfl, ht, hc, hz, q⟩ := hv
  cases r1
  obtain ⟨its, rv, ⟨o, ho, hcl, n, hd⟩, _⟩ := I1.tuple ht
  have hp := fmt_piled l hc
  have htx := fmt_text (l.map reprText)
  have hu := hr.units
  refine wpAny_pyReprObj_slot (by omega) ⟨o, ho, hcl⟩ F.slot_tuple_repr (fmt_tuple_repr (ts := l.map reprText) ho hcl hd (repr_all rv fun y hy => ?_) (by omega) fun m u tk hm => ⟨m, u, rfl, ?_⟩)
  · have h1 := StrLaws.reprText_len y (hc y hy)
    have h2 := fmtCost_mem hy
    omega
  · exact wpAny_formatField_str ⟨.str m, H1, I1.tok _, ⟨_, rfl⟩, q m (by omega)⟩ ⟨.str m, H1, I1.tok _, ⟨_, rfl⟩, q m (by omega)⟩ (by omega)
/-- sorted(t), t a text below 64 signs -/
def sgs (z : Str) : List Str := z.cps.toList.map fun c => (⟨#[c]⟩ : Str)
def rSortS : List V → Hp → VK → Prop := fun xs H Q => ∃ z : Str, xs = [.str z] ∧ z.length < 64 ∧ ∀ ys p H', ys.Perm (sgs z) → sortedS ys = true → H p = none → H' = upd H p (.lst (ys.map V.str)) → Q (.ref p) H'
theorem call_sortedStr (hcalm : X.calm = true) : CallR X (.builtin "sorted") rSortS := by
  intro pins s σ H xs us Q I r q
  obtain ⟨z, ex, h64, q⟩ := q
  subst ex
  obtain ⟨u, eu, rx⟩ := vals1 r
  subst eu
  obtain ⟨t, rfl⟩ := rx
  have hzl : z.cps.size = z.length := rfl
  have hzs : (sgs z).length = z.length := by
    unfold sgs
    rw [List.length_map, Array.length_toList]
    rfl
  refine Calls.call_function_entry PyProof.Rows.kind_sorted PyProof.Rows.plain_sorted PyProof.Rows.entry_sorted (PyProof.Rows.args_sorted1 _) ?_
  unfold Builtin.«sorted»
  refine wpAny_bind (m := checkCount "sorted" 1 1 _) (wpAny_pure ?_)
  refine wpAny_bind (wpAny_collect_str (A := X.A.in1) (I.ok.hd hcalm) z t (fun s' acc hk hg hd ho hacc => ?_) (by rw [hzl, sizeLine_eq]; omega))
  obtain ⟨hp', g', d', tk, os'⟩ := s'
  dsimp only at hk hg hd ho
  subst hg hd ho
  have hal : acc.toList.length = (sgs z).length := by rw [Array.length_toList, hacc.1, hzs]; rfl
  have hS : StrsAre acc.toList (sgs z) := L2.strs_at hal fun j v e => by
    obtain ⟨c, u, e1, e2⟩ := hacc.2 j v (by rw [← Array.getElem?_toList]; exact e)
    refine ⟨⟨#[c]⟩, u, ?_, e2⟩
    unfold sgs
    rw [List.getElem?_map, Array.getElem?_toList, e1]
    rfl
  have I1 : Inv X pins σ H { s with heap := hp', toks := tk } := I.kept hk
  refine wpAny_bind (wpAny_newList ?_ (by rw [hal, hzs, sizeLine_eq]; omega))
  have hoL : (hp'.push (seqObj "list" acc.toList.toArray 0)).get? hp'.objs.size = some (seqObj "list" acc.toList.toArray 0) := Heap.get?_push_size _ rfl
  show wpAny _ _ _ _ _ { s with heap := hp'.push (seqObj "list" acc.toList.toArray 0), toks := tk }
  refine wpAny_bind (wpAny_holding (wpAny_call_entry PyProof.Rows.slot_list_sort ⟨_, hoL, rfl⟩ PyProof.Rows.entry_list_sort
    (list_sort_treeK strKind_oneLt (s := { s with heap := hp'.push (seqObj "list" acc.toList.toArray 0), toks := tk }) hoL hS.keysOf (fun v₁ v₂ rest e => keyKind_strs (by rw [← e]; exact hS)) (by rw [hal, hzs]; exact h64) fun st' hp hs => ⟨_, rfl, ?_⟩)
    (PyProof.Rows.args_list_sort _)))
  obtain ⟨ys, g1, g2, g3⟩ := sorted_out_str hS hp hs
  obtain ⟨e', he'⟩ := PyProof.Rows.sortedHeap_at (vs := acc.toList) (out := (arrOf st').map (·.2)) hoL
  have hlen : (ys.map V.str).length ≤ sizeLine := by
    rw [List.length_map, g2.length_eq, hzs]
    exact Nat.le_trans (Nat.le_of_lt h64) (by decide)
  refine wpAny_pure ⟨_, rfl, .ref hp'.objs.size, upd H hp'.objs.size (.lst (ys.map V.str)), I1.laid (t' := tk) (fun b u e => ?_) (Nat.le_refl _)
    (show ObjOk X.prog X.w _ _ _ (.lst (ys.map V.str)) from ⟨hlen, ((arrOf st').map (·.2)).toList, e', vals_of_strs g1, by rw [Array.toArray_toList]; exact he'⟩), rfl, q ys _ _ g2 g3 (I1.hok.fresh (Nat.le_refl _)) rfl⟩
  have hb : b < hp'.objs.size := Heap.lt_size e
  rw [PyProof.Rows.sortedHeap_old (Nat.ne_of_lt hb) (by rw [size_push']; exact Nat.lt_succ_of_lt hb)]
  exact Heap.get?_push_of_some _ e
end
end Lc
namespace Lc
open PySem PySem.Spec PyProof.Rows L2 Evl
section
variable {K : PySem.W.Frag} {σ : L2.St} {H H' : Hp} {ta tb te tx : TE} {t : TT} {x y z v : V} {r : R2} {D : Ends} {tu tz : TS} {tA : TA}
/-- the pair (i, sign) taken apart -/
theorem gpair {K : PySem.W.Frag} {p q : Nat} {Ta : Addr} {a b : V} {σ : L2.St} {H : Hp} {Q : L2.St → Hp → Prop} (h : H Ta = some (.tup [a, b])) (k : Q ((σ.set p (some a)).set q (some b)) H) : gTup K 2 (gCons (gName p) (gCons (gName q) gNil)) (.ref Ta) σ H Q :=
  ⟨Ta, [a, b], rfl, st_of h, rfl, _, _, rfl, _, _, rfl, rfl, k⟩
theorem el_lcE {l : List Nat} {p q : Nat} {vs : List Nat} (f : Nat → Bool) (v : Nat → V) (h : EvA tA σ H [.str (S l)]) (hz : l.length ≤ 40000) (hw : ∀ x y, wipe (((wipe σ vs).set p (some x)).set q (some y)) vs = wipe σ vs)
    (ht : ∀ (i : Nat) (c : Nat) H1, Ex H H1 → l[i]? = some c → EvT t (((wipe σ vs).set p (some (.int (i : Nat)))).set q (some (.str (S [c])))) H1 (f i))
    (he : ∀ (i : Nat) (c : Nat) H1, Ex H H1 → l[i]? = some c → f i = true → Ev te (((wipe σ vs).set p (some (.int (i : Nat)))).set q (some (.str (S [c])))) H1 (v i)) :
    EvL (tLc (iEnumS tA) (gTup K 2 (gCons (gName p) (gCons (gName q) gNil))) t te vs) σ H (given l.length f v) := fun H0 e Q qq => h H0 e _ fun H1 e1 => ⟨S l, rfl, fun Dl hD => by
  refine ⟨fun i m H' => m = l.length - i ∧ i ≤ l.length ∧ Cw H1 f v Dl i H', ⟨l.length, by simp, Nat.zero_le _, ⟨hD, Ex.new hD, upd_same⟩⟩, ?_⟩
  rintro i m H' ⟨rfl, hi, pc⟩
  by_cases hlt : i < l.length
  · refine .inr ⟨by show i < (S l).cps.size; rw [its_sz]; exact hlt, Cw H1 f v Dl (i + 1), fun H2 p2 => ⟨l.length - (i + 1), by omega, rfl, hlt, p2⟩, fun x H2 hy => ?_⟩
    obtain ⟨Ta, c, ex, hT, e2, hc⟩ := hy
    subst ex
    have hc' := its_at hc
    obtain ⟨c1, c2, c3⟩ := pc
    have pc2 : Cw H1 f v Dl i H2 := ⟨c1, by rw [e2]; exact c2.trans (Ex.new hT), by
      rw [e2, upd_ne (fun z => by rw [z, hT] at c3; cases c3)]
      exact c3⟩
    refine gpair (by rw [e2]; exact upd_same) ⟨hw _ _, ?_⟩
    exact cw_turn pc2 (by omega) (ht i c H1 (e.trans e1) hc') (fun hf => he i c H1 (e.trans e1) hc' hf)
  · have ei : i = l.length := by omega
    subst ei
    exact .inl ⟨by show (S l).cps.size ≤ l.length; rw [its_sz]; exact Nat.le_refl _, qq Dl H' (fresh_back e1 pc.1) (e1.trans pc.2.1) pc.2.2⟩⟩
theorem s_forE {l : List Nat} {p q : Nat} (h : EvA tA σ H [.str (S l)]) (Pv : Nat → L2.St → Hp → Prop) (h0 : ∀ H1, Ex H H1 → Pv 0 σ H1) (hx : ∀ i σ' H1 H2, Pv i σ' H1 → Ex H1 H2 → Pv i σ' H2)
    (hs : ∀ i c σ' H', l[i]? = some c → Pv i σ' H' → tu { D with nx := Pv (i + 1), ct := Pv (i + 1), bk := D.nx } ((σ'.set p (some (.int (i : Nat)))).set q (some (.str (S [c])))) H') (hd : ∀ σ' H', Pv l.length σ' H' → D.nx σ' H') :
    tFor (iEnumS tA) (gTup K 2 (gCons (gName p) (gCons (gName q) gNil))) tu D σ H :=
  h H (Ex.refl H) _ fun H1 e => ⟨S l, rfl, fun i m σ' H' => m = l.length - i ∧ i ≤ l.length ∧ Pv i σ' H', ⟨l.length, by simp, Nat.zero_le _, h0 H1 e⟩, fun i m σ' H' hw => by
    obtain ⟨rfl, hi, pv⟩ := hw
    by_cases hlt : i < l.length
    · refine .inr ⟨by show i < (S l).cps.size; rw [its_sz]; exact hlt, Pv (i + 1), fun σ2 H2 p2 => ⟨l.length - (i + 1), by omega, rfl, hlt, p2⟩, fun x H2 hy => ?_⟩
      obtain ⟨Ta, c, ex, hT, e2, hc⟩ := hy
      subst ex
      refine gpair (by rw [e2]; exact upd_same) ?_
      exact hs i c σ' _ (its_at hc) (hx _ _ _ _ pv (by rw [e2]; exact Ex.new hT))
    · have ei : i = l.length := by omega
      subst ei
      exact .inl ⟨by show (S l).cps.size ≤ l.length; rw [its_sz]; exact Nat.le_refl _, hd σ' H' pv⟩⟩
end
end Lc
namespace Lc
open PySem PySem.Spec PyProof.Rows L2 Evl
/-! ### keywords, no positional defaults -/
theorem kbinds0 {K : PySem.W.Frag} {x qual : Str} {params : Arguments} {body : List Stmt} {scope : Scope} {kws : List (Str × V)} {f : Addr} {fd : FuncData} {ps : List Str} (F : FunD K x qual params body scope [] kws f fd) (n : Nat) (ks : List Str) (ms : List (Str × V)) (g : {α : Type} → List α → List α → List α → List α) (hk : kws ≠ []) (hms : ∀ q ∈ ms, q ∈ kws)
    (hrel : ∀ {vs mz zs : List V} {us mv ws : List Value}, Vals vs us → Vals mz mv → Vals zs ws → mv.length = ms.length → Vals (g vs mz zs) (g us mv ws))
    (h : ∀ (D : Addr) (doc pm : Value) (an : Option Addr) (cdv ct : Value) (us mv ws : List Value), us.length = n → mv.length = ms.length → ws.length = ks.length →
      KwChain D ((ms.map (·.1)).zip mv) (bindArgs (PySem.W.fnOf x qual params body scope .none (.ref D) doc pm an cdv ct) ⟨us, ks.zip ws⟩) (ps.zip (g us mv ws))) :
    ∃ mv : List Value, KBn K fd ps n ks (fun us ws => g us mv ws) (fun vs zs => g vs (ms.map (·.2)) zs) := by
  obtain ⟨oc, od, dV, kV, doc, pm, an, cdv, ct, osl, rfl, lk, hcd, hD, hK⟩ := F.ex
  rcases hD with ⟨_, rfl⟩ | ⟨e, _⟩
  · rcases hK with e | ⟨D, rfl, hq⟩
    · exact absurd e hk
    · obtain ⟨mv, hl, rk, hks⟩ := kwd_vals (ms := ms) fun q hm => hq q (hms q hm)
      refine ⟨mv, ⟨fun s us ws X l1 l2 => ?_, fun r1 r2 => hrel r1 rk r2 hl⟩⟩
      exact BindsTo.of_looks fun M => KwChain.looks X hks (h D doc pm an cdv ct us mv ws l1 hl l2)
  · exact absurd rfl e
end Lc
namespace Lc
open PySem PySem.Spec PyProof.Rows L2 Evl
/-! ### a sign replaced, lower and upper case, over lists of signs below 128 -/
theorem repl1 (a b : Nat) : ∀ l : List Nat, StrLaws.replL [a] [b] l = l.map fun c => if c = a then b else c
  | [] => StrLaws.replL_nil
  | c :: r => by
    by_cases h : c = a
    · rw [StrLaws.replL_hit (by simp) (by simp [h]), List.map_cons, if_pos h]
      show [b] ++ StrLaws.replL [a] [b] r = _
      rw [repl1 a b r]
      rfl
    · rw [StrLaws.replL_miss (by simpa using h), List.map_cons, if_neg h, repl1 a b r]
theorem replace_S (a b : Nat) (l : List Nat) : Txt.replace (S l) (S [a]) (S [b]) = S (l.map fun c => if c = a then b else c) := by
  rw [← S_tl (Txt.replace _ _ _)]
  refine congrArg S ?_
  rw [StrLaws.replace_list (by rw [S_len]; simp)]
  exact repl1 a b l
theorem lower_S {l : List Nat} (h : ∀ c ∈ l, c < 128) : Txt.lower (S l) = S (l.map lo1) := by
  rw [lower_ascii (x := S l) h]
  exact congrArg Str.mk (by simp [S])
theorem upper_S {l : List Nat} (h : ∀ c ∈ l, c < 128) : Txt.upper (S l) = S (l.map up1) := by
  rw [upper_ascii (x := S l) h]
  exact congrArg Str.mk (by simp [S])
def um (c : Nat) : Nat := lo1 (if c = 58 then 46 else c)
def am (c : Nat) : Nat := up1 (if c = 46 then 58 else c)
theorem ev_unm {σ : L2.St} {H : Hp} {te : TE} {l : List Nat} (h : Ev te σ H (.str (S l))) (hl : l.length ≤ 1000) (hc : ∀ c ∈ l, c < 128) :
    Ev (tM0 (fun x xs H Q => ∃ a, x = .str a ∧ xs = [] ∧ a.length ≤ 5592405 ∧ Q (.str (Txt.lower a)) H) (CwR.tReplC te (S [58]) (S [46]))) σ H (.str (S (l.map um))) := fun H1 e Q q =>
  h H1 e _ fun H2 e2 => ⟨S l, rfl, by rw [S_len, S_len]; simp; omega, ⟨_, rfl⟩, _, rfl, rfl, by rw [replace_S, S_len, List.length_map]; omega, by
    rw [replace_S, lower_S (fun c hc' => ?_), List.map_map]
    · exact q H2 e2
    · obtain ⟨x, hx, rfl⟩ := List.mem_map.mp hc'
      split
      · decide
      · exact hc x hx⟩
theorem ev_alm {σ : L2.St} {H : Hp} {te : TE} {l : List Nat} (h : Ev te σ H (.str (S l))) (hl : l.length ≤ 1000) (hc : ∀ c ∈ l, c < 128) :
    Ev (tM0 (fun x xs H Q => ∃ a, x = .str a ∧ xs = [] ∧ a.length ≤ 5592405 ∧ Q (.str (Txt.upper a)) H) (CwR.tReplC te (S [46]) (S [58]))) σ H (.str (S (l.map am))) := fun H1 e Q q =>
  h H1 e _ fun H2 e2 => ⟨S l, rfl, by rw [S_len, S_len]; simp; omega, ⟨_, rfl⟩, _, rfl, rfl, by rw [replace_S, S_len, List.length_map]; omega, by
    rw [replace_S, upper_S (fun c hc' => ?_), List.map_map]
    · exact q H2 e2
    · obtain ⟨x, hx, rfl⟩ := List.mem_map.mp hc'
      split
      · decide
      · exact hc x hx⟩
/-! ### the signs of a text, sorted -/
theorem rising_pw : ∀ (r : List Nat) (p : Nat), risingS (S [p]) (r.map fun c => S [c]) = true → (∀ c ∈ r, p ≤ c) ∧ r.Pairwise (· ≤ ·)
  | [], _, _ => ⟨by simp, .nil⟩
  | c :: r, p, h => by
    have h' : (!ltCps (S [c]).cps.toList (S [p]).cps.toList && risingS (S [c]) (r.map fun c => S [c])) = true := h
    obtain ⟨h1, h2⟩ := Bool.and_eq_true_iff.mp h'
    obtain ⟨q1, q2⟩ := rising_pw r c h2
    have hpc : p ≤ c := by
      rw [ltCps_eq] at h1
      simp only [Bool.not_eq_true', decide_eq_false_iff_not] at h1
      apply Nat.le_of_not_lt
      intro hlt
      exact h1 (List.Lex.rel hlt)
    refine ⟨fun x hx => ?_, List.pairwise_cons.mpr ⟨q1, q2⟩⟩
    rcases List.mem_cons.mp hx with rfl | hx
    · exact hpc
    · exact Nat.le_trans hpc (q1 x hx)
theorem sorted_signs {ys : List Str} {l m : List Nat} (hp : ys.Perm (l.map fun c => S [c])) (hs : sortedS ys = true) (hm : m.Perm l) (hmp : m.Pairwise (· ≤ ·)) : ys = m.map fun c => S [c] := by
  have hh : ∀ y ∈ ys, S [y.cps.getD 0 0] = y := fun y hy => by
    obtain ⟨c, _, rfl⟩ := List.mem_map.mp (hp.mem_iff.mp hy)
    rfl
  have e : ys = (ys.map fun y => y.cps.getD 0 0).map fun c => S [c] := by
    rw [List.map_map]
    conv => lhs; rw [← List.map_id ys]
    exact List.map_congr_left fun y hy => (hh y hy).symm
  have hp2 : (ys.map fun y => y.cps.getD 0 0).Perm l := by
    have q := hp.map (fun y : Str => y.cps.getD 0 0)
    rw [List.map_map] at q
    have e2 : l.map ((fun y : Str => y.cps.getD 0 0) ∘ fun c => S [c]) = l := by
      conv => rhs; rw [← List.map_id l]
      exact List.map_congr_left fun c _ => rfl
    rw [e2] at q
    exact q
  generalize hcs : (ys.map fun y => y.cps.getD 0 0) = cs at e hp2
  have hpw : cs.Pairwise (· ≤ ·) := by
    rw [e] at hs
    cases cs with
    | nil => exact .nil
    | cons c r =>
      obtain ⟨q1, q2⟩ := rising_pw r c hs
      exact List.pairwise_cons.mpr ⟨q1, q2⟩
  rw [e, List.Perm.eq_of_pairwise (le := (· ≤ ·)) (fun a b _ _ h1 h2 => Nat.le_antisymm h1 h2) hpw hmp (hp2.trans hm.symm)]
end Lc
namespace Lc
open PySem PySem.Spec PyProof.Rows L2 Evl
/-! ### lists of ints and of Bools compared -/
section
variable {K : PySem.W.Frag} {H : Hp}
theorem dpAll_of {α : Type} {g : α → V} {d : α → PyData} (hg : ∀ x, Dp K H (g x) (d x)) : ∀ l : List α, DpAll K H (l.map g) (l.map d)
  | [] => .nil
  | x :: r => .cons (hg x) (dpAll_of hg r)
theorem lay_of {α : Type} {d : α → PyData} (hd : ∀ x, (d x).canLay0 = true) : ∀ l : List α, PyData.canLayAll0 (l.map d) = true
  | [] => rfl
  | x :: r => by
    show (PyData.canLay0 (d x) && PyData.canLayAll0 (r.map d)) = true
    rw [hd, lay_of hd r]
    rfl
theorem depth_of {α : Type} {d : α → PyData} {n : Nat} (hd : ∀ x, (d x).depth ≤ n) : ∀ l : List α, PyData.depthAll (l.map d) ≤ n
  | [] => by simp [PyData.depthAll]
  | x :: r => by
    have h1 := hd x
    have h2 := depth_of hd r
    simp only [List.map_cons, PyData.depthAll]
    omega
theorem shaped_of {α : Type} {d : α → PyData} (hd : ∀ x, (d x).canLay0 = true) (hn : ∀ x, (d x).depth ≤ 1) (l : List α) : SeqAt.shaped (.list (l.map d)) = true := by
  have h1 := depth_of hn l
  unfold SeqAt.shaped
  rw [Bool.and_eq_true]
  refine ⟨lay_of hd l, decide_eq_true ?_⟩
  simp only [PyData.depth]
  omega
theorem eqvAll_of {α : Type} [DecidableEq α] {d : α → PyData} (hd : ∀ x y, PyData.eqv (d x) (d y) = decide (x = y)) : ∀ l m : List α, PyData.eqvAll (l.map d) (m.map d) = decide (l = m)
  | [], [] => rfl
  | [], y :: m => by simp [PyData.eqvAll]
  | x :: l, [] => by simp [PyData.eqvAll]
  | x :: l, y :: m => by
    simp only [List.map_cons, PyData.eqvAll]
    rw [hd, eqvAll_of hd l m, Bool.eq_iff_iff]
    simp
theorem rv_neL {α : Type} [DecidableEq α] {g : α → V} {d : α → PyData} (hg : ∀ x H, Dp K H (g x) (d x)) (h1 : ∀ x, (d x).canLay0 = true) (h2 : ∀ x, (d x).depth ≤ 1) (h3 : ∀ x y, PyData.eqv (d x) (d y) = decide (x = y)) {p q : Addr} {l m : List α} (hp : SqL K H p (l.map g)) (hq : SqL K H q (m.map g)) :
    RV (rNeD K) (.ref p) (.ref q) H (.bl (!decide (l = m))) := fun H1 e Q k => by
  refine ⟨.list (l.map d), .list (m.map d), .lst (ex_l e hp) (dpAll_of (fun x => hg x H1) l), .lst (ex_l e hq) (dpAll_of (fun x => hg x H1) m), shaped_of h1 h2 l, shaped_of h1 h2 m, ?_⟩
  rw [show PyData.eqv (.list (l.map d)) (.list (m.map d)) = decide (l = m) by simp only [PyData.eqv]; exact eqvAll_of h3 l m]
  exact k H1 (Ex.refl H1)
theorem rv_eqL {α : Type} [DecidableEq α] {g : α → V} {d : α → PyData} (hg : ∀ x H, Dp K H (g x) (d x)) (h1 : ∀ x, (d x).canLay0 = true) (h2 : ∀ x, (d x).depth ≤ 1) (h3 : ∀ x y, PyData.eqv (d x) (d y) = decide (x = y)) {p q : Addr} {l m : List α} (hp : SqL K H p (l.map g)) (hq : SqL K H q (m.map g)) :
    RV (rEqD K) (.ref p) (.ref q) H (.bl (decide (l = m))) := fun H1 e Q k => by
  refine ⟨.list (l.map d), .list (m.map d), .lst (ex_l e hp) (dpAll_of (fun x => hg x H1) l), .lst (ex_l e hq) (dpAll_of (fun x => hg x H1) m), shaped_of h1 h2 l, shaped_of h1 h2 m, ?_⟩
  rw [show PyData.eqv (.list (l.map d)) (.list (m.map d)) = decide (l = m) by simp only [PyData.eqv]; exact eqvAll_of h3 l m]
  exact k H1 (Ex.refl H1)
theorem rv_neLI {p q : Addr} {l m : List Int} (hp : SqL K H p (l.map V.int)) (hq : SqL K H q (m.map V.int)) : RV (rNeD K) (.ref p) (.ref q) H (.bl (!decide (l = m))) :=
  rv_neL (d := PyData.int) (fun x _ => .int x) (fun _ => rfl) (fun _ => by simp [PyData.depth]) (fun x y => by simp only [PyData.eqv]; rw [Bool.eq_iff_iff]; simp) hp hq
theorem rv_neLB {p q : Addr} {l m : List Bool} (hp : SqL K H p (l.map V.bl)) (hq : SqL K H q (m.map V.bl)) : RV (rNeD K) (.ref p) (.ref q) H (.bl (!decide (l = m))) :=
  rv_neL (d := PyData.bool) (fun x _ => .bl x) (fun _ => rfl) (fun _ => by simp [PyData.depth]) (fun x y => by simp only [PyData.eqv]; rw [Bool.eq_iff_iff]; simp) hp hq
theorem rv_eqLI {p q : Addr} {l m : List Int} (hp : SqL K H p (l.map V.int)) (hq : SqL K H q (m.map V.int)) : RV (rEqD K) (.ref p) (.ref q) H (.bl (decide (l = m))) :=
  rv_eqL (d := PyData.int) (fun x _ => .int x) (fun _ => rfl) (fun _ => by simp [PyData.depth]) (fun x y => by simp only [PyData.eqv]; rw [Bool.eq_iff_iff]; simp) hp hq
theorem strOk_low {l : List Nat} (h : ∀ c ∈ l, c < 128) : PyData.strOk (S l) = true := by
  show l.toArray.all (fun x => decide (x < 1114112)) = true
  rw [List.all_toArray, List.all_eq_true]
  intro c hc
  have := h c hc
  exact decide_eq_true (by omega)
end
/-! ### a name set to a new tuple if a test says so -/
section
variable {σ : L2.St} {H : Hp} {te : TE} {t : TT} {D : Ends} {tz : TS}
theorem q_ifAsgU {b : Bool} {i : Nat} {xs : List V} {x0 : V} (h : EvT t σ H b) (h1 : b = true → EvU te σ H xs) (hs : σ.set i (some x0) = σ)
    (k : ∀ (x : V) H1, Ex H H1 → (b = true → ∃ p, x = .ref p ∧ H1 p = some (.tup xs)) → (b = false → x = x0) → tz D (σ.set i (some x)) H1) : tSeq (tIfS t (tAsg te (gName i)) tNext) tz D σ H := by
  refine q_when h (fun hb H1 e1 => ?_) (fun hb H1 e1 => ?_)
  · exact s_asgU (fun H2 e2 Q q => h1 hb H2 (e1.trans e2) Q q) fun p H2 hp e2 h2 => k (.ref p) H2 (e1.trans e2) (fun _ => ⟨p, rfl, h2⟩) (fun z => by rw [hb] at z; cases z)
  · have q := k x0 H1 e1 (fun z => by rw [hb] at z; cases z) (fun _ => rfl)
    rw [hs] at q
    exact q
end
end Lc
namespace Lc
open PySem PySem.Spec PyProof.Rows L2 Evl
section
variable {X : Cx} {CX : CXT} {k : Nat} {f C : Addr} {fd : FuncData} {ps : List Str} {sp : Sp} {E : XK}
/-! ### operators by an own method -/
def rBinOwn (C : Addr) (sp : Sp) (E : XK) : R2 := fun x y H Q => ∃ a dx fs b dy gs, x = .ref a ∧ H a = some (.ins C dx fs) ∧ y = .ref b ∧ H b = some (.ins C dy gs) ∧ sp [.ref a, .ref b] H (fun v H' => (∃ r, v = .ref r) ∧ Q v H') E
theorem op_binOwn {op : Operator} (F : FnOk X.prog X.w X.K X.mg X.base CX k f fd ps sp) (hr : Room k X.A) (h1 : PySem.W.selfFirst X.K C = true) (hs : PySem.W.findIn X.K (.ref C) (PySem.dunder op.info.2) = some (some (.ref f))) (hf : PySem.W.isFn X.K (.ref f) = true) (hb : Binds X.K fd ps []) (hx : Passes CX X E) :
    OpR X (binaryOp op) (rBinOwn C sp E) := by
  intro pins s σ H x y v u Q I rx ry h
  obtain ⟨a, dx, fs, b, dy, gs, rfl, ha, rfl, hb', hsp⟩ := h
  obtain rfl : v = Value.ref a := rx
  obtain rfl : u = Value.ref b := ry
  obtain ⟨mA, J, _⟩ := ins_get I.hok ha
  obtain ⟨mB, J', _⟩ := ins_get I.hok hb'
  obtain ⟨od, J, _⟩ := J.look
  obtain ⟨od', J', _⟩ := J'.look
  obtain ⟨m, hF⟩ := I.fr
  refine PySem.W.binop_K hF I.ok.mod.kin J J'.type h1 hs hf (wpAny_mono (run_at (A := X.A) (vs := [.ref a, .ref b]) rfl F hr hb hx I (.cons (show RelV (.ref a) (Value.ref a) from rfl) (.cons (show RelV (.ref b) (Value.ref b) from rfl) .nil)) hsp) (fun w s' hw => ?_) fun _ _ x => x)
  obtain ⟨v, H', I', rv, ⟨r, rfl⟩, q⟩ := hw
  cases rv
  exact ⟨.ref r, H', I', rfl, q⟩
def rBinInt (C : Addr) (sp : Sp) (E : XK) : R2 := fun x y H Q => ∃ a dx fs i, x = .ref a ∧ H a = some (.ins C dx fs) ∧ y = .int i ∧ sp [.ref a, .int i] H (fun v H' => (∃ r, v = .ref r) ∧ Q v H') E
theorem op_binInt {op : Operator} {fo ro : Option Value} (F : FnOk X.prog X.w X.K X.mg X.base CX k f fd ps sp) (hr : Room k X.A) (h1 : PySem.W.selfFirst X.K C = true) (hs : PySem.W.findIn X.K (.ref C) (PySem.dunder op.info.2) = some (some (.ref f))) (hf : PySem.W.isFn X.K (.ref f) = true)
    (h2 : PySem.W.findIn X.K (.ref C) (dunderR op.info.2) = some none) (h3 : PySem.W.findIn X.K (.type "int") (PySem.dunder op.info.2) = some fo) (h4 : PySem.W.findIn X.K (.type "int") (dunderR op.info.2) = some ro) (h5 : PySem.W.subIn X.K (.type "int") (.ref C) = some false) (hb : Binds X.K fd ps []) (hx : Passes CX X E) :
    OpR X (binaryOp op) (rBinInt C sp E) := by
  intro pins s σ H x y v u Q I rx ry h
  obtain ⟨a, dx, fs, i, rfl, ha, rfl, hsp⟩ := h
  obtain rfl : v = Value.ref a := rx
  obtain ⟨t, rfl⟩ := ry
  obtain ⟨mA, J, _⟩ := ins_get I.hok ha
  obtain ⟨od, J, _⟩ := J.look
  obtain ⟨m, hF⟩ := I.fr
  refine PySem.W.ksp_binT hF I.ok.mod.kin J rfl h1 hs hf h2 (.inl rfl) h3 h4 h5 (wpAny_mono (run_at (A := X.A) (vs := [.ref a, .int i]) rfl F hr hb hx I (.cons (show RelV (.ref a) (Value.ref a) from rfl) (.cons (show RelV (.int i) (Value.int i t) from ⟨t, rfl⟩) .nil)) hsp) (fun w s' hw => ?_) fun _ _ x => x)
  obtain ⟨v, H', I', rv, ⟨r, rfl⟩, q⟩ := hw
  cases rv
  exact ⟨.ref r, H', I', rfl, q⟩
def rUnOwn (C : Addr) (sp : Sp) (E : XK) : V → Hp → VK → Prop := fun x H Q => ∃ a dx fs, x = .ref a ∧ H a = some (.ins C dx fs) ∧ sp [.ref a] H Q E
theorem un_negOwn (F : FnOk X.prog X.w X.K X.mg X.base CX k f fd ps sp) (hr : Room k X.A) (hs : PySem.W.findIn X.K (.ref C) "__neg__" = some (some (.ref f))) (hf : PySem.W.isFn X.K (.ref f) = true) (hb : Binds X.K fd ps []) (hx : Passes CX X E) :
    UnR X (unaryOp .USub) (rUnOwn C sp E) := by
  intro pins s σ H x v Q I rx h
  obtain ⟨a, dx, fs, rfl, ha, hsp⟩ := h
  obtain rfl : v = Value.ref a := rx
  obtain ⟨mA, J, _⟩ := ins_get I.hok ha
  obtain ⟨od, J, _⟩ := J.look
  obtain ⟨m, hF⟩ := I.fr
  refine PySem.W.ksp_neg hF I.ok.mod.kin J hs hf (wpAny_mono (run_at (A := X.A) (vs := [.ref a]) rfl F hr hb hx I (.cons (show RelV (.ref a) (Value.ref a) from rfl) .nil) hsp) (fun w s' hw => ?_) fun _ _ x => x)
  obtain ⟨v, H', I', rv, q⟩ := hw
  exact ⟨v, H', I', rv, q⟩
/-! ### a list or a tuple, walked -/
def iSeq (K : PySem.W.Frag) (tl : TE) : TI := fun σ H R => tl σ H fun x H1 => ∃ a, x = .ref a ∧ (((∃ xs, SqL K H1 a xs) ∧ R (Itl K a) H1) ∨ ((∃ xs, SqT K H1 a xs) ∧ R (Itt K a) H1))
theorem pi_seq {tg l : Expr} {tl : TE} (hl : PE X l tl) : PI X tg l (iSeq X.K tl) := by
  refine ⟨fun pins s σ H R I h => ?_⟩
  refine thn (hl.run pins s σ H _ I h) fun v s1 ⟨x, H1, I1, r1, q1⟩ => ?_
  obtain ⟨a, e, q1⟩ := q1
  subst e
  cases r1
  rcases q1 with ⟨⟨xs, hq⟩, q⟩ | ⟨⟨xs, hq⟩, q⟩
  · obtain ⟨its, rv, p, hz⟩ := I1.list hq
    refine wpAny_pyIter_list p.isList ?_
    refine ⟨s1.heap.objs.size, [s1.heap.objs.size], _, _, H1, rfl, I1.kept (t' := s1.toks) fun b o e => Heap.get?_push_of_some _ e, turn_list a _, ⟨_, Heap.get?_push_size _ rfl, rfl, rfl⟩, fun b hb => ?_, q⟩
    have e : b = s1.heap.objs.size := by simpa using hb
    subst e
    exact I1.fpOk (Nat.le_refl _) (I1.hok.fresh (Nat.le_refl _))
  · obtain ⟨its, rv, p, hz⟩ := I1.tuple hq
    refine wpAny_pyIter_tuple (show s1.heap.IsTuple a its.toArray from p) ?_
    refine ⟨s1.heap.objs.size, [s1.heap.objs.size], _, _, H1, rfl, I1.kept (t' := s1.toks) fun b o e => Heap.get?_push_of_some _ e, turn_tuple a _, ⟨_, Heap.get?_push_size _ rfl, rfl, rfl⟩, fun b hb => ?_, q⟩
    have e : b = s1.heap.objs.size := by simpa using hb
    subst e
    exact I1.fpOk (Nat.le_refl _) (I1.hok.fresh (Nat.le_refl _))
end
section
variable {K : PySem.W.Frag} {σ : L2.St} {H H' : Hp} {ta tb te : TE} {t : TT} {x y z v : V} {tA : TA}
/-! ### rows of whole numbers -/
/-- rs: the rows' objects (lists or tuples, c), G: what stands in them -/
structure Rw (c : List V → HO) (H : Hp) (rs : List Addr) (G : List (List Int)) : Prop where
  len : rs.length = G.length
  row : ∀ k, k < G.length → H (rs.getD k 0) = some (c ((G.getD k []).map V.int))
theorem Rw.ex {c : List V → HO} {rs : List Addr} {G : List (List Int)} (h : Rw c H rs G) (e : Ex H H') : Rw c H' rs G := ⟨h.len, fun k hk => e _ _ (h.row k hk)⟩
theorem Rw.at_ {c : List V → HO} {rs : List Addr} {G : List (List Int)} (h : Rw c H rs G) {k : Nat} {x : V} (hx : (rs.map V.ref)[k]? = some x) : k < G.length ∧ x = .ref (rs.getD k 0) ∧ H (rs.getD k 0) = some (c ((G.getD k []).map V.int)) := by
  obtain ⟨hk, e⟩ := List.getElem?_eq_some_iff.mp hx
  rw [List.length_map] at hk
  have hk2 : k < G.length := by rw [← h.len]; exact hk
  refine ⟨hk2, ?_, h.row k hk2⟩
  rw [← e, List.getElem_map, List.getD_eq_getElem?_getD, List.getElem?_eq_getElem hk]
  rfl
/-- a new row -/
def EvN (c : List V → HO) (te : TE) (σ : L2.St) (H : Hp) (row : List Int) : Prop := ∀ H1, Ex H H1 → ∀ Q : VK, (∀ p H2, H1 p = none → Ex H1 H2 → H2 p = some (c (row.map V.int)) → Q (.ref p) H2) → te σ H1 Q
/-- a new list of new rows -/
def EvG (c : List V → HO) (te : TE) (σ : L2.St) (H : Hp) (G : List (List Int)) : Prop := ∀ H1, Ex H H1 → ∀ Q : VK, (∀ p rs H2, H1 p = none → Ex H1 H2 → H2 p = some (.lst (rs.map V.ref)) → Rw c H2 rs G → (∀ r ∈ rs, H1 r = none) → (p :: rs).Nodup → Q (.ref p) H2) → te σ H1 Q
structure Cg (H : Hp) (c : List V → HO) (G : List (List Int)) (Dl : Addr) (i : Nat) (H' : Hp) : Prop where
  no : H Dl = none
  ex : Ex H H'
  out : ∃ rs : List Addr, H' Dl = some (.lst (rs.map V.ref)) ∧ rs.length = i ∧ (∀ k, k < i → H' (rs.getD k 0) = some (c ((G.getD k []).map V.int))) ∧ (∀ r ∈ rs, H r = none) ∧ (Dl :: rs).Nodup
theorem mem_getD {rs : List Addr} {r : Addr} (h : r ∈ rs) : ∃ k, k < rs.length ∧ rs.getD k 0 = r := by
  obtain ⟨k, hk, e⟩ := List.getElem_of_mem h
  exact ⟨k, hk, by rw [List.getD_eq_getElem?_getD, List.getElem?_eq_getElem hk]; exact e⟩
theorem getD_mem {rs : List Addr} {k : Nat} (h : k < rs.length) : rs.getD k 0 ∈ rs := by
  rw [List.getD_eq_getElem?_getD, List.getElem?_eq_getElem h]
  exact List.getElem_mem h
theorem cg_start {c : List V → HO} {G : List (List Int)} {Dl : Addr} (hD : H Dl = none) : Cg H c G Dl 0 (upd H Dl (.lst [])) := ⟨hD, Ex.new hD, [], upd_same, rfl, fun k hk => absurd hk (Nat.not_lt_zero _), by simp, by simp⟩
theorem cg_turn {c : List V → HO} {G : List (List Int)} {Dl : Addr} {i : Nat} {σ2 : L2.St} (p : Cg H c G Dl i H') (hi : i < 50000) (he : EvN c te σ2 H (G.getD i [])) :
    tYes σ2 H' fun b H3 => if b = true then te σ2 H3 fun y H4 => ∃ acc, H4 Dl = some (.lst acc) ∧ acc.length < sizeLine ∧ Cg H c G Dl (i + 1) (upd H4 Dl (.lst (acc ++ [y]))) else Cg H c G Dl (i + 1) H3 := by
  obtain ⟨hD, e, rs, h1, hl, hrow, hfr, hnd⟩ := p
  show te σ2 H' fun y H4 => ∃ acc, H4 Dl = some (.lst acc) ∧ acc.length < sizeLine ∧ Cg H c G Dl (i + 1) (upd H4 Dl (.lst (acc ++ [y])))
  refine he H' e _ fun q H4 hq e4 h4 => ⟨rs.map V.ref, e4 _ _ h1, sz_lt (by rw [List.length_map]; omega), hD, Ex.mut (e.trans e4) hD, rs ++ [q], ?_, by simp [hl], ?_, ?_, ?_⟩
  · rw [upd_same, List.map_append]
    rfl
  · intro k hk
    have hqD : q ≠ Dl := fun z => by rw [z, h1] at hq; cases hq
    rcases Nat.lt_or_ge k i with hlt | hge
    · have e1 : (rs ++ [q]).getD k 0 = rs.getD k 0 := by
        rw [List.getD_eq_getElem?_getD, List.getD_eq_getElem?_getD, List.getElem?_append_left (by omega)]
      rw [e1, upd_ne (fun z => (List.nodup_cons.mp hnd).1 (by rw [← z]; exact getD_mem (by omega)))]
      exact e4 _ _ (hrow k hlt)
    · have ek : k = i := by omega
      subst ek
      have e1 : (rs ++ [q]).getD k 0 = q := by
        rw [List.getD_eq_getElem?_getD, List.getElem?_append_right (by omega), hl, Nat.sub_self]
        rfl
      rw [e1, upd_ne hqD]
      exact h4
  · intro r hr
    rcases List.mem_append.mp hr with hr | hr
    · exact hfr r hr
    · have : r = q := by simpa using hr
      rw [this]
      exact fresh_back e hq
  · rw [← List.cons_append]
    refine List.nodup_append.mpr ⟨hnd, by simp, ?_⟩
    intro a ha b hb
    have hb' : b = q := by simpa using hb
    rw [hb']
    intro z
    rcases List.mem_cons.mp ha with ha | ha
    · rw [← z, ha, h1] at hq; cases hq
    · obtain ⟨k, hk, ek⟩ := mem_getD ha
      have := hrow k (by omega)
      rw [ek, z, hq] at this
      cases this
theorem cg_end {c : List V → HO} {G : List (List Int)} {Dl : Addr} {H0 H1 : Hp} {Q : VK} (p : Cg H1 c G Dl G.length H') (e1 : Ex H0 H1) (q : ∀ p rs H2, H0 p = none → Ex H0 H2 → H2 p = some (.lst (rs.map V.ref)) → Rw c H2 rs G → (∀ r ∈ rs, H0 r = none) → (p :: rs).Nodup → Q (.ref p) H2) : Q (.ref Dl) H' := by
  obtain ⟨hD, e, rs, h1, hl, hrow, hfr, hnd⟩ := p
  exact q Dl rs H' (fresh_back e1 hD) (e1.trans e) h1 ⟨hl, hrow⟩ (fun r hr => fresh_back e1 (hfr r hr)) hnd
/-! comprehensions that make rows -/
theorem eg_R1 {c : List V → HO} {G : List (List Int)} {ta : TA} {j : Nat} {vs : List Nat} (h : EvA ta σ H [.int (G.length : Nat)]) (hz : G.length ≤ 40000) (hw : ∀ x, wipe ((wipe σ vs).set j (some x)) vs = wipe σ vs)
    (he : ∀ (i : Nat) H1, Ex H H1 → i < G.length → EvN c te ((wipe σ vs).set j (some (.int (i : Int)))) H1 (G.getD i [])) : EvG c (tLc (iRng1 ta) (gName j) tYes te vs) σ H G := fun H0 e Q q => h H0 e _ fun H1 e1 => ⟨(G.length : Nat), rfl, by omega, by omega, fun Dl hD =>
  lc_range (lo := 0) (n := G.length) (Cg H1 c G Dl) (cg_start hD) (fun i H' hi p => by
    have e0 : (0 : Int) + (i : Int) = (i : Int) := Int.zero_add _
    show wipe ((wipe σ vs).set j (some (.int ((0 : Int) + (i : Int))))) vs = wipe σ vs ∧ tYes ((wipe σ vs).set j (some (.int ((0 : Int) + (i : Int))))) H' fun b H3 => if b = true then te ((wipe σ vs).set j (some (.int ((0 : Int) + (i : Int))))) H3 fun y H4 => ∃ acc, H4 Dl = some (.lst acc) ∧ acc.length < sizeLine ∧ Cg H1 c G Dl (i + 1) (upd H4 Dl (.lst (acc ++ [y]))) else Cg H1 c G Dl (i + 1) H3
    rw [e0]
    exact ⟨hw _, cg_turn p (by omega) (he i H1 (e.trans e1) hi)⟩) (fun H' p => cg_end p e1 q)⟩
theorem eg_L {c : List V → HO} {G : List (List Int)} {a : Addr} {xs : List V} {tl : TE} {j : Nat} {vs : List Nat} (h : Ev tl σ H (.ref a)) (hx : SqL K H a xs) (hl : xs.length = G.length) (hz : G.length ≤ 40000) (hw : ∀ x, wipe ((wipe σ vs).set j (some x)) vs = wipe σ vs)
    (he : ∀ (i : Nat) (x : V) H1, Ex H H1 → xs[i]? = some x → EvN c te ((wipe σ vs).set j (some x)) H1 (G.getD i [])) : EvG c (tLc (iList K tl) (gName j) tYes te vs) σ H G := fun H0 e Q q => h H0 e _ fun H1 e1 => ⟨a, rfl, ⟨xs, ex_l (e.trans e1) hx⟩, fun Dl hD =>
  lc_list (xs := xs) (Cg H1 c G Dl) (cg_start hD) (fun i H' _ p => ex_l ((e.trans e1).trans p.ex) hx) (fun i x H' hi p => ⟨hw x, cg_turn p (by have := (List.getElem?_eq_some_iff.mp hi).1; omega) (he i x H1 (e.trans e1) hi)⟩)
    (fun H' p => cg_end (hl ▸ p) e1 q)⟩
theorem eg_T {c : List V → HO} {G : List (List Int)} {a : Addr} {xs : List V} {tl : TE} {j : Nat} {vs : List Nat} (h : Ev tl σ H (.ref a)) (hx : SqT K H a xs) (hl : xs.length = G.length) (hz : G.length ≤ 40000) (hw : ∀ x, wipe ((wipe σ vs).set j (some x)) vs = wipe σ vs)
    (he : ∀ (i : Nat) (x : V) H1, Ex H H1 → xs[i]? = some x → EvN c te ((wipe σ vs).set j (some x)) H1 (G.getD i [])) : EvG c (tLc (iTup K tl) (gName j) tYes te vs) σ H G := fun H0 e Q q => h H0 e _ fun H1 e1 => ⟨a, rfl, ⟨xs, ex_t (e.trans e1) hx⟩, fun Dl hD =>
  lc_tup (xs := xs) (Cg H1 c G Dl) (cg_start hD) (fun i H' _ p => ex_t ((e.trans e1).trans p.ex) hx) (fun i x H' hi p => ⟨hw x, cg_turn p (by have := (List.getElem?_eq_some_iff.mp hi).1; omega) (he i x H1 (e.trans e1) hi)⟩)
    (fun H' p => cg_end (hl ▸ p) e1 q)⟩
theorem eg_S {c : List V → HO} {G : List (List Int)} {a : Addr} {xs : List V} {tl : TE} {j : Nat} {vs : List Nat} (h : Ev tl σ H (.ref a)) (hx : SqL K H a xs ∨ SqT K H a xs) (hl : xs.length = G.length) (hz : G.length ≤ 40000) (hw : ∀ x, wipe ((wipe σ vs).set j (some x)) vs = wipe σ vs)
    (he : ∀ (i : Nat) (x : V) H1, Ex H H1 → xs[i]? = some x → EvN c te ((wipe σ vs).set j (some x)) H1 (G.getD i [])) : EvG c (tLc (iSeq K tl) (gName j) tYes te vs) σ H G := fun H0 e Q q => h H0 e _ fun H1 e1 => ⟨a, rfl, by
  rcases hx with hx | hx
  · exact .inl ⟨⟨xs, ex_l (e.trans e1) hx⟩, fun Dl hD => lc_list (xs := xs) (Cg H1 c G Dl) (cg_start hD) (fun i H' _ p => ex_l ((e.trans e1).trans p.ex) hx) (fun i x H' hi p => ⟨hw x, cg_turn p (by have := (List.getElem?_eq_some_iff.mp hi).1; omega) (he i x H1 (e.trans e1) hi)⟩) (fun H' p => cg_end (hl ▸ p) e1 q)⟩
  · exact .inr ⟨⟨xs, ex_t (e.trans e1) hx⟩, fun Dl hD => lc_tup (xs := xs) (Cg H1 c G Dl) (cg_start hD) (fun i H' _ p => ex_t ((e.trans e1).trans p.ex) hx) (fun i x H' hi p => ⟨hw x, cg_turn p (by have := (List.getElem?_eq_some_iff.mp hi).1; omega) (he i x H1 (e.trans e1) hi)⟩) (fun H' p => cg_end (hl ▸ p) e1 q)⟩⟩
theorem lc_zipT {a b : Addr} {xs ys : List V} {g : TG} {tt : TT} {te : TE} {vs : List Nat} {σ : L2.St} {H1 : Hp} {D : Addr} {Qd : Hp → Prop} (hl : xs.length = ys.length) (Pv : Nat → Hp → Prop) (h0 : Pv 0 (upd H1 D (.lst []))) (hq : ∀ i H, Pv i H → SqT K H a xs ∧ SqT K H b ys)
    (hs : ∀ i x y T H, xs[i]? = some x → ys[i]? = some y → Pv i H → H T = none → g (.ref T) (wipe σ vs) (upd H T (.tup [x, y])) fun σ2 H2 => wipe σ2 vs = wipe σ vs ∧ tt σ2 H2 fun b H3 =>
      if b = true then te σ2 H3 fun y H4 => ∃ acc, H4 D = some (.lst acc) ∧ acc.length < sizeLine ∧ Pv (i + 1) (upd H4 D (.lst (acc ++ [y]))) else Pv (i + 1) H3) (hd : ∀ H, Pv xs.length H → Qd H) :
    ∃ W : Nat → Nat → Hp → Prop, (∃ m, W 0 m (upd H1 D (.lst []))) ∧ ∀ i m H, W i m H →
      ((RZ.ItzT K a b).stop i H ∧ Qd H) ∨ ((RZ.ItzT K a b).go i H ∧ ∃ Nx : Hp → Prop, (∀ H', Nx H' → ∃ m', m' < m ∧ W (i + 1) m' H') ∧ ∀ x H', (RZ.ItzT K a b).yld i H x H' → g x (wipe σ vs) H' fun σ2 H2 => wipe σ2 vs = wipe σ vs ∧ tt σ2 H2 fun b H3 =>
        if b = true then te σ2 H3 fun y H4 => ∃ acc, H4 D = some (.lst acc) ∧ acc.length < sizeLine ∧ Nx (upd H4 D (.lst (acc ++ [y]))) else Nx H3) := by
  refine ⟨fun i m H => m = xs.length - i ∧ i ≤ xs.length ∧ Pv i H, ⟨xs.length, by simp, Nat.zero_le _, h0⟩, ?_⟩
  rintro i m H ⟨rfl, hi, p⟩
  obtain ⟨qx, qy⟩ := hq i H p
  by_cases hlt : i < xs.length
  · have hx : xs[i]? = some xs[i] := List.getElem?_eq_getElem hlt
    have hlt2 : i < ys.length := by omega
    have hy : ys[i]? = some ys[i] := List.getElem?_eq_getElem hlt2
    refine .inr ⟨⟨xs, ys, _, _, qx, qy, hx, hy⟩, Pv (i + 1), fun H' p' => ⟨xs.length - (i + 1), by omega, rfl, hlt, p'⟩, fun v H' y => ?_⟩
    obtain ⟨T, x', y', rfl, hT, rfl, f1, f2⟩ := y
    exact hs i x' y' T H (f1 xs qx) (f2 ys qy) p hT
  · have e : i = xs.length := by omega
    subst e
    exact .inl ⟨⟨xs, ys, qx, qy, Or.inl (Nat.le_refl _)⟩, hd H p⟩
/-- pairs of two tuples -/
theorem el_lcZ {a b : Addr} {xs ys : List V} {p q : Nat} {vs : List Nat} (f : Nat → Bool) (v : Nat → V) (h : EvA tA σ H [.ref a, .ref b]) (hx : SqT K H a xs) (hy : SqT K H b ys) (hl : xs.length = ys.length) (hz : xs.length ≤ 40000)
    (hw : ∀ x y, wipe (((wipe σ vs).set p (some x)).set q (some y)) vs = wipe σ vs)
    (ht : ∀ (i : Nat) (x y : V) H1, Ex H H1 → xs[i]? = some x → ys[i]? = some y → EvT t (((wipe σ vs).set p (some x)).set q (some y)) H1 (f i))
    (he : ∀ (i : Nat) (x y : V) H1, Ex H H1 → xs[i]? = some x → ys[i]? = some y → f i = true → Ev te (((wipe σ vs).set p (some x)).set q (some y)) H1 (v i)) :
    EvL (tLc (RZ.iZipA K tA) (gTup K 2 (gCons (gName p) (gCons (gName q) gNil))) t te vs) σ H (given xs.length f v) := fun H0 e Q qq => h H0 e _ fun H1 e1 => ⟨a, b, xs, ys, rfl, .inr ⟨ex_t (e.trans e1) hx, ex_t (e.trans e1) hy, fun Dl hD =>
  lc_zipT hl (Cw H1 f v Dl) ⟨hD, Ex.new hD, upd_same⟩ (fun i H' pc => ⟨ex_t ((e.trans e1).trans pc.2.1) hx, ex_t ((e.trans e1).trans pc.2.1) hy⟩) (fun i x y Ta H' hi hj pc hT => by
    obtain ⟨c1, c2, c3⟩ := pc
    have pc2 : Cw H1 f v Dl i (upd H' Ta (.tup [x, y])) := ⟨c1, c2.trans (Ex.new hT), by
      rw [upd_ne (fun z => by rw [z, hT] at c3; cases c3)]
      exact c3⟩
    exact gpair upd_same ⟨hw _ _, cw_turn pc2 (by have := (List.getElem?_eq_some_iff.mp hi).1; omega) (ht i x y H1 (e.trans e1) hi hj) (fun hf => he i x y H1 (e.trans e1) hi hj hf)⟩)
    (fun H' pc => qq Dl H' (fresh_back e1 pc.1) (e1.trans pc.2.1) pc.2.2)⟩⟩
theorem eg_Z {c : List V → HO} {G : List (List Int)} {a b : Addr} {xs ys : List V} {p q : Nat} {vs : List Nat} (h : EvA tA σ H [.ref a, .ref b]) (hx : SqT K H a xs) (hy : SqT K H b ys) (hl : xs.length = ys.length) (hg : xs.length = G.length) (hz : xs.length ≤ 40000)
    (hw : ∀ x y, wipe (((wipe σ vs).set p (some x)).set q (some y)) vs = wipe σ vs)
    (he : ∀ (i : Nat) (x y : V) H1, Ex H H1 → xs[i]? = some x → ys[i]? = some y → EvN c te (((wipe σ vs).set p (some x)).set q (some y)) H1 (G.getD i [])) :
    EvG c (tLc (RZ.iZipA K tA) (gTup K 2 (gCons (gName p) (gCons (gName q) gNil))) tYes te vs) σ H G := fun H0 e Q qq => h H0 e _ fun H1 e1 => ⟨a, b, xs, ys, rfl, .inr ⟨ex_t (e.trans e1) hx, ex_t (e.trans e1) hy, fun Dl hD =>
  lc_zipT hl (Cg H1 c G Dl) (cg_start hD) (fun i H' pc => ⟨ex_t ((e.trans e1).trans pc.ex) hx, ex_t ((e.trans e1).trans pc.ex) hy⟩) (fun i x y Ta H' hi hj pc hT => by
    obtain ⟨c1, c2, rs, h1, hl', hrow, hfr, hnd⟩ := pc
    have e2 : Ex H' (upd H' Ta (.tup [x, y])) := Ex.new hT
    have pc2 : Cg H1 c G Dl i (upd H' Ta (.tup [x, y])) := ⟨c1, c2.trans e2, rs, e2 _ _ h1, hl', fun k hk => e2 _ _ (hrow k hk), hfr, hnd⟩
    exact gpair upd_same ⟨hw _ _, cg_turn pc2 (by have := (List.getElem?_eq_some_iff.mp hi).1; omega) (he i x y H1 (e.trans e1) hi hj)⟩)
    (fun H' pc => cg_end (hg ▸ pc) e1 qq)⟩⟩
theorem el_lcT {a : Addr} {xs : List V} {tl : TE} {j : Nat} {vs : List Nat} (f : Nat → Bool) (v : Nat → V) (h : Ev tl σ H (.ref a)) (hx : SqT K H a xs) (hz : xs.length ≤ 40000) (hw : ∀ x, wipe ((wipe σ vs).set j (some x)) vs = wipe σ vs)
    (ht : ∀ (i : Nat) (x : V) H1, Ex H H1 → xs[i]? = some x → EvT t ((wipe σ vs).set j (some x)) H1 (f i)) (he : ∀ (i : Nat) (x : V) H1, Ex H H1 → xs[i]? = some x → f i = true → Ev te ((wipe σ vs).set j (some x)) H1 (v i)) :
    EvL (tLc (iTup K tl) (gName j) t te vs) σ H (given xs.length f v) := fun H0 e Q q => h H0 e _ fun H1 e1 => ⟨a, rfl, ⟨xs, ex_t (e.trans e1) hx⟩, fun Dl hD =>
  lc_tup (xs := xs) (Cw H1 f v Dl) ⟨hD, Ex.new hD, upd_same⟩ (fun i H' _ p => ex_t ((e.trans e1).trans p.2.1) hx) (fun i x H' hi p => ⟨hw x, cw_turn p (by have := (List.getElem?_eq_some_iff.mp hi).1; omega) (ht i x H1 (e.trans e1) hi) (fun hf => he i x H1 (e.trans e1) hi hf)⟩)
    (fun H' p => q Dl H' (fresh_back e1 p.1) (e1.trans p.2.1) p.2.2)⟩
theorem el_lcSq {a : Addr} {xs : List V} {tl : TE} {j : Nat} {vs : List Nat} (f : Nat → Bool) (v : Nat → V) (h : Ev tl σ H (.ref a)) (hx : SqL K H a xs ∨ SqT K H a xs) (hz : xs.length ≤ 40000) (hw : ∀ x, wipe ((wipe σ vs).set j (some x)) vs = wipe σ vs)
    (ht : ∀ (i : Nat) (x : V) H1, Ex H H1 → xs[i]? = some x → EvT t ((wipe σ vs).set j (some x)) H1 (f i)) (he : ∀ (i : Nat) (x : V) H1, Ex H H1 → xs[i]? = some x → f i = true → Ev te ((wipe σ vs).set j (some x)) H1 (v i)) :
    EvL (tLc (iSeq K tl) (gName j) t te vs) σ H (given xs.length f v) := fun H0 e Q q => h H0 e _ fun H1 e1 => ⟨a, rfl, by
  rcases hx with hx | hx
  · exact .inl ⟨⟨xs, ex_l (e.trans e1) hx⟩, fun Dl hD => lc_list (xs := xs) (Cw H1 f v Dl) ⟨hD, Ex.new hD, upd_same⟩ (fun i H' _ p => ex_l ((e.trans e1).trans p.2.1) hx) (fun i x H' hi p => ⟨hw x, cw_turn p (by have := (List.getElem?_eq_some_iff.mp hi).1; omega) (ht i x H1 (e.trans e1) hi) (fun hf => he i x H1 (e.trans e1) hi hf)⟩) (fun H' p => q Dl H' (fresh_back e1 p.1) (e1.trans p.2.1) p.2.2)⟩
  · exact .inr ⟨⟨xs, ex_t (e.trans e1) hx⟩, fun Dl hD => lc_tup (xs := xs) (Cw H1 f v Dl) ⟨hD, Ex.new hD, upd_same⟩ (fun i H' _ p => ex_t ((e.trans e1).trans p.2.1) hx) (fun i x H' hi p => ⟨hw x, cw_turn p (by have := (List.getElem?_eq_some_iff.mp hi).1; omega) (ht i x H1 (e.trans e1) hi) (fun hf => he i x H1 (e.trans e1) hi hf)⟩) (fun H' p => q Dl H' (fresh_back e1 p.1) (e1.trans p.2.1) p.2.2)⟩⟩
end
end Lc
namespace Lc
open PySem PySem.Spec PyProof.Rows L2 Evl
section
variable {K : PySem.W.Frag} {σ : L2.St} {H H' : Hp} {ta tb tc te : TE} {t : TT} {x y z v : V} {tA : TA} {r r' : R2}
theorem ev_chain {b1 b2 : Bool} (ha : Ev ta σ H x) (hb : Ev tb σ H y) (hc : Ev tc σ H z) (h1 : RV r x y H (.bl b1)) (h2 : b1 = true → RV r' y z H (.bl b2)) : Ev (tChain r r' ta tb tc) σ H (.bl (b1 && b2)) := fun H1 e1 Q q =>
  ha H1 e1 _ fun H2 e2 => hb H2 (e1.trans e2) _ fun H3 e3 => h1 H3 ((e1.trans e2).trans e3) _ fun H4 e4 => ⟨b1, rfl, by
    cases b1 with
    | true =>
      rw [if_pos rfl]
      refine hc H4 (((e1.trans e2).trans e3).trans e4) _ fun H5 e5 => h2 rfl H5 ((((e1.trans e2).trans e3).trans e4).trans e5) _ fun H6 e6 => ?_
      exact q H6 ((((e2.trans e3).trans e4).trans e5).trans e6)
    | false =>
      rw [if_neg (by decide)]
      exact q H4 ((e2.trans e3).trans e4)⟩
theorem rc_lenSq {p : Addr} {xs : List V} (h : SqL K H p xs ∨ SqT K H p xs) : RC (fun xs H Q => ∃ x n, xs = [x] ∧ LenV K x H n ∧ Q (.int n) H) [.ref p] H (.int xs.length) := by
  rcases h with h | h
  · exact rc_lenL h
  · exact rc_lenT h
theorem rc_max2 {i j : Int} : RC (fun xs H Q => ∃ i j, xs = [V.int i, V.int j] ∧ Q (.int (if j > i then j else i)) H) [.int i, .int j] H (.int (if j > i then j else i)) := fun H1 _ _ q => ⟨i, j, rfl, q H1 (Ex.refl H1)⟩
abbrev rTupOf (K : PySem.W.Frag) : List V → Hp → VK → Prop := fun xs H Q => ∃ p ys, xs = [.ref p] ∧ ((SqL K H p ys ∧ ∀ l, H l = none → Q (.ref l) (upd H l (.tup ys))) ∨ (SqT K H p ys ∧ Q (.ref p) H))
abbrev rListOf (K : PySem.W.Frag) : List V → Hp → VK → Prop := fun xs H Q => ∃ p ys, xs = [.ref p] ∧ (SqL K H p ys ∨ SqT K H p ys) ∧ ∀ l, H l = none → Q (.ref l) (upd H l (.lst ys))
theorem eu_tupOf {xs : List V} (h : EvL te σ H xs) : EvU (tCB (rTupOf K) (tCons te tNil)) σ H xs := fun H1 e Q q =>
  h H1 e _ fun p H2 hp e2 h2 => ⟨p, xs, rfl, .inl ⟨sq_of h2, fun l hl => q l _ (fresh_back e2 hl) (e2.trans (Ex.new hl)) upd_same⟩⟩
theorem eu_tupL {p : Addr} {xs : List V} (h : Ev te σ H (.ref p)) (hs : SqL K H p xs) : EvU (tCB (rTupOf K) (tCons te tNil)) σ H xs := fun H1 e Q q =>
  h H1 e _ fun H2 e2 => ⟨p, xs, rfl, .inl ⟨ex_l (e.trans e2) hs, fun l hl => q l _ (fresh_back e2 hl) (e2.trans (Ex.new hl)) upd_same⟩⟩
theorem el_listOf {p : Addr} {xs : List V} (h : Ev te σ H (.ref p)) (hs : SqL K H p xs ∨ SqT K H p xs) : EvL (tCB (rListOf K) (tCons te tNil)) σ H xs := fun H1 e Q q =>
  h H1 e _ fun H2 e2 => ⟨p, xs, rfl, (hs.imp (ex_l (e.trans e2)) (ex_t (e.trans e2))), fun l hl => q l _ (fresh_back e2 hl) (e2.trans (Ex.new hl)) upd_same⟩
/-- a new tuple of new rows -/
def EvGT (te : TE) (σ : L2.St) (H : Hp) (c : List V → HO) (G : List (List Int)) : Prop := ∀ H1, Ex H H1 → ∀ Q : VK, (∀ p rs H2, H1 p = none → Ex H1 H2 → H2 p = some (.tup (rs.map V.ref)) → Rw c H2 rs G → (∀ r ∈ rs, H1 r = none) → Q (.ref p) H2) → te σ H1 Q
theorem eg_tup {c : List V → HO} {G : List (List Int)} (h : EvG c te σ H G) : EvGT (tCB (rTupOf K) (tCons te tNil)) σ H c G := fun H1 e Q q =>
  h H1 e _ fun p rs H2 hp e2 h2 hr hf _ => ⟨p, rs.map V.ref, rfl, .inl ⟨sq_of h2, fun l hl => q l rs _ (fresh_back e2 hl) (e2.trans (Ex.new hl)) upd_same (hr.ex (Ex.new hl)) hf⟩⟩
theorem given_map (row : List Int) (g : Int → Int) (v : Nat → V) (hv : ∀ i, i < row.length → v i = .int (g (row.getD i 0))) : given row.length (fun _ => true) v = (row.map g).map V.int := by
  rw [given_all]
  apply List.ext_getElem
  · simp
  · intro i h1 h2
    simp only [List.length_map, List.length_range] at h1
    rw [List.getElem_map, List.getElem_range, hv i h1, List.getElem_map, List.getElem_map, List.getD_eq_getElem?_getD, List.getElem?_eq_getElem h1]
    rfl
theorem int_at {row : List Int} {i : Nat} {x : V} (h : (row.map V.int)[i]? = some x) : i < row.length ∧ x = .int (row.getD i 0) := by
  obtain ⟨hi, e⟩ := List.getElem?_eq_some_iff.mp h
  rw [List.length_map] at hi
  refine ⟨hi, ?_⟩
  rw [← e, List.getElem_map, List.getD_eq_getElem?_getD, List.getElem?_eq_getElem hi]
  rfl
theorem row_map {G : List (List Int)} {f : List Int → List Int} {k : Nat} (hk : k < G.length) : (G.map f).getD k [] = f (G.getD k []) := by
  rw [List.getD_eq_getElem?_getD, List.getD_eq_getElem?_getD, List.getElem?_map, List.getElem?_eq_getElem hk]
  rfl
theorem row_mem {G : List (List Int)} {k : Nat} (hk : k < G.length) : G.getD k [] ∈ G := by
  rw [List.getD_eq_getElem?_getD, List.getElem?_eq_getElem hk]
  exact List.getElem_mem hk
theorem atI_int {row : List Int} {i : Int} (h0 : 0 ≤ i) (h1 : i < row.length) : atI (row.map V.int) i = some (.int (row.getD i.toNat 0)) := by
  have h := atI_i (xs := row.map V.int) h0 (by rw [List.length_map]; exact h1) V.non
  rw [h, List.getD_eq_getElem?_getD, List.getD_eq_getElem?_getD, List.getElem?_map, List.getElem?_eq_getElem (show i.toNat < row.length by omega)]
  rfl
theorem atI_ref {rs : List Addr} {i : Int} (h0 : 0 ≤ i) (h1 : i < rs.length) : atI (rs.map V.ref) i = some (.ref (rs.getD i.toNat 0)) := by
  have h := atI_i (xs := rs.map V.ref) h0 (by rw [List.length_map]; exact h1) V.non
  rw [h, List.getD_eq_getElem?_getD, List.getD_eq_getElem?_getD, List.getElem?_map, List.getElem?_eq_getElem (show i.toNat < rs.length by omega)]
  rfl
end
end Lc
namespace Lc
open PySem PySem.Spec PyProof.Rows L2 Evl
section
variable {K : PySem.W.Frag} {σ : L2.St} {H H' : Hp} {ta tb tc te : TE} {t : TT} {x y z v : V} {tA : TA} {r r' : R2} {b : Addr}
theorem q_first {tz : TS} {D : Ends} {i : Nat} (h : te σ H fun v H1 => tz D (σ.set i (some v)) H1) : tSeq (tAsg te (gName i)) tz D σ H := h
theorem op_fst {Q : VK} (h : ta σ H fun x H1 => tb σ H1 fun y H2 => r x y H2 Q) : tOp r ta tb σ H Q := h
theorem asg_fst {D : Ends} {i : Nat} (h : te σ H fun v H1 => D.nx (σ.set i (some v)) H1) : tAsg te (gName i) D σ H := h
theorem ret_fst {D : Ends} (h : te σ H D.rt) : tRet te D σ H := h
theorem cons_fst {tr : TA} {Q : List V → Hp → Prop} (h : te σ H fun x H1 => tr σ H1 fun xs H2 => Q (x :: xs) H2) : tCons te tr σ H Q := h
/-! ### numbers drawn on the way: the box alone is changed -/
def EvI (b : Addr) (te : TE) (σ : L2.St) (Pd : Int → Prop) : Prop := ∀ H1, Bx H1 b → ∀ Q : VK, (∀ d H2, Pd d → ExB b H1 H2 → Bx H2 b → Q (.int d) H2) → te σ H1 Q
theorem ei_is {n : Int} (h : ∀ H1, Ev te σ H1 (.int n)) : EvI b te σ (· = n) := fun H1 hb Q q => h H1 H1 (Ex.refl H1) _ fun H2 e2 => q n H2 rfl (ExB.of e2) (hb.ex e2)
theorem ei_c {n : Int} : EvI b (tC (.int n)) σ (· = n) := ei_is fun H1 => ev_c
theorem ei_var {i : Nat} {n : Int} (h : σ[i]? = some (some (.int n))) : EvI b (tVar i) σ (· = n) := ei_is fun H1 => ev_var h
theorem ei_imp {P1 P2 : Int → Prop} (h : EvI b te σ P1) (k : ∀ d, P1 d → P2 d) : EvI b te σ P2 := fun H1 hb Q q => h H1 hb Q fun d H2 hd e2 b2 => q d H2 (k d hd) e2 b2
theorem ei_op {g : Int → Int → Int} {Pa Pb Pd : Int → Prop} (ha : EvI b ta σ Pa) (hb : EvI b tb σ Pb) (h : ∀ x y, Pa x → Pb y → Pd (g x y)) : EvI b (tOp (rI0 fun i j => .int (g i j)) ta tb) σ Pd := fun H1 b1 Q q =>
  ha H1 b1 _ fun x H2 hx e2 b2 => hb H2 b2 _ fun y H3 hy e3 b3 => ⟨x, y, rfl, rfl, q _ H3 (h x y hx hy) (e2.trans e3) b3⟩
theorem ei_opC {C : Int → Int → Prop} {g : Int → Int → Int} {Pa Pb Pd : Int → Prop} (ha : EvI b ta σ Pa) (hb : EvI b tb σ Pb) (hc : ∀ x y, Pa x → Pb y → C x y) (h : ∀ x y, Pa x → Pb y → Pd (g x y)) : EvI b (tOp (rI C fun i j => .int (g i j)) ta tb) σ Pd := fun H1 b1 Q q =>
  ha H1 b1 _ fun x H2 hx e2 b2 => hb H2 b2 _ fun y H3 hy e3 b3 => ⟨x, y, rfl, rfl, hc x y hx hy, q _ H3 (h x y hx hy) (e2.trans e3) b3⟩
theorem ei_pow {n v : Int} (h : (10 : Int) ^ n.toNat = v) (h0 : 0 ≤ n) (h1 : n ≤ 1000) : EvI b (tOp (rI CPow fun i j => V.int (i ^ j.toNat)) (tC (V.int 10)) (tC (V.int n))) σ (· = v) := ei_is fun H1 => ev_pow10 h h0 h1
/-- a new row, drawn -/
def EvRB (b : Addr) (te : TE) (σ : L2.St) (H : Hp) (Pr : List Int → Prop) : Prop := ∀ H1, ExB b H H1 → Bx H1 b → ∀ Q : VK, (∀ p row H2, H1 p = none → ExB b H1 H2 → Bx H2 b → H2 p = some (.lst (row.map V.int)) → Pr row → Q (.ref p) H2) → te σ H1 Q
structure Db (b : Addr) (H : Hp) (Pd : Nat → Int → Prop) (Dl : Addr) (i : Nat) (H' : Hp) : Prop where
  no : H Dl = none
  bx : Bx H' b
  ex : ExB b H H'
  out : ∃ row : List Int, row.length = i ∧ H' Dl = some (.lst (row.map V.int)) ∧ ∀ k, k < i → Pd k (row.getD k 0)
theorem bx_ne {H : Hp} {a b : Addr} (hb : Bx H b) (ha : H a = none) : a ≠ b := fun z => by
  obtain ⟨i, j, k, h⟩ := hb
  rw [z, h] at ha
  cases ha
theorem ExB.mut {H H' : Hp} {p : Addr} {o : HO} (e : ExB b H H') (h : H p = none) : ExB b H (L2.upd H' p o) := fun c o' hc hx => by
  have : c ≠ p := fun z => by rw [z, h] at hx; cases hx
  rw [upd_ne this]
  exact e c o' hc hx
theorem Bx.put2 {H : Hp} {p : Addr} {o : HO} (h : Bx H b) (n : p ≠ b) : Bx (L2.upd H p o) b := by
  obtain ⟨i, j, k, h⟩ := h
  exact ⟨i, j, k, by rw [upd_ne (Ne.symm n)]; exact h⟩
theorem fresh_b {H H' : Hp} {p : Addr} (e : ExB b H H') (hb : Bx H' b) (h : H' p = none) : H p = none := by
  cases hp : H p with
  | none => rfl
  | some o =>
    have n : p ≠ b := bx_ne hb h
    rw [e p o n hp] at h
    cases h
theorem db_turn {Pd : Nat → Int → Prop} {Dl : Addr} {i : Nat} {σ2 : L2.St} (hDb : Dl ≠ b) (p : Db b H Pd Dl i H') (hi : i < 50000) (he : EvI b te σ2 (Pd i)) :
    tYes σ2 H' fun bb H3 => if bb = true then te σ2 H3 fun y H4 => ∃ acc, H4 Dl = some (.lst acc) ∧ acc.length < sizeLine ∧ Db b H Pd Dl (i + 1) (L2.upd H4 Dl (.lst (acc ++ [y]))) else Db b H Pd Dl (i + 1) H3 := by
  obtain ⟨hD, hb, e, row, hl, h1, hp⟩ := p
  show te σ2 H' fun y H4 => ∃ acc, H4 Dl = some (.lst acc) ∧ acc.length < sizeLine ∧ Db b H Pd Dl (i + 1) (L2.upd H4 Dl (.lst (acc ++ [y])))
  refine he H' hb _ fun d H4 hd e4 b4 => ⟨row.map V.int, e4 _ _ hDb h1, sz_lt (by rw [List.length_map]; omega), hD, b4.put2 hDb, (e.trans e4).mut hD, row ++ [d], by simp [hl], ?_, ?_⟩
  · rw [upd_same, List.map_append]
    rfl
  · intro k hk
    rcases Nat.lt_or_ge k i with hlt | hge
    · have e1 : (row ++ [d]).getD k 0 = row.getD k 0 := by
        rw [List.getD_eq_getElem?_getD, List.getD_eq_getElem?_getD, List.getElem?_append_left (by omega)]
      rw [e1]
      exact hp k hlt
    · have ek : k = i := by omega
      subst ek
      have e1 : (row ++ [d]).getD k 0 = d := by
        rw [List.getD_eq_getElem?_getD, List.getElem?_append_right (by omega), hl, Nat.sub_self]
        rfl
      rw [e1]
      exact hd
theorem db_start {Pd : Nat → Int → Prop} {Dl : Addr} (hb : Bx H b) (hD : H Dl = none) : Db b H Pd Dl 0 (L2.upd H Dl (.lst [])) := ⟨hD, hb.put2 (bx_ne hb hD), (ExB.refl H).mut hD, [], rfl, upd_same, fun k hk => absurd hk (Nat.not_lt_zero _)⟩
/-- [te for j in range(n)], te draws -/
theorem rb_R1 {Pd : Nat → Int → Prop} {n : Nat} {j : Nat} {vs : List Nat} (h : ∀ H1, EvA tA σ H1 [.int (n : Int)]) (hz : n ≤ 40000) (hw : ∀ x, wipe ((wipe σ vs).set j (some x)) vs = wipe σ vs)
    (he : ∀ i : Nat, i < n → EvI b te ((wipe σ vs).set j (some (.int (i : Int)))) (Pd i)) : EvRB b (tLc (iRng1 tA) (gName j) tYes te vs) σ H fun row => row.length = n ∧ ∀ k, k < n → Pd k (row.getD k 0) := fun H0 e0 b0 Q q => h H0 H0 (Ex.refl H0) _ fun H1 e1 => ⟨(n : Int), rfl, by omega, by omega, fun Dl hD =>
  lc_range (lo := 0) (n := n) (Db b H1 Pd Dl) (db_start (b0.ex e1) hD) (fun i H' hi p => by
    have e0 : (0 : Int) + (i : Int) = (i : Int) := Int.zero_add _
    show wipe ((wipe σ vs).set j (some (.int ((0 : Int) + (i : Int))))) vs = wipe σ vs ∧ tYes ((wipe σ vs).set j (some (.int ((0 : Int) + (i : Int))))) H' fun bb H3 => if bb = true then te ((wipe σ vs).set j (some (.int ((0 : Int) + (i : Int))))) H3 fun y H4 => ∃ acc, H4 Dl = some (.lst acc) ∧ acc.length < sizeLine ∧ Db b H1 Pd Dl (i + 1) (L2.upd H4 Dl (.lst (acc ++ [y]))) else Db b H1 Pd Dl (i + 1) H3
    rw [e0]
    exact ⟨hw _, db_turn (bx_ne (b0.ex e1) hD) p (by omega) (he i hi)⟩) (fun H' p => by
    obtain ⟨c1, c2, c3, row, c4, c5, c6⟩ := p
    exact q Dl row H' (fresh_back e1 c1) ((ExB.of e1).trans c3) c2 c5 ⟨c4, c6⟩)⟩
/-- [te for x in a list of numbers], te draws -/
theorem rb_L {Pd : Nat → Int → Prop} {a : Addr} {xs : List V} {j : Nat} {vs : List Nat} {tl : TE} (h : ∀ H1, Ev tl σ H1 (.ref a)) (hab : a ≠ b) (hx : SqL K H a xs) (hz : xs.length ≤ 40000) (hw : ∀ x, wipe ((wipe σ vs).set j (some x)) vs = wipe σ vs)
    (he : ∀ (i : Nat) x, xs[i]? = some x → EvI b te ((wipe σ vs).set j (some x)) (Pd i)) : EvRB b (tLc (iList K tl) (gName j) tYes te vs) σ H fun row => row.length = xs.length ∧ ∀ k, k < xs.length → Pd k (row.getD k 0) := fun H0 e0 b0 Q q => h H0 H0 (Ex.refl H0) _ fun H1 e1 => ⟨a, rfl, ⟨xs, ex_l e1 (e0.seq hab hx)⟩, fun Dl hD =>
  lc_list (xs := xs) (Db b H1 Pd Dl) (db_start (b0.ex e1) hD) (fun i H' _ p => p.ex.seq hab (ex_l e1 (e0.seq hab hx))) (fun i x H' hi p => ⟨hw x, db_turn (bx_ne (b0.ex e1) hD) p (by have := (List.getElem?_eq_some_iff.mp hi).1; omega) (he i x hi)⟩) (fun H' p => by
    obtain ⟨c1, c2, c3, row, c4, c5, c6⟩ := p
    exact q Dl row H' (fresh_back e1 c1) ((ExB.of e1).trans c3) c2 c5 ⟨c4, c6⟩)⟩
/-- rows that were drawn, in a list -/
structure Dg (b : Addr) (H : Hp) (Pr : Nat → List Int → Prop) (Dl : Addr) (i : Nat) (H' : Hp) : Prop where
  no : H Dl = none
  bx : Bx H' b
  ex : ExB b H H'
  out : ∃ (rs : List Addr) (G : List (List Int)), G.length = i ∧ H' Dl = some (.lst (rs.map V.ref)) ∧ Rw .lst H' rs G ∧ (∀ k, k < i → Pr k (G.getD k [])) ∧ (∀ r ∈ rs, H r = none) ∧ (Dl :: rs).Nodup
theorem Rw.exB {c : List V → HO} {rs : List Addr} {G : List (List Int)} (h : Rw c H rs G) (e : ExB b H H') (n : ∀ r ∈ rs, r ≠ b) : Rw c H' rs G := ⟨h.len, fun k hk => e _ _ (n _ (getD_mem (by rw [h.len]; exact hk))) (h.row k hk)⟩
/-- one more row -/
theorem rw_push {rs : List Addr} {G : List (List Int)} {Dl q : Addr} {row : List Int} {ob : HO} (h : Rw .lst H rs G) (hq : H q = some (.lst (row.map V.int))) (hqD : q ≠ Dl) (hDl : Dl ∉ rs) : Rw .lst (L2.upd H Dl ob) (rs ++ [q]) (G ++ [row]) := by
  refine ⟨by simp [h.len], fun k hk => ?_⟩
  rw [List.length_append] at hk
  have hk' : k < G.length + 1 := hk
  rcases Nat.lt_or_ge k G.length with hlt | hge
  · have e1 : (rs ++ [q]).getD k 0 = rs.getD k 0 := by
      rw [List.getD_eq_getElem?_getD, List.getD_eq_getElem?_getD, List.getElem?_append_left (by rw [h.len]; exact hlt)]
    have e2 : (G ++ [row]).getD k [] = G.getD k [] := by
      rw [List.getD_eq_getElem?_getD, List.getD_eq_getElem?_getD, List.getElem?_append_left hlt]
    rw [e1, e2, upd_ne (fun z => hDl (by rw [← z]; exact getD_mem (by rw [h.len]; exact hlt)))]
    exact h.row k hlt
  · have ek : k = G.length := by omega
    subst ek
    have e1 : (rs ++ [q]).getD G.length 0 = q := by
      rw [List.getD_eq_getElem?_getD, ← h.len, List.getElem?_append_right (Nat.le_refl _), Nat.sub_self]
      rfl
    have e2 : (G ++ [row]).getD G.length [] = row := by
      rw [List.getD_eq_getElem?_getD, List.getElem?_append_right (Nat.le_refl _), Nat.sub_self]
      rfl
    rw [e1, e2, upd_ne hqD]
    exact hq
theorem dg_push {Pr : Nat → List Int → Prop} {Dl q : Addr} {i : Nat} {row : List Int} {H4 : Hp} {rs : List Addr} {G : List (List Int)} (hDb : Dl ≠ b) (hD : H Dl = none) (hb : Bx H' b) (e : ExB b H H') (hl : G.length = i) (h1 : H' Dl = some (.lst (rs.map V.ref))) (hr : Rw .lst H' rs G) (hp : ∀ k, k < i → Pr k (G.getD k []))
    (hf : ∀ r ∈ rs, H r = none) (hnd : (Dl :: rs).Nodup) (hb0 : Bx H b) (hq : H' q = none) (e4 : ExB b H' H4) (b4 : Bx H4 b) (h4 : H4 q = some (.lst (row.map V.int))) (hrow : Pr i row) : Dg b H Pr Dl (i + 1) (L2.upd H4 Dl (.lst (rs.map V.ref ++ [.ref q]))) := by
  have hqD : q ≠ Dl := fun z => by rw [z, h1] at hq; cases hq
  have hnb : ∀ r ∈ rs, r ≠ b := fun r hr => bx_ne hb0 (hf r hr)
  refine ⟨hD, b4.put2 hDb, (e.trans e4).mut hD, rs ++ [q], G ++ [row], by simp [hl], ?_, rw_push (hr.exB e4 hnb) h4 hqD (List.nodup_cons.mp hnd).1, ?_, ?_, ?_⟩
  · rw [upd_same, List.map_append]
    rfl
  · intro k hk
    rcases Nat.lt_or_ge k i with hlt | hge
    · have e2 : (G ++ [row]).getD k [] = G.getD k [] := by
        rw [List.getD_eq_getElem?_getD, List.getD_eq_getElem?_getD, List.getElem?_append_left (by omega)]
      rw [e2]
      exact hp k hlt
    · have ek : k = i := by omega
      subst ek
      have e2 : (G ++ [row]).getD k [] = row := by
        rw [List.getD_eq_getElem?_getD, List.getElem?_append_right (by omega), hl, Nat.sub_self]
        rfl
      rw [e2]
      exact hrow
  · intro r hr
    rcases List.mem_append.mp hr with hr | hr
    · exact hf r hr
    · have : r = q := by simpa using hr
      rw [this]
      exact fresh_b e hb hq
  · rw [← List.cons_append]
    refine List.nodup_append.mpr ⟨hnd, by simp, ?_⟩
    intro a ha c hc
    have hc' : c = q := by simpa using hc
    rw [hc']
    intro z
    rcases List.mem_cons.mp ha with ha | ha
    · exact hqD (by rw [← z, ha])
    · obtain ⟨k, hk, ek⟩ := mem_getD ha
      have := hr.row k (by rw [← hr.len]; exact hk)
      rw [ek, z, hq] at this
      cases this
theorem dg_turn {Pr : Nat → List Int → Prop} {Dl : Addr} {i : Nat} {σ2 : L2.St} (hDb : Dl ≠ b) (hb0 : Bx H b) (p : Dg b H Pr Dl i H') (hi : i < 50000) (he : EvRB b te σ2 H (Pr i)) :
    tYes σ2 H' fun bb H3 => if bb = true then te σ2 H3 fun y H4 => ∃ acc, H4 Dl = some (.lst acc) ∧ acc.length < sizeLine ∧ Dg b H Pr Dl (i + 1) (L2.upd H4 Dl (.lst (acc ++ [y]))) else Dg b H Pr Dl (i + 1) H3 := by
  obtain ⟨hD, hb, e, rs, G, hl, h1, hr, hp, hf, hnd⟩ := p
  show te σ2 H' fun y H4 => ∃ acc, H4 Dl = some (.lst acc) ∧ acc.length < sizeLine ∧ Dg b H Pr Dl (i + 1) (L2.upd H4 Dl (.lst (acc ++ [y])))
  exact he H' e hb _ fun q row H4 hq e4 b4 h4 hrow => ⟨rs.map V.ref, e4 _ _ hDb h1, sz_lt (by rw [List.length_map, hr.len]; omega), dg_push hDb hD hb e hl h1 hr hp hf hnd hb0 hq e4 b4 h4 hrow⟩
theorem dg_start {Pr : Nat → List Int → Prop} {Dl : Addr} (hb : Bx H b) (hD : H Dl = none) : Dg b H Pr Dl 0 (L2.upd H Dl (.lst [])) := ⟨hD, hb.put2 (bx_ne hb hD), (ExB.refl H).mut hD, [], [], rfl, upd_same, ⟨rfl, fun k hk => absurd hk (Nat.not_lt_zero _)⟩, fun k hk => absurd hk (Nat.not_lt_zero _), by simp, by simp⟩
/-- what a drawn grid is -/
def RetGB (b : Addr) (H : Hp) (Pg : List (List Int) → Prop) (Q : VK) : Prop := ∀ p rs G H2, H p = none → ExB b H H2 → Bx H2 b → H2 p = some (.lst (rs.map V.ref)) → Rw .lst H2 rs G → (∀ r ∈ rs, H r = none) → (p :: rs).Nodup → Pg G → Q (.ref p) H2
def RetG (G : List (List Int)) (H : Hp) (Q : VK) : Prop := ∀ p rs H2, H p = none → Ex H H2 → H2 p = some (.lst (rs.map V.ref)) → Rw .lst H2 rs G → (∀ r ∈ rs, H r = none) → (p :: rs).Nodup → Q (.ref p) H2
/-- [row for x in a list], the rows drawn -/
theorem gb_L {Pr : Nat → List Int → Prop} {a : Addr} {xs : List V} {j : Nat} {vs : List Nat} {tl : TE} {Q : VK} (hb : Bx H b) (h : ∀ H1, Ex H H1 → Ev tl σ H1 (.ref a)) (hab : a ≠ b) (hx : SqL K H a xs) (hz : xs.length ≤ 40000) (hw : ∀ x, wipe ((wipe σ vs).set j (some x)) vs = wipe σ vs)
    (he : ∀ (i : Nat) x H1, Ex H H1 → xs[i]? = some x → EvRB b te ((wipe σ vs).set j (some x)) H1 (Pr i)) (q : RetGB b H (fun G => G.length = xs.length ∧ ∀ k, k < xs.length → Pr k (G.getD k [])) Q) : tLc (iList K tl) (gName j) tYes te vs σ H Q :=
  h H (Ex.refl H) H (Ex.refl H) _ fun H1 e1 => ⟨a, rfl, ⟨xs, ex_l e1 hx⟩, fun Dl hD =>
  lc_list (xs := xs) (Dg b H1 Pr Dl) (dg_start (hb.ex e1) hD) (fun i H' _ p => p.ex.seq hab (ex_l e1 hx)) (fun i x H' hi p => ⟨hw x, dg_turn (bx_ne (hb.ex e1) hD) (hb.ex e1) p (by have := (List.getElem?_eq_some_iff.mp hi).1; omega) (he i x H1 e1 hi)⟩) (fun H' p => by
    obtain ⟨c1, c2, c3, rs, G, c4, c5, c6, c7, c8, c9⟩ := p
    exact q Dl rs G H' (fresh_back e1 c1) ((ExB.of e1).trans c3) c2 c5 c6 (fun r hr => fresh_back e1 (c8 r hr)) c9 ⟨c4, c7⟩)⟩
end
end Lc
namespace Lc
open PySem PySem.Spec PyProof.Rows L2 Evl
section
variable {K : PySem.W.Frag} {H H' : Hp}
/-! ### rows of rows compared -/
theorem rw_dp {c : List V → HO} {d : List Int → PyData} (hd : ∀ r (row : List Int), H r = some (c (row.map V.int)) → Dp K H (.ref r) (d row)) : ∀ (G : List (List Int)) (rs : List Addr), Rw c H rs G → DpAll K H (rs.map V.ref) (G.map d)
  | [], [], _ => .nil
  | [], r :: rs, h => by cases h.len
  | row :: G, [], h => by cases h.len
  | row :: G, r :: rs, h => .cons (hd r row (h.row 0 (by simp))) (rw_dp hd G rs ⟨by have := h.len; simpa using this, fun k hk => h.row (k + 1) (by simp; omega)⟩)
def dRL (row : List Int) : PyData := .list (row.map PyData.int)
def dRT (row : List Int) : PyData := .tuple (row.map PyData.int)
theorem int_eqv (x y : Int) : PyData.eqv (.int x) (.int y) = decide (x = y) := by simp only [PyData.eqv]; rw [Bool.eq_iff_iff]; simp
theorem dRL_eqv (x y : List Int) : PyData.eqv (dRL x) (dRL y) = decide (x = y) := by
  unfold dRL
  simp only [PyData.eqv]
  exact eqvAll_of int_eqv x y
theorem dRT_eqv (x y : List Int) : PyData.eqv (dRT x) (dRT y) = decide (x = y) := by
  unfold dRT
  simp only [PyData.eqv]
  exact eqvAll_of int_eqv x y
theorem dRL_lay (x : List Int) : (dRL x).canLay0 = true := lay_of (d := PyData.int) (fun _ => rfl) x
theorem dRT_lay (x : List Int) : (dRT x).canLay0 = true := lay_of (d := PyData.int) (fun _ => rfl) x
theorem dRL_depth (x : List Int) : (dRL x).depth ≤ 2 := by
  have h := depth_of (d := PyData.int) (n := 1) (fun _ => by simp [PyData.depth]) x
  unfold dRL
  simp only [PyData.depth]
  omega
theorem dRT_depth (x : List Int) : (dRT x).depth ≤ 2 := by
  have h := depth_of (d := PyData.int) (n := 1) (fun _ => by simp [PyData.depth]) x
  unfold dRT
  simp only [PyData.depth]
  omega
theorem shapedL {d : List Int → PyData} (h1 : ∀ x, (d x).canLay0 = true) (h2 : ∀ x, (d x).depth ≤ 2) (l : List (List Int)) : SeqAt.shaped (.list (l.map d)) = true := by
  have h := depth_of h2 l
  unfold SeqAt.shaped
  rw [Bool.and_eq_true]
  refine ⟨lay_of h1 l, decide_eq_true ?_⟩
  simp only [PyData.depth]
  omega
theorem shapedT {d : List Int → PyData} (h1 : ∀ x, (d x).canLay0 = true) (h2 : ∀ x, (d x).depth ≤ 2) (l : List (List Int)) : SeqAt.shaped (.tuple (l.map d)) = true := by
  have h := depth_of h2 l
  unfold SeqAt.shaped
  rw [Bool.and_eq_true]
  refine ⟨lay_of h1 l, decide_eq_true ?_⟩
  simp only [PyData.depth]
  omega
theorem dpL {p : Addr} {rs : List Addr} {G : List (List Int)} (h : H p = some (.lst (rs.map V.ref))) (hr : Rw .lst H rs G) : Dp K H (.ref p) (.list (G.map dRL)) :=
  .lst (sq_of h) (rw_dp (fun r row hh => .lst (sq_of hh) (dpAll_of (fun x => .int x) row)) G rs hr)
theorem dpT {p : Addr} {rs : List Addr} {G : List (List Int)} (h : H p = some (.tup (rs.map V.ref))) (hr : Rw .tup H rs G) : Dp K H (.ref p) (.tuple (G.map dRT)) :=
  .tup (st_of h) (rw_dp (fun r row hh => .tup (st_of hh) (dpAll_of (fun x => .int x) row)) G rs hr)
theorem rv_eqGL {p q : Addr} {rs ss : List Addr} {F G : List (List Int)} (h : H p = some (.lst (rs.map V.ref))) (hr : Rw .lst H rs F) (h' : H q = some (.lst (ss.map V.ref))) (hr' : Rw .lst H ss G) : RV (rEqD K) (.ref p) (.ref q) H (.bl (decide (F = G))) := fun H1 e Q k => by
  refine ⟨_, _, dpL (e _ _ h) (hr.ex e), dpL (e _ _ h') (hr'.ex e), shapedL dRL_lay dRL_depth F, shapedL dRL_lay dRL_depth G, ?_⟩
  rw [show PyData.eqv (.list (F.map dRL)) (.list (G.map dRL)) = decide (F = G) by simp only [PyData.eqv]; exact eqvAll_of dRL_eqv F G]
  exact k H1 (Ex.refl H1)
theorem rv_neGL {p q : Addr} {rs ss : List Addr} {F G : List (List Int)} (h : H p = some (.lst (rs.map V.ref))) (hr : Rw .lst H rs F) (h' : H q = some (.lst (ss.map V.ref))) (hr' : Rw .lst H ss G) : RV (rNeD K) (.ref p) (.ref q) H (.bl (!decide (F = G))) := fun H1 e Q k => by
  refine ⟨_, _, dpL (e _ _ h) (hr.ex e), dpL (e _ _ h') (hr'.ex e), shapedL dRL_lay dRL_depth F, shapedL dRL_lay dRL_depth G, ?_⟩
  rw [show PyData.eqv (.list (F.map dRL)) (.list (G.map dRL)) = decide (F = G) by simp only [PyData.eqv]; exact eqvAll_of dRL_eqv F G]
  exact k H1 (Ex.refl H1)
theorem rv_eqGT {p q : Addr} {rs ss : List Addr} {F G : List (List Int)} (h : H p = some (.tup (rs.map V.ref))) (hr : Rw .tup H rs F) (h' : H q = some (.tup (ss.map V.ref))) (hr' : Rw .tup H ss G) : RV (rEqD K) (.ref p) (.ref q) H (.bl (decide (F = G))) := fun H1 e Q k => by
  refine ⟨_, _, dpT (e _ _ h) (hr.ex e), dpT (e _ _ h') (hr'.ex e), shapedT dRT_lay dRT_depth F, shapedT dRT_lay dRT_depth G, ?_⟩
  rw [show PyData.eqv (.tuple (F.map dRT)) (.tuple (G.map dRT)) = decide (F = G) by simp only [PyData.eqv]; exact eqvAll_of dRT_eqv F G]
  exact k H1 (Ex.refl H1)
end
end Lc
namespace Lc
open PySem PySem.Spec PyProof.Rows L2 Evl
section
variable {X : Cx} {tg : Expr}
/-! ### the walks within a comprehension: K told apart from the context -/
theorem pi_listK (K : PySem.W.Frag) (hK : X.K = K) {l : Expr} {tl : TE} (hl : PE X l tl) : PI X tg l (iList K tl) := by
  subst hK
  exact pi_list hl
theorem pi_tupK (K : PySem.W.Frag) (hK : X.K = K) {l : Expr} {tl : TE} (hl : PE X l tl) : PI X tg l (iTup K tl) := by
  subst hK
  exact pi_tup hl
theorem pi_seqK (K : PySem.W.Frag) (hK : X.K = K) {l : Expr} {tl : TE} (hl : PE X l tl) : PI X tg l (iSeq K tl) := by
  subst hK
  exact pi_seq hl
theorem pi_zipAK (K : PySem.W.Frag) (hK : X.K = K) {e e2 : Expr} {ta : TA} {p pos tpos : Pos} {elts : List Expr} {kk : Nat} (hg : Gl X "zip") (hm : X.mg "zip" = none) (ha : PA X [e, e2] ta)
    (hs : starEach [e, e2] X.env = (false, eval e X.env) :: starEach [e2] X.env := by rfl) (hpl : (backTo pos (starEach [e2] X.env)).any (·.1) = false := by rfl) :
    PI X (.Tuple elts kk tpos) (.Call (.Name "zip" p) [e, e2] [] pos) (RZ.iZipA K ta) := by
  subst hK
  exact RZ.pi_zipA hg hm ha hs hpl
end
end Lc
namespace Lc
open PySem PySem.Spec PyProof.Rows L2 Evl
section
variable {X : Cx} {CX : CXT} {k : Nat} {f C : Addr} {fd : FuncData} {ps : List Str} {sp : Sp} {dvs : List V} {ds : List Value} {E : L2.St → XK} {x m : Str} {p pos apos : Pos} {e o a b : Expr} {es : List Expr} {te ta tb : TE} {t : TA}
/-! ### in a try's body: what an exception may do hangs on the slots -/
theorem run_atS {σ : L2.St} {pins : List (Addr × Obj)} {H : Hp} {s : Shared} {E : XK} {us : List Value} {vs : List V} {Q : VK} (F : FnOk X.prog X.w X.K X.mg X.base CX k f fd ps sp) (hr : Room k X.A) (hb : Binds X.K fd ps []) (hx : PassesAt CX X σ E)
    (I : Inv X pins σ H s) (r : Vals vs us) (h : sp vs H Q E) : wpAny (model X.prog X.w) X.A (call (.ref f) us) (EP X pins σ Q) X.xe s := by
  have hl : us.length = ps.length := by rw [← r.length]; exact F.len _ _ _ _ h
  refine wpAny_call (codeAny_mono (F.run X.A X.stack s H ⟨us, []⟩ us vs Q E hr I.env0 (by
    have h2 := hb s us I.kIn (by simpa using hl)
    simpa using h2) r h) fun r s' hq => ?_)
  cases r with
  | error e => exact hx pins H s e s' I hq
  | ok fl =>
    cases fl with
    | ret u => exact I.after hq
    | next => exact False.elim hq
    | brk => exact False.elim hq
    | cont => exact False.elim hq
def tMakeS (C : Addr) (sp : Sp) (dvs : List V) (E : L2.St → XK) (t : TA) : TE := fun σ H Q => t σ H fun vs H1 => ∀ x dx, H1 x = none → H1 dx = none → dx ≠ x →
  sp (.ref x :: (vs ++ dvs)) (upd (upd H1 dx (.own x)) x (.ins C dx [])) (fun v H2 => v = .non ∧ Q (.ref x) H2) (E σ)
theorem run_makeS {pins : List (Addr × Obj)} {σ : L2.St} {H : Hp} {s : Shared} {Q : VK} {us : List Value} {vs : List V} {E : XK} (M : Mk X.K C f) (F : FnOk X.prog X.w X.K X.mg X.base CX k f fd ps sp) (hr : Room (k + 1) X.A) (hb : Binds X.K fd ps ds) (hd : Vals dvs ds)
    (hx : PassesAt CX X σ E) (I : Inv X pins σ H s) (r : Vals vs us)
    (h : ∀ x dx, H x = none → H dx = none → dx ≠ x → sp (.ref x :: (vs ++ dvs)) (upd (upd H dx (.own x)) x (.ins C dx [])) (fun v H2 => v = .non ∧ Q (.ref x) H2) E) :
    wpAny (model X.prog X.w) X.A (call (.ref C) us) (EP X pins σ Q) X.xe s := by
  have hq := h (s.heap.objs.size + 1) s.heap.objs.size (I.hok.fresh (Nat.le_succ _)) (I.hok.fresh (Nat.le_refl _)) (Nat.ne_of_lt (Nat.lt_succ_self _))
  have I2 := Inv.made (C := C) I
  have r2 : Vals (V.ref (s.heap.objs.size + 1) :: (vs ++ dvs)) (Value.ref (s.heap.objs.size + 1) :: (us ++ ds)) := .cons rfl (r.append hd)
  have hl : (Value.ref (s.heap.objs.size + 1) :: us ++ ds).length = ps.length := by
    have e := r2.length
    rw [F.len _ _ _ _ hq] at e
    exact e.symm
  refine wpAny_call (make_map (f := f) I.kIn M.makes M.init (beq_iff_eq.mp M.fn) (codeAny_mono (F.run _ X.stack _ _ ⟨Value.ref (s.heap.objs.size + 1) :: us, []⟩ (Value.ref (s.heap.objs.size + 1) :: (us ++ ds)) _ _ E (hr.make C us [])
    (I2.env0.make C us []) (hb _ (Value.ref (s.heap.objs.size + 1) :: us) I2.kIn hl) r2 hq) fun r s' hq' => ?_))
  cases r with
  | error e => exact hx pins _ _ e s' I2 hq'
  | ok fl =>
    cases fl with
    | ret u =>
      obtain ⟨v, H', I3, rv, ev, q3⟩ := I2.after hq'
      subst ev
      exact ⟨rv, ⟨V.ref (s.heap.objs.size + 1), H', I3, rfl, q3⟩⟩
    | next => exact False.elim hq'
    | brk => exact False.elim hq'
    | cont => exact False.elim hq'
theorem pe_makeS (M : Mk X.K C f) (F : FnOk X.prog X.w X.K X.mg X.base CX k f fd ps sp) (hr : Room (k + 1) X.A) (hg : Gl X x) (hm : X.mg x = some (.ref C)) (hb : Binds X.K fd ps ds) (hd : Vals dvs ds) (hx : ∀ σ, PassesAt CX X σ (E σ))
    (ha : PA X (e :: es) t) (hdb : (x == ("__debug__" : Str)) = false := by decide) (he : starEach (e :: es) X.env = (false, eval e X.env) :: starEach es X.env := by rfl) (hpl : (backTo pos (starEach es X.env)).any (·.1) = false := by rfl) :
    PE X (.Call (.Name x p) (e :: es) [] pos) (tMakeS C sp dvs E t) := by
  refine ⟨fun pins s σ H Q I h => ?_⟩
  refine wpAny_Call_Name_kw (ld_glob I hg hm ?_ hdb)
  refine PySem.W.callWith_K (h₀ := X.base) I.ok.mod.kin M.kp (thn (ha.run pos pins s σ H _ I h) fun us s1 ⟨vs, H1, I1, r, q⟩ => ⟨I1.kIn, ?_⟩) he hpl
  exact run_makeS M F hr hb hd (hx σ) I1 r q
def tMethSg (C : Addr) (m : Str) (sp : Sp) (E : L2.St → XK) (ta : TE) (t : TA) : TE := fun σ H Q => ta σ H fun x H1 => ∃ a dx fs, x = .ref a ∧ H1 a = some (.ins C dx fs) ∧ fs.lookup m = none ∧
  t σ H1 fun vs H2 => sp (x :: vs) H2 Q (E σ)
theorem pe_methSg {pl : Sem Bool} (he : PE X o ta) (c : Cls X.K C) (hm : Meth X.K C m f) (F : FnOk X.prog X.w X.K X.mg X.base CX k f fd ps sp) (hr : Room k X.A) (hb : Binds X.K fd ps []) (hx : ∀ σ, PassesAt CX X σ (E σ)) (ha : PA X (e :: es) t)
    (hst : starEach (e :: es) X.env = (false, eval e X.env) :: starEach es X.env := by rfl) (hpl : (backTo pos (starEach es X.env)).any (·.1) = false := by rfl)
    (ht : eval (.Call (.Attribute o m apos) (e :: es) [] pos) X.env = (do
      let ov ← eval o X.env
      standAt apos.atName
      let (f, first) ← holding [ov] (getMethod ov m pl)
      callWith pos f first (backTo pos (starEach (e :: es) X.env)) (backToKw pos (keywordEach [] X.env))) := by rfl) :
    PE X (.Call (.Attribute o m apos) (e :: es) [] pos) (tMethSg C m sp E ta t) := by
  refine ⟨fun pins s σ H Q I h => ?_⟩
  refine PySem.W.methodCall_KW (pl := pl) (thn (he.run pins s σ H _ I h) fun u s1 ⟨x, H1, I1, rx, a, dx, fs, ex, ea, l, q⟩ => ?_) ht
  subst ex
  obtain rfl : u = Value.ref a := rx
  refine getmeth_ok I1 ea c hm l ?_
  refine PySem.W.callWith_K (first := [.ref a]) (h₀ := X.base) I.ok.mod.kin hm.kp (thn (ha.run pos pins s1 σ H1 _ I1 q) fun us s2 ⟨vs, H2, I2, r, q2⟩ => ⟨I2.kIn, ?_⟩) hst hpl
  exact run_atS (us := .ref a :: us) (vs := .ref a :: vs) F hr hb (hx σ) I2 (.cons rfl r) q2
def tBinS (C : Addr) (sp : Sp) (E : L2.St → XK) (ta tb : TE) : TE := fun σ H Q => ta σ H fun x H1 => tb σ H1 fun y H2 => ∃ a dx fs b dy gs, x = .ref a ∧ H2 a = some (.ins C dx fs) ∧ y = .ref b ∧ H2 b = some (.ins C dy gs) ∧ sp [.ref a, .ref b] H2 (fun v H' => (∃ r, v = .ref r) ∧ Q v H') (E σ)
theorem pe_binS {op : Operator} (F : FnOk X.prog X.w X.K X.mg X.base CX k f fd ps sp) (hr : Room k X.A) (h1 : PySem.W.selfFirst X.K C = true) (hs : PySem.W.findIn X.K (.ref C) (PySem.dunder op.info.2) = some (some (.ref f))) (hf : PySem.W.isFn X.K (.ref f) = true) (hb : Binds X.K fd ps []) (hx : ∀ σ, PassesAt CX X σ (E σ)) (hea : PE X a ta) (heb : PE X b tb) :
    PE X (.BinOp a op b pos) (tBinS C sp E ta tb) := by
  refine ⟨fun pins s σ H Q I h => ?_⟩
  refine wpAny_BinOp (binT hea heb I h fun v u s2 x y H2 I2 rx ry q => ?_)
  obtain ⟨a, dx, fs, b, dy, gs, rfl, ha, rfl, hb', hsp⟩ := q
  obtain rfl : v = Value.ref a := rx
  obtain rfl : u = Value.ref b := ry
  obtain ⟨mA, J, _⟩ := ins_get I2.hok ha
  obtain ⟨mB, J', _⟩ := ins_get I2.hok hb'
  obtain ⟨od, J, _⟩ := J.look
  obtain ⟨od', J', _⟩ := J'.look
  obtain ⟨m, hF⟩ := I2.fr
  refine PySem.W.binop_K hF I2.ok.mod.kin J J'.type h1 hs hf (wpAny_mono (run_atS (vs := [.ref a, .ref b]) F hr hb (hx σ) I2 (.cons (show RelV (.ref a) (Value.ref a) from rfl) (.cons (show RelV (.ref b) (Value.ref b) from rfl) .nil)) hsp) (fun w s' hw => ?_) fun _ _ x => x)
  obtain ⟨v, H', I', rv, ⟨r, rfl⟩, q⟩ := hw
  cases rv
  exact ⟨.ref r, H', I', rfl, q⟩
end
end Lc
namespace Lc
open PySem PySem.Spec PyProof.Rows L2 Evl PySem.Calls HotX L2H
section
variable {prog : Program} {w : World} {A : Around} {E : Value → Shared → Prop} {s : Shared} {x1 : Addr} {o1 : Obj}
/-! ### the end of a text's walk while an exception is handled -/
theorem nextOf_ascii_end_hot {it x1 : Addr} {x : Str} {t : Tok} {i : Nat} {Q : Value → Shared → Prop} (hot : HotAt A x1 s.heap) (hx1 : x1 ≠ it)
    (hit : s.heap.IsStrIter it "str_ascii_iterator" x t i) (hx : x.cps[i]? = none)
    (hE : ∀ h' e, Heap.ExtBut it s.heap h' → (∃ o, h'.get? e = some o ∧ o.cls = .type "StopIteration") → E (.ref e) { s with heap := h' }) :
    wpAny (model prog w) A (Builtin.SmallTypes.nextOf (.ref it)) Q E s := by
  obtain ⟨hh, o1, vs1, h1, d1, c1⟩ := hot
  obtain ⟨o, ho, hc, hd⟩ := id hit
  unfold Builtin.SmallTypes.nextOf
  refine wpAny_bind (wpAny_callSpecial?_slot (name := Str.ofString "__next__") hit.typeIs F.slot_str_ascii_iterator_next
    (wpAny_call_entry F.slot_str_ascii_iterator_next hit.typeIs F.entry_str_ascii_iterator_next ?_ (F.args_str_ascii_iterator_next_1 _)))
  show wpAny _ _ (field (.ref it) 0 >>= _) _ _ s
  refine wpAny_bind (wpAny_field ho hd (x := .str x t) rfl ?_)
  show wpAny _ _ (field (.ref it) 1 >>= _) _ _ s
  refine wpAny_bind (wpAny_field ho hd (x := .int i 0) rfl ?_)
  simp only [Int.toNat_natCast, hx]
  refine wpAny_bind (wpAny_rule (wpAny_bind (wpAny_setField ho hd (by simp) (wpAny_bind (wpAny_letGo ?_)))))
  show wpAny _ _ (newExc (.type "StopIteration") [] >>= _) _ _ _
  refine wpAny_bind ?_
  simp only [newExc, newTuple]
  refine wpAny_bind (wpAny_newObj_type ?_ (by size_fits))
  refine wpAny_bind (m := firstArgMember _ _) (wpAny_of_eq (a := Value.none) (by first | rfl | (simp only [firstArgMember]; rfl)) ?_)
  refine wpAny_newObj_type ?_ (by size_fits)
  refine raiseNew_hot ⟨hh, o1, vs1, Heap.get?_push_of_some _ (Heap.get?_push_of_some _ ((Heap.get?_update_other _ _ (Ne.symm hx1)).trans h1)), d1, c1⟩ (Nat.ne_of_lt (Heap.lt_size (Heap.get?_push_of_some _ ((Heap.get?_update_other _ _ (Ne.symm hx1)).trans h1)))) (Heap.get?_push_size _ rfl) rfl (by first | (simp; done) | (simp; omega) | (simp only [Array.size_append]; simp; omega)) ?_
  refine hE _ _ (fun b o2 hb e => ?_) ⟨_, Heap.get?_update_self _ (Heap.get?_push_size _ rfl) rfl, rfl⟩
  rw [Heap.get?_update_other _ _ (Nat.ne_of_gt (Heap.lt_size (Heap.get?_push_of_some _ ((Heap.get?_update_other _ _ (Ne.symm hb)).trans e))))]
  exact Heap.get?_push_of_some _ (Heap.get?_push_of_some _ ((Heap.get?_update_other _ _ (Ne.symm hb)).trans e))
theorem pyNext_ascii_end_hot {it x1 : Addr} {x : Str} {t : Tok} {i : Nat} {Q : Option Value → Shared → Prop} (hot : HotAt A x1 s.heap) (hx1 : x1 ≠ it)
    (hit : s.heap.IsStrIter it "str_ascii_iterator" x t i) (hx : x.cps[i]? = none)
    (hQ : ∀ h', Heap.ExtBut it s.heap h' → Q none { s with heap := h' }) : wpAny (model prog w) A (pyNext (.ref it)) Q E s := by
  obtain ⟨hh, o1, vs1, h1, d1, c1⟩ := hot
  obtain ⟨o, ho, hc, hd⟩ := id hit
  unfold pyNext
  refine wpAny_bind (wpAny_attempt (wpAny_callSpecial?_slot (name := Str.ofString "__next__") hit.typeIs F.slot_str_ascii_iterator_next
    (wpAny_call_entry F.slot_str_ascii_iterator_next hit.typeIs F.entry_str_ascii_iterator_next ?_ (F.args_str_ascii_iterator_next_1 _))))
  show wpAny _ _ (field (.ref it) 0 >>= _) _ _ s
  refine wpAny_bind (wpAny_field ho hd (x := .str x t) rfl ?_)
  show wpAny _ _ (field (.ref it) 1 >>= _) _ _ s
  refine wpAny_bind (wpAny_field ho hd (x := .int i 0) rfl ?_)
  simp only [Int.toNat_natCast, hx]
  refine wpAny_bind (wpAny_rule (wpAny_bind (wpAny_setField ho hd (by simp) (wpAny_bind (wpAny_letGo ?_)))))
  show wpAny _ _ (newExc (.type "StopIteration") [] >>= _) _ _ _
  refine wpAny_bind ?_
  simp only [newExc, newTuple]
  refine wpAny_bind (wpAny_newObj_type ?_ (by size_fits))
  refine wpAny_bind (m := firstArgMember _ _) (wpAny_of_eq (a := Value.none) (by first | rfl | (simp only [firstArgMember]; rfl)) ?_)
  refine wpAny_newObj_type ?_ (by size_fits)
  refine raiseNew_hot ⟨hh, o1, vs1, Heap.get?_push_of_some _ (Heap.get?_push_of_some _ ((Heap.get?_update_other _ _ (Ne.symm hx1)).trans h1)), d1, c1⟩ (Nat.ne_of_lt (Heap.lt_size (Heap.get?_push_of_some _ ((Heap.get?_update_other _ _ (Ne.symm hx1)).trans h1)))) (Heap.get?_push_size _ rfl) rfl (by first | (simp; done) | (simp; omega) | (simp only [Array.size_append]; simp; omega)) ?_
  refine wpAny_bind (wpAny_isInstance (T := "StopIteration") (b := true) ⟨_, Heap.get?_update_self _ (Heap.get?_push_size _ rfl) rfl, rfl⟩ isSubtype_stop ?_)
  refine wpAny_pure (hQ _ fun b o2 hb e => ?_)
  rw [Heap.get?_update_other _ _ (Nat.ne_of_gt (Heap.lt_size (Heap.get?_push_of_some _ ((Heap.get?_update_other _ _ (Ne.symm hb)).trans e))))]
  exact Heap.get?_push_of_some _ (Heap.get?_push_of_some _ ((Heap.get?_update_other _ _ (Ne.symm hb)).trans e))
/-! ### what an enumerate draws from a text -/
theorem drawsHot (hh : ∃ p : Addr × Obj, Hot1 A p ∧ p.1 = x1 ∧ p.2 = o1) (it : Addr) (hx1 : x1 ≠ it) (x : Str) (t : Tok) :
    Draws prog w A it [it, x1] x.cps.size (fun i v => ∃ c u, x.cps[i]? = some c ∧ v = .str ⟨#[c]⟩ u) (fun i h => h.IsStrIter it "str_ascii_iterator" x t i ∧ h.get? x1 = some o1) where
  live := fun _ _ st => let ⟨o, ho, _⟩ := st.1; ⟨o, ho⟩
  frame := fun _ _ _ st hk => let ⟨o, ho, r⟩ := st.1; ⟨⟨o, hk it (by simp) o ho, r⟩, hk x1 (by simp) _ st.2⟩
  item := fun i s Q E hi st hQ => by
    refine wpAny_nextOf_ascii_item st.1 (c := x.cps[i]) (by simp [hi]) fun h' hit' hs' => ?_
    exact hQ _ h' (s.toks + 1) ⟨_, _, by simp [hi], rfl⟩ ⟨hit', (hs'.2 x1 hx1).trans st.2⟩ hs'
  done := fun s Q E st hE => by
    obtain ⟨p, ⟨h1, vs, e1, c1⟩, rfl, rfl⟩ := hh
    exact nextOf_ascii_end_hot ⟨h1, _, vs, st.2, e1, c1⟩ hx1 st.1 (by simp) hE
end
/-! ### walks in an except suite -/
def low (z : Str) : Prop := z.cps.all (· < 128) = true
theorem turnH_strA {P : Program} {w : World} {K : PySem.W.Frag} {tg : Expr} (it : Addr) (x : Str) (t : Tok) : TurnH P w K tg (Its x) [it] it (fun i h => h.IsStrIter it "str_ascii_iterator" x t i) where
  mem := by simp
  obj := fun i h st b hb => by
    have e : b = it := by simpa using hb
    subst e
    obtain ⟨o, e, c, d⟩ := st
    exact ⟨o, e, fun v z => by rw [d] at z; cases z⟩
  keep := fun i h h' st k => let ⟨o, ho, r⟩ := st; ⟨o, k it (by simp) o ho, r⟩
  item := by
    intro X hP hw hK hc i pins s σ H E I hf st hg
    subst hP hw hK
    obtain ⟨f0, f1, f2, f3, f4, f5⟩ := hf it (by simp)
    have hlt : i < x.cps.size := hg
    refine wpAny_pyNext_ascii_item st (c := x.cps[i]) (by simp [hlt]) fun h' st' sb => ?_
    have I1 : Inv X pins σ H { s with heap := h', toks := s.toks + 1 } := I.turned (fun b o hb e => (sb.2 b hb).trans e) f0 f1 f3 f4 f5
    obtain ⟨oi, e, cc, dd⟩ := id st'
    exact ⟨_, rfl, go_of (s := { s with heap := h', toks := s.toks + 1 }) e cc dd (by decide) ⟨.str ⟨#[x.cps[i]]⟩, H, I1, ⟨_, rfl⟩, ⟨rfl, _, by simp [hlt], rfl⟩, st', fun b hb => (hf b hb).1⟩⟩
  done := by
    intro X hP hw hK hc i pins s σ H E I hf st hg
    subst hP hw hK
    obtain ⟨f0, f1, f2, f3, f4, f5⟩ := hf it (by simp)
    obtain ⟨p, hot, hp⟩ := hc
    have hxn : p.1 ≠ it := f5 p (List.mem_append_left _ hp)
    obtain ⟨hh, v1, e1, c1⟩ := hot
    exact pyNext_ascii_end_hot ⟨hh, p.2, v1, (I.pin p (List.mem_append_left _ hp)).1, e1, c1⟩ hxn st (Array.getElem?_eq_none hg) fun h' eb => ⟨rfl, I.turned (t' := s.toks) (fun b o hb e => eb b o hb e) f0 f1 f3 f4 f5⟩
  self := fun A i s Q E st h => wpAny_pyIter_striter_ascii st h
def iStrH (te : TE) : TI := fun σ H R => te σ H fun v H1 => ∃ x, v = .str x ∧ low x ∧ R (Its x) H1
theorem pi_strH {X : Cx} {tg e : Expr} {te : TE} (he : PE X e te) : PIH X tg e (iStrH te) := by
  refine ⟨fun pins s σ H R I h => ?_⟩
  refine thn (he.run pins s σ H _ I h) fun v s1 ⟨y, H1, I1, r1, x, ex, hl, q⟩ => ?_
  subst ex
  obtain ⟨t, rfl⟩ := r1
  refine wpAny_pyIter_ascii hl ?_
  refine ⟨s1.heap.objs.size, [s1.heap.objs.size], _, _, H1, rfl, I1.kept (t' := s1.toks) fun b o e => Heap.get?_push_of_some _ e, turnH_strA _ x t, ⟨_, Heap.get?_push_size _ rfl, rfl, rfl⟩, fun b hb => ?_, q⟩
  have e : b = s1.heap.objs.size := by simpa using hb
  subst e
  exact I1.fpOk (Nat.le_refl _) (I1.hok.fresh (Nat.le_refl _))
theorem turnH_enumA {P : Program} {w : World} {K : PySem.W.Frag} {elts : List Expr} {kk : Nat} {tpos : Pos} (z : Str) (t : Tok) (e it : Addr) :
    TurnH P w K (.Tuple elts kk tpos) (Itn z) [e, it] e (fun i h => (∃ old, IsEnum h e it ((i : Nat) : Int) old) ∧ h.IsStrIter it "str_ascii_iterator" z t i ∧ e ≠ it) where
  mem := by simp
  obj := fun i h st b hb => by
    obtain ⟨⟨old, he⟩, ⟨o, ho, hc, hd⟩, _⟩ := st
    have e' : b = e ∨ b = it := by simpa using hb
    rcases e' with q | q
    · rw [q]; exact ⟨_, he, fun v q => nomatch q⟩
    · rw [q]; exact ⟨o, ho, fun v q => by rw [hd] at q; cases q⟩
  keep := fun i h h' st k => let ⟨⟨old, he⟩, ⟨o, ho, r⟩, hne⟩ := st; ⟨⟨old, k e (by simp) _ he⟩, ⟨o, k it (by simp) o ho, r⟩, hne⟩
  item := by
    intro X hP hw hK hc i pins s σ H E I hf st hg
    subst hP hw hK
    obtain ⟨⟨old, he⟩, hit, hne⟩ := st
    have hel : e < s.heap.objs.size := Heap.lt_size he
    have hil : it < s.heap.objs.size := by obtain ⟨_, q, _⟩ := hit; exact Heap.lt_size q
    obtain ⟨p, hot, hp⟩ := hc
    have hxn : p.1 ≠ it := (hf it (by simp)).2.2.2.2.2 p (List.mem_append_left _ hp)
    have hxe : p.1 ≠ e := (hf e (by simp)).2.2.2.2.2 p (List.mem_append_left _ hp)
    have hx1 := (I.pin p (List.mem_append_left _ hp)).1
    have D : Draws X.prog X.w X.A.in1 it [it, p.1] z.cps.size (fun i v => ∃ c u, z.cps[i]? = some c ∧ v = .str ⟨#[c]⟩ u) (fun i h => h.IsStrIter it "str_ascii_iterator" z t i ∧ h.get? p.1 = some p.2) := drawsHot (A := X.A.in1) ⟨p, (show Hot1 X.A.in1 p from hot), rfl, rfl⟩ it hxn z t
    refine wpAny_pyNext_enum_itemD D he ⟨hit, hx1⟩ hg hne (by simp; exact ⟨hne, Ne.symm hxe⟩) fun x h' tk hx ho hit' hT hsz hk => ?_
    obtain ⟨c, u, hcx, rfl⟩ := hx
    refine ⟨_, rfl, wpAny_letOwnedTupleGo_enum (s := { s with heap := h', toks := tk + 1 }) ho fun h'' he' sb => ?_⟩
    have hT2 : h''.get? s.heap.objs.size = some { cls := .type "tuple", data := .seq #[.int i tk, .str ⟨#[c]⟩ u] } := (sb.2 _ (Nat.ne_of_gt hel)).trans hT
    have new : ObjOk X.prog X.w (upd H s.heap.objs.size (.tup [.int (i : Nat), .str ⟨#[c]⟩])) h'' s.heap.objs.size (.tup [.int (i : Nat), .str ⟨#[c]⟩]) :=
      ⟨by show 2 ≤ sizeLine; decide, [.int i tk, .str ⟨#[c]⟩ u], .cons ⟨_, rfl⟩ (.cons ⟨_, rfl⟩ .nil), ⟨_, hT2, rfl, _, rfl⟩⟩
    have I1 : Inv X pins σ (upd H s.heap.objs.size (.tup [.int (i : Nat), .str ⟨#[c]⟩])) { s with heap := h'', toks := tk + 1 } :=
      I.turnedNew (ch := [e, it]) (fun b ob hb q => (sb.2 b (fun z => hb (by simp [z]))).trans (hk b ob (fun z => hb (by simp [z])) (fun z => hb (by simp [z])) q)) hf (Nat.le_refl _) new
    refine ⟨.ref s.heap.objs.size, _, I1, rfl, ⟨_, c, rfl, I.hok.fresh (Nat.le_refl _), rfl, hcx⟩, ⟨⟨.str ⟨#[c]⟩ u, ?_⟩, ?_, hne⟩, fun b hb => ?_⟩
    · have e1 : ((i + 1 : Nat) : Int) = (i : Int) + 1 := by omega
      rw [e1]; exact he'
    · obtain ⟨o, ho', r⟩ := hit'.1
      exact ⟨o, (sb.2 it (Ne.symm hne)).trans ho', r⟩
    · have hb' : b < s.heap.objs.size := by
        have e' : b = e ∨ b = it := by simpa using hb
        rcases e' with q | q
        · rw [q]; exact hel
        · rw [q]; exact hil
      rw [upd_ne (Nat.ne_of_lt hb')]
      exact (hf b hb).1
  done := by
    intro X hP hw hK hc i pins s σ H E I hf st hg
    subst hP hw hK
    obtain ⟨⟨old, he⟩, hit, hne⟩ := st
    obtain ⟨f0, f1, f2, f3, f4, f5⟩ := hf it (by simp)
    obtain ⟨p, hot, hp⟩ := hc
    have hxn : p.1 ≠ it := f5 p (List.mem_append_left _ hp)
    obtain ⟨hh, v1, e1, c1⟩ := hot
    have hx : z.cps[i]? = none := Array.getElem?_eq_none hg
    have hT : s.TypeIs (.ref e) "enumerate" := ⟨_, he, rfl⟩
    unfold pyNext
    refine wpAny_bind (wpAny_attempt (wpAny_callSpecial?_slot (name := Str.ofString "__next__") hT F.slot_enumerate_next
      (wpAny_call_entry F.slot_enumerate_next hT F.entry_enumerate_next ?_ (F.args_enumerate_next_1 _))))
    show wpAny _ _ (field (.ref e) 2 >>= _) _ _ _
    refine wpAny_bind (wpAny_field he rfl (x := .ref it) rfl ?_)
    refine wpAny_bind (nextOf_ascii_end_hot ⟨hh, p.2, v1, (I.pin p (List.mem_append_left _ hp)).1, e1, c1⟩ hxn hit hx fun h' x eb hx' => ?_)
    obtain ⟨o, ho, hc'⟩ := hx'
    refine wpAny_bind (wpAny_isInstance (T := "StopIteration") (b := true) ⟨o, ho, hc'⟩ isSubtype_stop ?_)
    exact wpAny_pure ⟨rfl, I.turned (t' := s.toks) (fun b o hb e => eb b o hb e) f0 f1 f3 f4 f5⟩
  self := fun A i s Q E st h => let ⟨⟨_, he⟩, _⟩ := st; wpAny_pyIter_enum he h
def iEnumH (ta : TA) : TI := fun σ H R => ta σ H fun vs H1 => ∃ z, vs = [.str z] ∧ low z ∧ R (Itn z) H1
theorem pi_enumH {X : Cx} {e : Expr} {ta : TA} {p pos tpos : Pos} {elts : List Expr} {kk : Nat} (hg : Gl X "enumerate") (hm : X.mg "enumerate" = none) (ha : PA X [e] ta) (hs : starEach [e] X.env = [(false, eval e X.env)] := by rfl) :
    PIH X (.Tuple elts kk tpos) (.Call (.Name "enumerate" p) [e] [] pos) (iEnumH ta) := by
  refine ⟨fun pins s σ H R I h => ?_⟩
  refine Call_ (ld_blt I hg hm boot_enumerate (PyProof.Rows.callWith_type1 (thn (ha.run pos pins s σ H _ I h) fun us s1 ⟨vs, H1, I1, r1, q1⟩ => ?_) hs rfl))
  obtain ⟨z, ex, hl, q⟩ := q1
  subst ex
  obtain ⟨u, rfl, r⟩ := vals1 r1
  obtain ⟨t, rfl⟩ := r
  refine call_enumerate_str fun h' he hit hsz hk => wpAny_pyIter_enum he ?_
  have I2 : Inv X pins σ H1 { s1 with heap := h' } := I1.kept (t' := s1.toks) hk
  have hty : strIterType z = "str_ascii_iterator" := if_pos hl
  rw [hty] at hit
  refine ⟨s1.heap.objs.size + 1, [s1.heap.objs.size + 1, s1.heap.objs.size], _, _, H1, rfl, I2, turnH_enumA z t (s1.heap.objs.size + 1) s1.heap.objs.size, ⟨⟨.none, he⟩, hit, Nat.succ_ne_self _⟩, fun b hb => ?_, q⟩
  have e' : b = s1.heap.objs.size + 1 ∨ b = s1.heap.objs.size := by simpa using hb
  have hle : s1.heap.objs.size ≤ b := by
    rcases e' with z | z
    · rw [z]; exact Nat.le_add_right _ _
    · rw [z]; exact Nat.le_refl _
  exact I1.fpOk hle (I1.hok.fresh hle)
end Lc
namespace Lc
open PySem PySem.Spec PyProof.Rows L2 Evl PySem.Calls HotX L2H
section
variable {X : Cx} {CX : CXT} {k : Nat} {f C : Addr} {fd : FuncData} {ps : List Str} {sp : Sp} {dvs : List V} {ds : List Value} {E : L2.St → XK} {x m : Str} {q pos apos : Pos} {e o : Expr} {es : List Expr} {ta : TE} {t : TA}
/-! ### a call in an except suite, defaults fill up -/
theorem run_fnHD {pins : List (Addr × Obj)} {σ : L2.St} {H : Hp} {s : Shared} {Q : VK} {us : List Value} {vs : List V} (F : FnH X.prog X.w X.K X.mg X.base CX k f fd ps sp) (hr : RoomH k X.A) (hc : HotC X) (hb : Binds X.K fd ps ds) (hd : Vals dvs ds) (hx : PassesAt CX X σ (E σ))
    (I : Inv X pins σ H s) (r : Vals vs us) (h : sp (vs ++ dvs) H Q (E σ)) : wpAny (model X.prog X.w) X.A (call (.ref f) us) (EP X pins σ Q) X.xe s := by
  obtain ⟨p, hot, hp⟩ := hc
  have r2 : Vals (vs ++ dvs) (us ++ ds) := r.append hd
  have hl : (us ++ ds).length = ps.length := by rw [← r2.length]; exact F.len _ _ _ _ h
  have P1 := I.pin p (List.mem_append_left _ hp)
  have hpin : PinOk X.stack H s p := ⟨P1.1, P1.2.1, fun hm => (List.mem_cons.mp (I.stkSub p.1 hm)).elim P1.2.2.1 P1.2.2.2.1, P1.2.2.2.2⟩
  refine wpAny_call (codeAny_mono (F.run X.A X.stack s H ⟨us, []⟩ (us ++ ds) (vs ++ dvs) Q (E σ) p hr hot hpin I.env0 (hb s us I.kIn hl) r2 h) fun r s' hq => ?_)
  cases r with
  | error e => exact hx pins H s e s' I hq
  | ok fl =>
    cases fl with
    | ret u => exact I.after hq
    | next => exact False.elim hq
    | brk => exact False.elim hq
    | cont => exact False.elim hq
theorem pe_callHD (F : FnH X.prog X.w X.K X.mg X.base CX k f fd ps sp) (hr : RoomH k X.A) (hc : HotC X) (hg : Gl X x) (hm : X.mg x = some (.ref f)) (hk : PySem.W.keepIn X.K (.ref f) = true) (hb : Binds X.K fd ps ds) (hd : Vals dvs ds) (hx : ∀ σ, PassesAt CX X σ (E σ))
    (ha : PA X (e :: es) t) (hdb : (x == ("__debug__" : Str)) = false := by decide) (he : starEach (e :: es) X.env = (false, eval e X.env) :: starEach es X.env := by rfl) (hpl : (backTo pos (starEach es X.env)).any (·.1) = false := by rfl) :
    PE X (.Call (.Name x q) (e :: es) [] pos) (tCallSD sp dvs E t) := by
  refine ⟨fun pins s σ H Q I h => ?_⟩
  refine wpAny_Call_Name_kw (ld_glob I hg hm ?_ hdb)
  refine PySem.W.callWith_K (h₀ := X.base) I.ok.mod.kin hk (thn (ha.run pos pins s σ H _ I h) fun us s1 ⟨vs, H1, I1, r, q⟩ => ⟨I1.kIn, ?_⟩) he hpl
  exact run_fnHD F hr hc hb hd (hx σ) I1 r q
end
section
variable {prog : Program} {w : World} {A : Around} {E : Value → Shared → Prop} {s : Shared}
/-! ### a tuple taken apart while an exception is handled -/
theorem next_tuple_end_hot {it x1 t : Addr} {i : Nat} {items} {Q : Option Value → Shared → Prop} (hot : HotAt A x1 s.heap) (hx1 : x1 ≠ it)
    (hit : IsTupIter s.heap it t i) (ht : IsTup s.heap t items) (hx : items[i]? = none)
    (hQ : ∀ h', Heap.ExtBut it s.heap h' → Q none { s with heap := h' }) : wpAny (model prog w) A (pyNext (.ref it)) Q E s := by
  obtain ⟨hh, o1, vs1, h1, d1, c1⟩ := hot
  obtain ⟨o, ho, hc, hd⟩ := id hit
  obtain ⟨ol, hol, _, nl, hdl⟩ := ht
  unfold pyNext
  refine wpAny_bind (wpAny_attempt (wpAny_callSpecial?_slot (name := Str.ofString "__next__") hit.typeIs slot_tupleiter_next
    (wpAny_call_entry slot_tupleiter_next hit.typeIs entry_tupleiter_next ?_ (args_tupleiter_next _))))
  show wpAny _ _ (field (.ref it) 0 >>= _) _ _ s
  refine wpAny_bind (wpAny_field ho hd (x := .ref t) rfl ?_)
  show wpAny _ _ (if (Value.ref t == Value.none) = true then _ else _) _ _ s
  rw [if_neg (show ¬ ((Value.ref t == Value.none) = true) from Bool.false_ne_true)]
  show wpAny _ _ (field (.ref it) 1 >>= _) _ _ s
  refine wpAny_bind (wpAny_field ho hd (x := .int i 0) rfl ?_)
  show wpAny _ _ (seqItems? (.ref t) >>= _) _ _ s
  refine wpAny_bind (wpAny_seqItems hol hdl ?_)
  simp only [Int.toNat_natCast, hx]
  refine wpAny_bind (wpAny_rule (wpAny_bind (wpAny_setField ho hd (by simp) ?_)))
  show wpAny _ _ (newExc (.type "StopIteration") [] >>= _) _ _ _
  refine wpAny_bind ?_
  simp only [newExc, newTuple]
  refine wpAny_bind (wpAny_newObj_type ?_ (by size_fits))
  refine wpAny_bind (m := firstArgMember _ _) (wpAny_of_eq (a := Value.none) (by first | rfl | (simp only [firstArgMember]; rfl)) ?_)
  refine wpAny_newObj_type ?_ (by size_fits)
  refine raiseNew_hot ⟨hh, o1, vs1, Heap.get?_push_of_some _ (Heap.get?_push_of_some _ ((Heap.get?_update_other _ _ (Ne.symm hx1)).trans h1)), d1, c1⟩ (Nat.ne_of_lt (Heap.lt_size (Heap.get?_push_of_some _ ((Heap.get?_update_other _ _ (Ne.symm hx1)).trans h1)))) (Heap.get?_push_size _ rfl) rfl (by first | (simp; done) | (simp; omega) | (simp only [Array.size_append]; simp; omega)) ?_
  refine wpAny_bind (wpAny_isInstance (T := "StopIteration") (b := true) ⟨_, Heap.get?_update_self _ (Heap.get?_push_size _ rfl) rfl, rfl⟩ isSubtype_stop ?_)
  refine wpAny_pure (hQ _ fun b o2 hb e => ?_)
  rw [Heap.get?_update_other _ _ (Nat.ne_of_gt (Heap.lt_size (Heap.get?_push_of_some _ ((Heap.get?_update_other _ _ (Ne.symm hb)).trans e))))]
  exact Heap.get?_push_of_some _ (Heap.get?_push_of_some _ ((Heap.get?_update_other _ _ (Ne.symm hb)).trans e))
theorem unpackItems_tuple_hot {x1 t : Addr} {items : Array Value} {Q : List Value → Shared → Prop} (hot : HotAt A x1 s.heap) (ht : IsTup s.heap t items)
    (hQ : ∀ h', Heap.ExtBut s.heap.objs.size s.heap h' → Q items.toList { s with heap := h' }) : wpAny (model prog w) A (unpackItems (.ref t) items.size none) Q E s := by
  have hlt : t ≠ s.heap.objs.size := by obtain ⟨o, ho, _⟩ := ht; exact Nat.ne_of_lt (Heap.lt_size ho)
  obtain ⟨hh, o1, vs1, h1, d1, c1⟩ := hot
  have hx1 : x1 ≠ s.heap.objs.size := Nat.ne_of_lt (Heap.lt_size h1)
  unfold unpackItems
  refine wpAny_bind ?_
  · unfold notIterableAtAll
    refine wpAny_bind (wpAny_specialOf ht.typeIs slot_tuple_iter.lookup ?_)
    refine wpAny_pure ?_
    simp only [Bool.false_eq_true, if_false]
    refine wpAny_bind (wpAny_holding (iter_tuple ht ?_))
    refine wpAny_bind (wpAny_holding (draw_tuple hlt items.size 0 _ _ ⟨_, Heap.get?_push_size _ rfl, rfl, rfl⟩ (ht.push _) (by omega) fun h₁ hit₁ hs₁ => ?_))
    have hall : List.take items.size (List.drop 0 items.toList) = items.toList := by
      rw [List.drop_zero]; exact List.take_of_length_le (by simp)
    rw [hall]
    rw [if_neg (by simp)]
    have ht₁ : IsTup h₁ t items := (ht.push _).extBut hs₁.extBut hlt
    refine wpAny_bind (wpAny_holding (next_tuple_end_hot ⟨hh, o1, vs1, hs₁.extBut x1 o1 hx1 (Heap.get?_push_of_some _ h1), d1, c1⟩ hx1 hit₁ ht₁ (by simp) fun h₂ he₂ => ?_))
    simp only [Option.isSome_none, Bool.false_eq_true, if_false]
    refine wpAny_pure (hQ h₂ fun b o hb e => he₂ b o hb (hs₁.extBut b o hb (Heap.get?_push_of_some _ e)))

theorem unpack_tuple_hot {x1 t : Addr} {items : Array Value} {targets : List (Bool × (Value → Sem Unit))} {Q : Unit → Shared → Prop} (hot : HotAt A x1 s.heap) (ht : IsTup s.heap t items)
    (hn : targets.length = items.size) (hstar : targets.findIdx? (·.1) = none)
    (h : ∀ h', Heap.ExtBut s.heap.objs.size s.heap h' → wpAny (model prog w) A (assignInOrder (targets.map (·.2)) items.toList) Q E { s with heap := h' }) :
    wpAny (model prog w) A (unpack (.ref t) targets) Q E s := by
  unfold unpack
  rw [hn, hstar]
  exact wpAny_bind (wpAny_holding (unpackItems_tuple_hot hot ht h))
theorem assign_Tuple_tuple_hot {y1 : Addr} {env : Env} {elts : List Expr} {x1} {pos : Pos} {t : Addr} {items : Array Value} {Q : Unit → Shared → Prop} (hot : HotAt A y1 s.heap) (ht : IsTup s.heap t items)
    (hn : (assignEach elts env).length = items.size) (hstar : (assignEach elts env).findIdx? (·.1) = none)
    (h : ∀ h', Heap.ExtBut s.heap.objs.size s.heap h' → wpAny (model prog w) A (assignInOrder ((assignEach elts env).map (·.2)) items.toList) Q E { s with heap := h' }) :
    wpAny (model prog w) A (assign (.Tuple elts x1 pos) env (.ref t)) Q E s := by
  rw [assign_Tuple]
  exact wpAny_bind (wpAny_standAt (unpack_tuple_hot hot ht hn hstar h))
end
theorem pg_tupH {X : Cx} {pos : Pos} {es : List Expr} {k : Nat} {t : TGs} {n : Nat} (hc : HotC X) (h : PGs X es t)
    (hn : (assignEach es X.env).length = n := by rfl) (hst : (assignEach es X.env).findIdx? (·.1) = none := by rfl) : PG X (.Tuple es k pos) (gTup X.K n t) := by
  refine ⟨fun pins s σ H v u Q I r hw => ?_⟩
  obtain ⟨a, xs, e1, hq, hl, hw⟩ := hw
  subst e1
  cases r
  obtain ⟨its, rv, ht, hz⟩ := I.tuple hq
  obtain ⟨x1, hot⟩ := hc.at I
  refine assign_Tuple_tuple_hot hot ht (by simp [hn, ← hl, rv.length]) hst fun h' hx => ?_
  have I1 : Inv X pins σ H { s with heap := h' } := I.kept (t' := s.toks) fun b o e => hx b o (Nat.ne_of_lt (Heap.lt_size e)) e
  exact h.run pins _ σ H xs _ Q I1 (by simpa using rv) hw
/-- what is never reached -/
theorem ps_dead {X : Cx} {st : Stmt} : PS X st (fun _ _ _ => False) := ⟨fun _ _ _ _ _ _ h => h.elim⟩
/-! ### a def called there whose body gives out a token -/
theorem fn_ofHT {CX : CXT} {P : Program} {w : World} {K : PySem.W.Frag} {mg : Str → Option Value} {base : Heap} {k : Nat} {f : Addr} {name qual : Str} {params : Arguments} {body : List Stmt} {scope : Scope} {dV kV doc pm cdv ct oc : Value} {an od : Option Addr}
    {osl : Array (Option Value)} {N ps : List Str} {sp : Sp} (lk : K.lookup f = some ⟨oc, od, .func (PySem.W.fnOf name qual params body scope dV kV doc pm an cdv ct), osl⟩) (hcd : PySem.W.codeIn K cdv qual = true) (S : FnScope N ps scope)
    (hnc : ∀ y ∈ scope.names, y.2 ≠ .cell) (hps : 1 ≤ ps.length) (len : ∀ vs H Q E, sp vs H Q E → vs.length = ps.length)
    (hbody : ∀ (A : Around) (outer : List Env) (s : Shared) (H : Hp) (vs : List V) (Q : VK) (E : XK) (p : Addr × Obj), Hot1 A p → RoomH k (A.deeper (envOfC qual scope s.heap.objs.size f cdv)) → sp vs H Q E →
      ∃ t, PSsT (cxH CX P w K mg base N qual scope f cdv A outer s H E p) body t ∧ t { nx := fun _ H' => Q .non H', rt := Q } (L2.start N vs) H) :
    FnH P w K mg base CX (k + 1) f (PySem.W.fnOf name qual params body scope dV kV doc pm an cdv ct) ps sp := by
  refine ⟨len, fun A outer s H args us vs Q E p hr hot hpin e0 hb r hsp => ?_⟩
  have hl := len _ _ _ _ hsp
  have hul : us.length = ps.length := by rw [← r.length, hl]
  have KX : K.In s.heap := e0.mod.kin.keeps fun b o e => (e0.bs b o e).1
  have lim : s.heap.NoLimit := e0.mod.nolimit.keeps fun b o e => (e0.bs b o e).1
  have hloc : ∀ y ∈ ps.zip us, scope.names.lookup y.1 = some .local := fun ⟨n, v⟩ hy => by
    rcases S.par n (List.of_mem_zip hy).1 with q | q
    · exact q
    · exact absurd rfl (hnc _ (PySem.mem_of_lookup q))
  refine codeAny_call_function hr.depth (KX _ _ lk) rfl S.co S.gen rfl (PySem.W.codeRec_of KX hcd) (hb _ _ _ _ ?_)
  refine wpAny_newFunctionEnv hnc hloc (fun h1 hns hsb => ?_) S.kind
  have hz : (ps.zip us).length = ps.length := by rw [List.length_zip, hul, Nat.min_self]
  have keep : ∀ b o, s.heap.get? b = some o → h1.get? b = some o := fun b o e => hsb.extBut b o (Nat.ne_of_lt (Heap.lt_size e)) (Heap.get?_push_of_some _ e)
  have hcl : cellsFrom (s.heap.objs.size + 1) scope.names [] = [] := cells_none _ _ _ hnc
  have hkl : ∀ y ∈ ps.zip us, (envOfC qual scope s.heap.objs.size f cdv).kindOf y.1 = some .local := fun y hy => by
    first
    | exact hloc y hy
    | (simp only [Env.kindOf]; exact hloc y hy)
    | (unfold Env.kindOf; rw [if_pos S.kind]; exact hloc y hy)
    | simpa [Env.kindOf, envOfC, newEnv, S.kind] using hloc y hy
  have hm : (bindL (envOfC qual scope s.heap.objs.size f cdv).kindOf (ps.zip us) fun _ => none) = fun x => (ps.zip us).reverse.lookup x := by
    funext y
    rw [bindL_loc _ _ hkl y]
    cases (ps.zip us).reverse.lookup y <;> rfl
  have x : InCallC s s.heap.objs.size (bindL (envOfC qual scope s.heap.objs.size f cdv).kindOf (ps.zip us) fun _ => none) (cellsFrom (s.heap.objs.size + 1) scope.names [])
      (bindC (envOfC qual scope s.heap.objs.size f cdv).kindOf (ps.zip us) fun _ => none) ({ s with heap := h1, toks := s.toks + (ps.zip us).length } : Shared) := by
    rw [hm, hcl]
    exact ⟨⟨⟨_, _, rfl⟩, hns, keep, Nat.le_refl _⟩, fun n c hc => absurd hc (by simp), .nil, fun n c hc => absurd hc (by simp)⟩
  have henv : newEnv scope s.heap.objs.size mainGlobals [] (qual ++ ".<locals>.") (some f) cdv none builtinsNs = envOfC qual scope s.heap.objs.size f cdv := by
    unfold envOfC
    rw [hcl] <;> rfl
  have hto : 1 ≤ ({ s with heap := h1, toks := s.toks + (ps.zip us).length } : Shared).toks := by
    show 1 ≤ s.toks + (ps.zip us).length
    omega
  show ({ s with heap := h1, toks := s.toks + (ps.zip us).length } : Shared).heap.NoLimit ∧ codeAny (model P w) A (.func body (newEnv scope s.heap.objs.size mainGlobals [] (qual ++ ".<locals>.") (some f) cdv none builtinsNs)) _ ({ s with heap := h1, toks := s.toks + (ps.zip us).length } : Shared)
  rw [henv]
  generalize ({ s with heap := h1, toks := s.toks + (ps.zip us).length } : Shared) = s1 at x hto ⊢
  refine ⟨lim.keeps x.toInCall.keep, codeAny_func ?_⟩
  obtain ⟨t, ht, hq⟩ := hbody A outer s H vs Q E p hot (hr.deeper _) hsp
  have I : Inv (cxH CX P w K mg base N qual scope f cdv A outer s H E p) [] (L2.start N vs) H s1 := inv_startH S hpin e0 hl r x
  refine wpAny_mono (ht [] s1 (L2.start N vs) H _ hto I hq) (fun fl s' hs => ?_) fun e s' hs => hs
  have fin : ∀ {σ' : L2.St} {H' : Hp} {v : V} {u : Value}, Inv (cxH CX P w K mg base N qual scope f cdv A outer s H E p) [] σ' H' s' → RelV v u → Q v H' → CE outer P w H s Q u s' :=
    fun {σ' H' v u} J rv q => ⟨v, H', J.os, J.bare, J.base, J.hok, rv, q⟩
  cases fl with
  | ret u =>
    obtain ⟨v, σ', H', J, rv, q⟩ := hs
    exact fin J rv q
  | next =>
    obtain ⟨σ', H', J, q⟩ := hs
    exact fin (v := V.non) (u := Value.none) J rfl q
  | brk =>
    obtain ⟨_, _, _, q⟩ := hs
    exact False.elim q
  | cont =>
    obtain ⟨_, _, _, q⟩ := hs
    exact False.elim q
abbrev OkH (P : Program) (w : World) (K : PySem.W.Frag) (mg : Str → Option Value) (base : Heap) (k : Nat) (d : He5.DefA) (ps : List Str) (sp : Sp) : Prop := FnH P w K mg base (L2N.CX P w) k (d.at_ K) (fdOf K (d.at_ K)) ps sp
theorem okH {P : Program} {w : World} {K : PySem.W.Frag} {mg : Str → Option Value} {base : Heap} {k : Nat} {d : He5.DefA} {N ps : List Str} {sp : Sp} (F : HasD K d) (S : FnScope N ps d.scope) (len : ∀ vs H Q E, sp vs H Q E → vs.length = ps.length)
    (hbody : ∀ (cdv : Value) (A : Around) (outer : List Env) (s : Shared) (H : Hp) (vs : List V) (Q : VK) (E : XK) (p : Addr × Obj), Hot1 A p → RoomH k (A.deeper (envOfC d.qual d.scope s.heap.objs.size (d.at_ K) cdv)) → sp vs H Q E →
      ∃ t, PSs (cxH (L2N.CX P w) P w K mg base N d.qual d.scope (d.at_ K) cdv A outer s H E p) d.body t ∧ t { nx := fun _ H' => Q .non H', rt := Q } (L2.start N vs) H) :
    OkH P w K mg base (k + 1) d ps sp := by
  obtain ⟨oc, od, dV, kV, doc, pm, an, cdv, ct, osl, e, lk, hcd, _, _⟩ := F.ex
  show FnH P w K mg base (L2N.CX P w) (k + 1) (d.at_ K) (fdOf K (d.at_ K)) ps sp
  rw [e] at lk ⊢
  exact fn_ofH lk hcd S len (fun A outer s H vs Q E p hot hr h => hbody cdv A outer s H vs Q E p hot hr h)
theorem okHT {P : Program} {w : World} {K : PySem.W.Frag} {mg : Str → Option Value} {base : Heap} {k : Nat} {d : He5.DefA} {N ps : List Str} {sp : Sp} (F : HasD K d) (S : FnScope N ps d.scope) (hnc : ∀ y ∈ d.scope.names, y.2 ≠ .cell) (hps : 1 ≤ ps.length) (len : ∀ vs H Q E, sp vs H Q E → vs.length = ps.length)
    (hbody : ∀ (cdv : Value) (A : Around) (outer : List Env) (s : Shared) (H : Hp) (vs : List V) (Q : VK) (E : XK) (p : Addr × Obj), Hot1 A p → RoomH k (A.deeper (envOfC d.qual d.scope s.heap.objs.size (d.at_ K) cdv)) → sp vs H Q E →
      ∃ t, PSsT (cxH (L2N.CX P w) P w K mg base N d.qual d.scope (d.at_ K) cdv A outer s H E p) d.body t ∧ t { nx := fun _ H' => Q .non H', rt := Q } (L2.start N vs) H) :
    OkH P w K mg base (k + 1) d ps sp := by
  obtain ⟨oc, od, dV, kV, doc, pm, an, cdv, ct, osl, e, lk, hcd, _, _⟩ := F.ex
  show FnH P w K mg base (L2N.CX P w) (k + 1) (d.at_ K) (fdOf K (d.at_ K)) ps sp
  rw [e] at lk ⊢
  exact fn_ofHT lk hcd S hnc hps len (fun A outer s H vs Q E p hot hr h => hbody cdv A outer s H vs Q E p hot hr h)
end Lc
namespace K54
open PySem PySem.Spec PyProof.Rows L2 Lc
abbrev R : PySem.W.OpenRow := PySem.W.OpenLaw.row PySem.Challenge.rw_leapcard_k54_weights_checked
def topS (i : Nat) : Stmt := PySem.Challenge.pw_leapcard_k54_weights_checked.main.body.getD i (.Pass ⟨0, 0, 0, 0⟩)
abbrev st_wall : Stmt := topS 0
abbrev ps_wall : List Str := ["k"]
abbrev ns_wall : List Str := ["k"]
theorem sc_wall : FnScope ns_wall ps_wall (defScope st_wall) := ⟨rfl, rfl, rfl, by decide +kernel, rfl, by decide +kernel, by decide +kernel⟩
abbrev st_InvalidRow_init : Stmt := inClass (topS 3) 0
abbrev ps_InvalidRow_init : List Str := ["self", "row"]
abbrev ns_InvalidRow_init : List Str := ["self", "row"]
theorem sc_InvalidRow_init : FnScope ns_InvalidRow_init ps_InvalidRow_init (defScope st_InvalidRow_init) := ⟨rfl, rfl, rfl, by decide +kernel, rfl, by decide +kernel, by decide +kernel⟩
abbrev st_InvalidWeight_init : Stmt := inClass (topS 4) 0
abbrev ps_InvalidWeight_init : List Str := ["self", "part"]
abbrev ns_InvalidWeight_init : List Str := ["self", "part"]
theorem sc_InvalidWeight_init : FnScope ns_InvalidWeight_init ps_InvalidWeight_init (defScope st_InvalidWeight_init) := ⟨rfl, rfl, rfl, by decide +kernel, rfl, by decide +kernel, by decide +kernel⟩
abbrev st_check_row : Stmt := topS 8
abbrev ps_check_row : List Str := ["row", "signs"]
abbrev ns_check_row : List Str := ["row", "signs", "sign"]
theorem sc_check_row : FnScope ns_check_row ps_check_row (defScope st_check_row) := ⟨rfl, rfl, rfl, by decide +kernel, rfl, by decide +kernel, by decide +kernel⟩
abbrev st_unmarked : Stmt := topS 9
abbrev ps_unmarked : List Str := ["row"]
abbrev ns_unmarked : List Str := ["row"]
theorem sc_unmarked : FnScope ns_unmarked ps_unmarked (defScope st_unmarked) := ⟨rfl, rfl, rfl, by decide +kernel, rfl, by decide +kernel, by decide +kernel⟩
abbrev st_check_period : Stmt := topS 13
abbrev ps_check_period : List Str := ["period"]
abbrev ns_check_period : List Str := ["period"]
theorem sc_check_period : FnScope ns_check_period ps_check_period (defScope st_check_period) := ⟨rfl, rfl, rfl, by decide +kernel, rfl, by decide +kernel, by decide +kernel⟩
abbrev st_is_table : Stmt := topS 14
abbrev ps_is_table : List Str := ["table", "period"]
abbrev ns_is_table : List Str := ["table", "period", "row"]
theorem sc_is_table : FnScope ns_is_table ps_is_table (defScope st_is_table) := ⟨rfl, rfl, rfl, by decide +kernel, rfl, by decide +kernel, by decide +kernel⟩
abbrev st_remainder : Stmt := topS 15
abbrev ps_remainder : List Str := ["number", "modulus"]
abbrev ns_remainder : List Str := ["number", "modulus"]
theorem sc_remainder : FnScope ns_remainder ps_remainder (defScope st_remainder) := ⟨rfl, rfl, rfl, by decide +kernel, rfl, by decide +kernel, by decide +kernel⟩
abbrev st_summed : Stmt := topS 16
abbrev ps_summed : List Str := ["weights", "other", "factor"]
abbrev ns_summed : List Str := ["weights", "other", "factor", "table", "row", "others", "x", "y"]
theorem sc_summed : FnScope ns_summed ps_summed (defScope st_summed) := ⟨rfl, rfl, rfl, by decide +kernel, rfl, by decide +kernel, by decide +kernel⟩
abbrev st_multiple : Stmt := topS 17
abbrev ps_multiple : List Str := ["weights", "factor"]
abbrev ns_multiple : List Str := ["weights", "factor", "row", "number"]
theorem sc_multiple : FnScope ns_multiple ps_multiple (defScope st_multiple) := ⟨rfl, rfl, rfl, by decide +kernel, rfl, by decide +kernel, by decide +kernel⟩
abbrev st_Weights_init : Stmt := inClass (topS 18) 0
abbrev ps_Weights_init : List Str := ["self", "period", "modulus", "table"]
abbrev ns_Weights_init : List Str := ["self", "period", "modulus", "table", "row", "number"]
theorem sc_Weights_init : FnScope ns_Weights_init ps_Weights_init (defScope st_Weights_init) := ⟨rfl, rfl, rfl, by decide +kernel, rfl, by decide +kernel, by decide +kernel⟩
abbrev st_Weights_value : Stmt := inClass (topS 18) 1
abbrev ps_Weights_value : List Str := ["self", "row"]
abbrev ns_Weights_value : List Str := ["self", "row", "total", "place", "sign", "kind"]
theorem sc_Weights_value : FnScope ns_Weights_value ps_Weights_value (defScope st_Weights_value) := ⟨rfl, rfl, rfl, by decide +kernel, rfl, by decide +kernel, by decide +kernel⟩
abbrev st_Weights_is_kept : Stmt := inClass (topS 18) 2
abbrev ps_Weights_is_kept : List Str := ["self", "card"]
abbrev ns_Weights_is_kept : List Str := ["self", "card"]
theorem sc_Weights_is_kept : FnScope ns_Weights_is_kept ps_Weights_is_kept (defScope st_Weights_is_kept) := ⟨rfl, rfl, rfl, by decide +kernel, rfl, by decide +kernel, by decide +kernel⟩
abbrev st_Weights_falls : Stmt := inClass (topS 18) 3
abbrev ps_Weights_falls : List Str := ["self", "card"]
abbrev ns_Weights_falls : List Str := ["self", "card"]
theorem sc_Weights_falls : FnScope ns_Weights_falls ps_Weights_falls (defScope st_Weights_falls) := ⟨rfl, rfl, rfl, by decide +kernel, rfl, by decide +kernel, by decide +kernel⟩
abbrev st_Weights_add : Stmt := inClass (topS 18) 4
abbrev ps_Weights_add : List Str := ["self", "other"]
abbrev ns_Weights_add : List Str := ["self", "other"]
theorem sc_Weights_add : FnScope ns_Weights_add ps_Weights_add (defScope st_Weights_add) := ⟨rfl, rfl, rfl, by decide +kernel, rfl, by decide +kernel, by decide +kernel⟩
abbrev st_Weights_sub : Stmt := inClass (topS 18) 5
abbrev ps_Weights_sub : List Str := ["self", "other"]
abbrev ns_Weights_sub : List Str := ["self", "other"]
theorem sc_Weights_sub : FnScope ns_Weights_sub ps_Weights_sub (defScope st_Weights_sub) := ⟨rfl, rfl, rfl, by decide +kernel, rfl, by decide +kernel, by decide +kernel⟩
abbrev st_Weights_neg : Stmt := inClass (topS 18) 6
abbrev ps_Weights_neg : List Str := ["self"]
abbrev ns_Weights_neg : List Str := ["self"]
theorem sc_Weights_neg : FnScope ns_Weights_neg ps_Weights_neg (defScope st_Weights_neg) := ⟨rfl, rfl, rfl, by decide +kernel, rfl, by decide +kernel, by decide +kernel⟩
abbrev st_Weights_mul : Stmt := inClass (topS 18) 7
abbrev ps_Weights_mul : List Str := ["self", "number"]
abbrev ns_Weights_mul : List Str := ["self", "number"]
theorem sc_Weights_mul : FnScope ns_Weights_mul ps_Weights_mul (defScope st_Weights_mul) := ⟨rfl, rfl, rfl, by decide +kernel, rfl, by decide +kernel, by decide +kernel⟩
abbrev st_Weights_eq : Stmt := inClass (topS 18) 8
abbrev ps_Weights_eq : List Str := ["self", "other"]
abbrev ns_Weights_eq : List Str := ["self", "other"]
theorem sc_Weights_eq : FnScope ns_Weights_eq ps_Weights_eq (defScope st_Weights_eq) := ⟨rfl, rfl, rfl, by decide +kernel, rfl, by decide +kernel, by decide +kernel⟩
abbrev st_law_cell : Stmt := topS 20
abbrev ps_law_cell : List Str := ["script", "k"]
abbrev ns_law_cell : List Str := ["script", "k"]
theorem sc_law_cell : FnScope ns_law_cell ps_law_cell (defScope st_law_cell) := ⟨rfl, rfl, rfl, by decide +kernel, rfl, by decide +kernel, by decide +kernel⟩
abbrev st_law_box : Stmt := topS 21
abbrev ps_law_box : List Str := ["script", "k"]
abbrev ns_law_box : List Str := ["script", "k", "cell", "great"]
theorem sc_law_box : FnScope ns_law_box ps_law_box (defScope st_law_box) := ⟨rfl, rfl, rfl, by decide +kernel, rfl, by decide +kernel, by decide +kernel⟩
abbrev st_law_take : Stmt := topS 22
abbrev ps_law_take : List Str := ["box", "size"]
abbrev ns_law_take : List Str := ["box", "size", "mixed", "twice", "digit"]
theorem sc_law_take : FnScope ns_law_take ps_law_take (defScope st_law_take) := ⟨rfl, rfl, rfl, by decide +kernel, rfl, by decide +kernel, by decide +kernel⟩
abbrev st_law_is_integer : Stmt := topS 23
abbrev ps_law_is_integer : List Str := ["actual"]
abbrev ns_law_is_integer : List Str := ["actual"]
theorem sc_law_is_integer : FnScope ns_law_is_integer ps_law_is_integer (defScope st_law_is_integer) := ⟨rfl, rfl, rfl, by decide +kernel, rfl, by decide +kernel, by decide +kernel⟩
abbrev st_law_kind : Stmt := topS 24
abbrev ps_law_kind : List Str := ["sign"]
abbrev ns_law_kind : List Str := ["sign"]
theorem sc_law_kind : FnScope ns_law_kind ps_law_kind (defScope st_law_kind) := ⟨rfl, rfl, rfl, by decide +kernel, rfl, by decide +kernel, by decide +kernel⟩
abbrev st_law_reduced : Stmt := topS 25
abbrev ps_law_reduced : List Str := ["total", "base"]
abbrev ns_law_reduced : List Str := ["total", "base"]
theorem sc_law_reduced : FnScope ns_law_reduced ps_law_reduced (defScope st_law_reduced) := ⟨rfl, rfl, rfl, by decide +kernel, rfl, by decide +kernel, by decide +kernel⟩
abbrev st_law_sum : Stmt := topS 26
abbrev ps_law_sum : List Str := ["grid", "span", "line", "start"]
abbrev ns_law_sum : List Str := ["grid", "span", "line", "start", "total", "i", "kind"]
theorem sc_law_sum : FnScope ns_law_sum ps_law_sum (defScope st_law_sum) := ⟨rfl, rfl, rfl, by decide +kernel, rfl, by decide +kernel, by decide +kernel⟩
abbrev st_law_line : Stmt := topS 27
abbrev ps_law_line : List Str := ["box", "signs", "many"]
abbrev ns_law_line : List Str := ["box", "signs", "many", "line", "k"]
theorem sc_law_line : FnScope ns_law_line ps_law_line (defScope st_law_line) := ⟨rfl, rfl, rfl, by decide +kernel, rfl, by decide +kernel, by decide +kernel⟩
abbrev st_law_is_weights : Stmt := topS 28
abbrev ps_law_is_weights : List Str := ["actual", "span", "base", "grid"]
abbrev ns_law_is_weights : List Str := ["actual", "span", "base", "grid", "k", "entries", "i"]
theorem sc_law_is_weights : FnScope ns_law_is_weights ps_law_is_weights (defScope st_law_is_weights) := ⟨rfl, rfl, rfl, by decide +kernel, rfl, by decide +kernel, by decide +kernel⟩
abbrev st_law_entry : Stmt := topS 29
abbrev ps_law_entry : List Str := ["box", "scale"]
abbrev ns_law_entry : List Str := ["box", "scale", "number"]
theorem sc_law_entry : FnScope ns_law_entry ps_law_entry (defScope st_law_entry) := ⟨rfl, rfl, rfl, by decide +kernel, rfl, by decide +kernel, by decide +kernel⟩
abbrev st_law_grid : Stmt := topS 30
abbrev ps_law_grid : List Str := ["box", "span", "many", "scale"]
abbrev ns_law_grid : List Str := ["box", "span", "many", "scale", "grid", "k", "i"]
theorem sc_law_grid : FnScope ns_law_grid ps_law_grid (defScope st_law_grid) := ⟨rfl, rfl, rfl, by decide +kernel, rfl, by decide +kernel, by decide +kernel⟩
abbrev st_law_copy : Stmt := topS 31
abbrev ps_law_copy : List Str := ["grid"]
abbrev ns_law_copy : List Str := ["grid", "entries"]
theorem sc_law_copy : FnScope ns_law_copy ps_law_copy (defScope st_law_copy) := ⟨rfl, rfl, rfl, by decide +kernel, rfl, by decide +kernel, by decide +kernel⟩
abbrev st_law_refuses : Stmt := topS 32
abbrev ps_law_refuses : List Str := ["span", "base", "grid", "due"]
abbrev ns_law_refuses : List Str := ["span", "base", "grid", "due", "raised"]
theorem sc_law_refuses : FnScope ns_law_refuses ps_law_refuses (defScope st_law_refuses) := ⟨rfl, rfl, rfl, by decide +kernel, rfl, by decide +kernel, by decide +kernel⟩
abbrev st_law_bad_grid : Stmt := topS 33
abbrev ps_law_bad_grid : List Str := ["box", "span", "grid"]
abbrev ns_law_bad_grid : List Str := ["box", "span", "grid", "bad", "fault", "place", "k", "entries"]
theorem sc_law_bad_grid : FnScope ns_law_bad_grid ps_law_bad_grid (defScope st_law_bad_grid) := ⟨rfl, rfl, rfl, by decide +kernel, rfl, by decide +kernel, by decide +kernel⟩
abbrev st_law_bad_arguments : Stmt := topS 34
abbrev ps_law_bad_arguments : List Str := ["box", "span", "base", "grid"]
abbrev ns_law_bad_arguments : List Str := ["box", "span", "base", "grid", "flags", "due", "kept", "wrong"]
theorem sc_law_bad_arguments : FnScope ns_law_bad_arguments ps_law_bad_arguments (defScope st_law_bad_arguments) := ⟨rfl, rfl, rfl, by decide +kernel, rfl, by decide +kernel, by decide +kernel⟩
abbrev st_law_bad_row : Stmt := topS 35
abbrev ps_law_bad_row : List Str := ["one", "line", "bad", "due"]
abbrev ns_law_bad_row : List Str := ["one", "line", "bad", "due", "raised", "actual"]
theorem sc_law_bad_row : FnScope ns_law_bad_row ps_law_bad_row (defScope st_law_bad_row) := ⟨rfl, rfl, rfl, by decide +kernel, rfl, by decide +kernel, by decide +kernel⟩
abbrev st_law_rows : Stmt := topS 36
abbrev ps_law_rows : List Str := ["script", "k", "one", "world"]
abbrev ns_law_rows : List Str := ["script", "k", "one", "world", "box", "many", "signs", "size", "at", "odd", "beyond", "sign", "factor", "line", "total", "actual", "more"]
theorem sc_law_rows : FnScope ns_law_rows ps_law_rows (defScope st_law_rows) := ⟨rfl, rfl, rfl, by decide +kernel, rfl, by decide +kernel, by decide +kernel⟩
abbrev st_law_joined : Stmt := topS 37
abbrev ps_law_joined : List Str := ["script", "one", "world", "second"]
abbrev ns_law_joined : List Str := ["script", "one", "world", "second", "box", "span", "base", "many", "other", "factor", "plus", "less", "times", "minus", "line", "both", "actual", "k", "i"]
theorem sc_law_joined : FnScope ns_law_joined ps_law_joined (defScope st_law_joined) := ⟨rfl, rfl, rfl, by decide +kernel, rfl, by decide +kernel, by decide +kernel⟩
abbrev st_law_equal : Stmt := topS 38
abbrev ps_law_equal : List Str := ["script", "one", "world"]
abbrev ns_law_equal : List Str := ["script", "one", "world", "box", "same", "near", "changed", "place", "shift", "other", "entries", "entry"]
theorem sc_law_equal : FnScope ns_law_equal ps_law_equal (defScope st_law_equal) := ⟨rfl, rfl, rfl, by decide +kernel, rfl, by decide +kernel, by decide +kernel⟩
abbrev st_law_gives_up : Stmt := topS 39
abbrev ps_law_gives_up : List Str := ["one", "strange", "minus", "parts"]
abbrev ns_law_gives_up : List Str := ["one", "strange", "minus", "parts", "raised", "unused"]
theorem sc_law_gives_up : FnScope ns_law_gives_up ps_law_gives_up (defScope st_law_gives_up) := ⟨rfl, rfl, rfl, by decide +kernel, rfl, by decide +kernel, by decide +kernel⟩
abbrev st_law_unlike : Stmt := topS 40
abbrev ps_law_unlike : List Str := ["script", "one", "world"]
abbrev ns_law_unlike : List Str := ["script", "one", "world", "box", "flags", "span", "base", "many", "parts", "strange"]
theorem sc_law_unlike : FnScope ns_law_unlike ps_law_unlike (defScope st_law_unlike) := ⟨rfl, rfl, rfl, by decide +kernel, rfl, by decide +kernel, by decide +kernel⟩
abbrev st_law : Stmt := topS 41
abbrev ps_law : List Str := ["script"]
abbrev ns_law : List Str := ["script", "box", "span", "base", "many", "grid", "second", "handed", "one", "world", "changed", "k", "entries"]
theorem sc_law : FnScope ns_law ps_law (defScope st_law) := ⟨rfl, rfl, rfl, by decide +kernel, rfl, by decide +kernel, by decide +kernel⟩
def d_wall : He5.DefA := ⟨fun K => He.ga K "_wall", "_wall", "_wall", defArgs st_wall, defBody st_wall, defScope st_wall, [], []⟩
def d_InvalidRow_init : He5.DefA := ⟨fun K => He.ma K (He.ga K "InvalidRow") "__init__", "__init__", "InvalidRow.__init__", defArgs st_InvalidRow_init, defBody st_InvalidRow_init, defScope st_InvalidRow_init, [], []⟩
def d_InvalidWeight_init : He5.DefA := ⟨fun K => He.ma K (He.ga K "InvalidWeight") "__init__", "__init__", "InvalidWeight.__init__", defArgs st_InvalidWeight_init, defBody st_InvalidWeight_init, defScope st_InvalidWeight_init, [], []⟩
def d_check_row : He5.DefA := ⟨fun K => He.ga K "check_row", "check_row", "check_row", defArgs st_check_row, defBody st_check_row, defScope st_check_row, [.str "#.:ABCDabcd"], []⟩
def d_unmarked : He5.DefA := ⟨fun K => He.ga K "unmarked", "unmarked", "unmarked", defArgs st_unmarked, defBody st_unmarked, defScope st_unmarked, [], []⟩
def d_check_period : He5.DefA := ⟨fun K => He.ga K "check_period", "check_period", "check_period", defArgs st_check_period, defBody st_check_period, defScope st_check_period, [], []⟩
def d_is_table : He5.DefA := ⟨fun K => He.ga K "is_table", "is_table", "is_table", defArgs st_is_table, defBody st_is_table, defScope st_is_table, [], []⟩
def d_remainder : He5.DefA := ⟨fun K => He.ga K "remainder", "remainder", "remainder", defArgs st_remainder, defBody st_remainder, defScope st_remainder, [], []⟩
def d_summed : He5.DefA := ⟨fun K => He.ga K "summed", "summed", "summed", defArgs st_summed, defBody st_summed, defScope st_summed, [], []⟩
def d_multiple : He5.DefA := ⟨fun K => He.ga K "multiple", "multiple", "multiple", defArgs st_multiple, defBody st_multiple, defScope st_multiple, [], []⟩
def d_Weights_init : He5.DefA := ⟨fun K => He.ma K (He.ga K "Weights") "__init__", "__init__", "Weights.__init__", defArgs st_Weights_init, defBody st_Weights_init, defScope st_Weights_init, [], []⟩
def d_Weights_value : He5.DefA := ⟨fun K => He.ma K (He.ga K "Weights") "value", "value", "Weights.value", defArgs st_Weights_value, defBody st_Weights_value, defScope st_Weights_value, [], []⟩
def d_Weights_is_kept : He5.DefA := ⟨fun K => He.ma K (He.ga K "Weights") "is_kept", "is_kept", "Weights.is_kept", defArgs st_Weights_is_kept, defBody st_Weights_is_kept, defScope st_Weights_is_kept, [], []⟩
def d_Weights_falls : He5.DefA := ⟨fun K => He.ma K (He.ga K "Weights") "falls", "falls", "Weights.falls", defArgs st_Weights_falls, defBody st_Weights_falls, defScope st_Weights_falls, [], []⟩
def d_Weights_add : He5.DefA := ⟨fun K => He.ma K (He.ga K "Weights") "__add__", "__add__", "Weights.__add__", defArgs st_Weights_add, defBody st_Weights_add, defScope st_Weights_add, [], []⟩
def d_Weights_sub : He5.DefA := ⟨fun K => He.ma K (He.ga K "Weights") "__sub__", "__sub__", "Weights.__sub__", defArgs st_Weights_sub, defBody st_Weights_sub, defScope st_Weights_sub, [], []⟩
def d_Weights_neg : He5.DefA := ⟨fun K => He.ma K (He.ga K "Weights") "__neg__", "__neg__", "Weights.__neg__", defArgs st_Weights_neg, defBody st_Weights_neg, defScope st_Weights_neg, [], []⟩
def d_Weights_mul : He5.DefA := ⟨fun K => He.ma K (He.ga K "Weights") "__mul__", "__mul__", "Weights.__mul__", defArgs st_Weights_mul, defBody st_Weights_mul, defScope st_Weights_mul, [], []⟩
def d_Weights_eq : He5.DefA := ⟨fun K => He.ma K (He.ga K "Weights") "__eq__", "__eq__", "Weights.__eq__", defArgs st_Weights_eq, defBody st_Weights_eq, defScope st_Weights_eq, [], []⟩
def d_law_cell : He5.DefA := ⟨fun K => He.ga K "_law_cell", "_law_cell", "_law_cell", defArgs st_law_cell, defBody st_law_cell, defScope st_law_cell, [], []⟩
def d_law_box : He5.DefA := ⟨fun K => He.ga K "_law_box", "_law_box", "_law_box", defArgs st_law_box, defBody st_law_box, defScope st_law_box, [], []⟩
def d_law_take : He5.DefA := ⟨fun K => He.ga K "_law_take", "_law_take", "_law_take", defArgs st_law_take, defBody st_law_take, defScope st_law_take, [], []⟩
def d_law_is_integer : He5.DefA := ⟨fun K => He.ga K "_law_is_integer", "_law_is_integer", "_law_is_integer", defArgs st_law_is_integer, defBody st_law_is_integer, defScope st_law_is_integer, [], []⟩
def d_law_kind : He5.DefA := ⟨fun K => He.ga K "_law_kind", "_law_kind", "_law_kind", defArgs st_law_kind, defBody st_law_kind, defScope st_law_kind, [], []⟩
def d_law_reduced : He5.DefA := ⟨fun K => He.ga K "_law_reduced", "_law_reduced", "_law_reduced", defArgs st_law_reduced, defBody st_law_reduced, defScope st_law_reduced, [], []⟩
def d_law_sum : He5.DefA := ⟨fun K => He.ga K "_law_sum", "_law_sum", "_law_sum", defArgs st_law_sum, defBody st_law_sum, defScope st_law_sum, [], []⟩
def d_law_line : He5.DefA := ⟨fun K => He.ga K "_law_line", "_law_line", "_law_line", defArgs st_law_line, defBody st_law_line, defScope st_law_line, [], []⟩
def d_law_is_weights : He5.DefA := ⟨fun K => He.ga K "_law_is_weights", "_law_is_weights", "_law_is_weights", defArgs st_law_is_weights, defBody st_law_is_weights, defScope st_law_is_weights, [], []⟩
def d_law_entry : He5.DefA := ⟨fun K => He.ga K "_law_entry", "_law_entry", "_law_entry", defArgs st_law_entry, defBody st_law_entry, defScope st_law_entry, [], []⟩
def d_law_grid : He5.DefA := ⟨fun K => He.ga K "_law_grid", "_law_grid", "_law_grid", defArgs st_law_grid, defBody st_law_grid, defScope st_law_grid, [], []⟩
def d_law_copy : He5.DefA := ⟨fun K => He.ga K "_law_copy", "_law_copy", "_law_copy", defArgs st_law_copy, defBody st_law_copy, defScope st_law_copy, [], []⟩
def d_law_refuses : He5.DefA := ⟨fun K => He.ga K "_law_refuses", "_law_refuses", "_law_refuses", defArgs st_law_refuses, defBody st_law_refuses, defScope st_law_refuses, [], []⟩
def d_law_bad_grid : He5.DefA := ⟨fun K => He.ga K "_law_bad_grid", "_law_bad_grid", "_law_bad_grid", defArgs st_law_bad_grid, defBody st_law_bad_grid, defScope st_law_bad_grid, [], []⟩
def d_law_bad_arguments : He5.DefA := ⟨fun K => He.ga K "_law_bad_arguments", "_law_bad_arguments", "_law_bad_arguments", defArgs st_law_bad_arguments, defBody st_law_bad_arguments, defScope st_law_bad_arguments, [], []⟩
def d_law_bad_row : He5.DefA := ⟨fun K => He.ga K "_law_bad_row", "_law_bad_row", "_law_bad_row", defArgs st_law_bad_row, defBody st_law_bad_row, defScope st_law_bad_row, [], []⟩
def d_law_rows : He5.DefA := ⟨fun K => He.ga K "_law_rows", "_law_rows", "_law_rows", defArgs st_law_rows, defBody st_law_rows, defScope st_law_rows, [], []⟩
def d_law_joined : He5.DefA := ⟨fun K => He.ga K "_law_joined", "_law_joined", "_law_joined", defArgs st_law_joined, defBody st_law_joined, defScope st_law_joined, [], []⟩
def d_law_equal : He5.DefA := ⟨fun K => He.ga K "_law_equal", "_law_equal", "_law_equal", defArgs st_law_equal, defBody st_law_equal, defScope st_law_equal, [], []⟩
def d_law_gives_up : He5.DefA := ⟨fun K => He.ga K "_law_gives_up", "_law_gives_up", "_law_gives_up", defArgs st_law_gives_up, defBody st_law_gives_up, defScope st_law_gives_up, [], []⟩
def d_law_unlike : He5.DefA := ⟨fun K => He.ga K "_law_unlike", "_law_unlike", "_law_unlike", defArgs st_law_unlike, defBody st_law_unlike, defScope st_law_unlike, [], []⟩
def d_law : He5.DefA := ⟨fun K => He.ga K "law", "law", "law", defArgs st_law, defBody st_law, defScope st_law, [], []⟩
def fn : List He5.DefA := [d_wall, d_InvalidRow_init, d_InvalidWeight_init, d_check_row, d_unmarked, d_check_period, d_is_table, d_remainder, d_summed, d_multiple, d_Weights_init, d_Weights_value, d_Weights_is_kept, d_Weights_falls, d_Weights_add, d_Weights_sub, d_Weights_neg, d_Weights_mul, d_Weights_eq, d_law_cell, d_law_box, d_law_take, d_law_is_integer, d_law_kind, d_law_reduced, d_law_sum, d_law_line, d_law_is_weights, d_law_entry, d_law_grid, d_law_copy, d_law_refuses, d_law_bad_grid, d_law_bad_arguments, d_law_bad_row, d_law_rows, d_law_joined, d_law_equal, d_law_gives_up, d_law_unlike, d_law]
def fa : List He.Fa := [.glo "_wall", .glo "LeapError", .glo "InvalidRow", .glo "InvalidWeight", .str "SIGNS" "#.:ABCDabcd", .str "KINDS" "abcd", .glo "check_row", .glo "unmarked", .int "MOST_PERIOD" 12, .int "MOST_MODULUS" 97, .glo "check_period", .glo "is_table", .glo "remainder", .glo "summed", .glo "multiple", .glo "Weights", .glo "_law_cell", .glo "_law_box", .glo "_law_take", .glo "_law_is_integer", .glo "_law_kind", .glo "_law_reduced", .glo "_law_sum", .glo "_law_line", .glo "_law_is_weights", .glo "_law_entry", .glo "_law_grid", .glo "_law_copy", .glo "_law_refuses", .glo "_law_bad_grid", .glo "_law_bad_arguments", .glo "_law_bad_row", .glo "_law_rows", .glo "_law_joined", .glo "_law_equal", .glo "_law_gives_up", .glo "_law_unlike", .glo "law", .cls "Weights", .mkr "Weights", .noat "Weights" "period", .noat "Weights" "modulus", .noat "Weights" "table", .meth "Weights" "value", .meth "Weights" "is_kept", .meth "Weights" "falls", .meth "Weights" "__add__", .meth "Weights" "__sub__", .meth "Weights" "__neg__", .meth "Weights" "__mul__", .meth "Weights" "__eq__", .free "len", .free "range", .free "enumerate", .free "zip", .free "min", .free "max", .free "sum", .free "int", .free "bool", .free "list", .free "tuple", .free "isinstance", .free "all", .free "ValueError"]
def ts : List He.Tab := []
def exs (K : PySem.W.Frag) : List Bool := [topB K, errB K "InvalidRow" "row", errB K "InvalidWeight" "part", kitB K "InvalidRow" "InvalidRow" true, kitB K "InvalidRow" "InvalidWeight" false, kitB K "InvalidRow" "Weights" false, kitB K "InvalidWeight" "InvalidRow" false, kitB K "InvalidWeight" "InvalidWeight" true, kitB K "InvalidWeight" "Weights" false, kitB K "Weights" "Weights" true, clsB K "Weights", excB K (He.ga K "InvalidRow"), excB K (He.ga K "InvalidWeight"), kitB K "InvalidRow" "LeapError" true, kitB K "InvalidWeight" "LeapError" true, decide (PySem.W.kitOne K (.ref (He.ga K "InvalidWeight")) (.type "ValueError") = some true), PySem.W.selfFirst K (He.ga K "Weights"), decide (PySem.W.findIn K (.ref (He.ga K "Weights")) "__rmul__" = some none), (PySem.W.findIn K (.type "int") "__mul__").isSome, (PySem.W.findIn K (.type "int") "__rmul__").isSome, decide (PySem.W.subIn K (.type "int") (.ref (He.ga K "Weights")) = some false), decide (PySem.W.exmOne K (.ref (He.ga K "InvalidWeight")) (.ref (He.ga K "InvalidWeight")) = some true), decide (PySem.W.exmOne K (.ref (He.ga K "InvalidRow")) (.ref (He.ga K "InvalidRow")) = some true)]
def ex (K : PySem.W.Frag) : Bool := (exs K).all id
def names0 : List PySem.Str := ["_wall", "LeapError", "InvalidRow", "InvalidWeight", "SIGNS", "KINDS", "check_row", "unmarked", "MOST_PERIOD", "MOST_MODULUS", "check_period", "is_table", "remainder", "summed"]
def names1 : List PySem.Str := ["multiple", "Weights", "_law_cell", "_law_box", "_law_take", "_law_is_integer", "_law_kind", "_law_reduced", "_law_sum", "_law_line", "_law_is_weights", "_law_entry", "_law_grid", "_law_copy"]
def names2 : List PySem.Str := ["_law_refuses", "_law_bad_grid", "_law_bad_arguments", "_law_bad_row", "_law_rows", "_law_joined", "_law_equal", "_law_gives_up", "_law_unlike"]
def names : List PySem.Str := names0 ++ names1 ++ names2
abbrev hk : PySem.W.Hook := hookM 5 fa fn ts ex
def ob (s : PySem.W.SharedT) : AlE := obsEG 5 fa fn ts ex (HandSHeadRun.getT s)
theorem ob_eq (s : PySem.W.SharedT) : ob s = hk.obs s.abs := obsEG_eq (HandSHeadRun.getT_eq s)
theorem run0 (w : World) : HandSHeadRun.RunEq R (PySem.W.view R.prog [41]) hk ob 24000 names (w.withFollow "special-get-raises" false) := by
  intro os
  kernel_rfl
theorem run1 (w : World) : HandSHeadRun.RunEq R (PySem.W.view R.prog [41]) hk ob 24000 names (w.withFollow "special-get-raises" true) := by
  intro os
  kernel_rfl
theorem run (w : World) : HandSHeadRun.RunEq R (PySem.W.view R.prog [41]) hk ob 24000 names w := PySem.W.byRow2 "special-get-raises" (P := fun w => HandSHeadRun.RunEq R (PySem.W.view R.prog [41]) hk ob 24000 names w) run0 run1 w
end K54
namespace K54
open PySem PySem.Spec PyProof.Rows L2 Lc
structure Tx (K : PySem.W.Frag) (mg : Str → Option Value) (w : World) : Prop where
  mk ::
  h : ∃ hp : Heap, K.In hp ∧ hp.Ns mainGlobals mg
  c : SaysM fa fn ts ex w K
section
variable {K : PySem.W.Frag} {mg : Str → Option Value} {w : World}
theorem m_wall (T : Tx K mg w) : mg "_wall" = some (.ref (He.ga K "_wall")) := by obtain ⟨⟨hp, X, G⟩, c⟩ := T; exact He.glo_ok X G (c.a.fact 0 (f := .glo "_wall") rfl)
theorem m_LeapError (T : Tx K mg w) : mg "LeapError" = some (.ref (He.ga K "LeapError")) := by obtain ⟨⟨hp, X, G⟩, c⟩ := T; exact He.glo_ok X G (c.a.fact 1 (f := .glo "LeapError") rfl)
theorem m_InvalidRow (T : Tx K mg w) : mg "InvalidRow" = some (.ref (He.ga K "InvalidRow")) := by obtain ⟨⟨hp, X, G⟩, c⟩ := T; exact He.glo_ok X G (c.a.fact 2 (f := .glo "InvalidRow") rfl)
theorem m_InvalidWeight (T : Tx K mg w) : mg "InvalidWeight" = some (.ref (He.ga K "InvalidWeight")) := by obtain ⟨⟨hp, X, G⟩, c⟩ := T; exact He.glo_ok X G (c.a.fact 3 (f := .glo "InvalidWeight") rfl)
theorem m_SIGNS (T : Tx K mg w) : ∃ t, mg "SIGNS" = some (.str "#.:ABCDabcd" t) := by obtain ⟨⟨hp, X, G⟩, c⟩ := T; exact He.str_ok X G (c.a.fact 4 (f := .str "SIGNS" "#.:ABCDabcd") rfl)
theorem m_KINDS (T : Tx K mg w) : ∃ t, mg "KINDS" = some (.str "abcd" t) := by obtain ⟨⟨hp, X, G⟩, c⟩ := T; exact He.str_ok X G (c.a.fact 5 (f := .str "KINDS" "abcd") rfl)
theorem m_check_row (T : Tx K mg w) : mg "check_row" = some (.ref (He.ga K "check_row")) := by obtain ⟨⟨hp, X, G⟩, c⟩ := T; exact He.glo_ok X G (c.a.fact 6 (f := .glo "check_row") rfl)
theorem m_unmarked (T : Tx K mg w) : mg "unmarked" = some (.ref (He.ga K "unmarked")) := by obtain ⟨⟨hp, X, G⟩, c⟩ := T; exact He.glo_ok X G (c.a.fact 7 (f := .glo "unmarked") rfl)
theorem m_MOST_PERIOD (T : Tx K mg w) : ∃ t, mg "MOST_PERIOD" = some (.int 12 t) := by obtain ⟨⟨hp, X, G⟩, c⟩ := T; exact He.int_ok X G (c.a.fact 8 (f := .int "MOST_PERIOD" 12) rfl)
theorem m_MOST_MODULUS (T : Tx K mg w) : ∃ t, mg "MOST_MODULUS" = some (.int 97 t) := by obtain ⟨⟨hp, X, G⟩, c⟩ := T; exact He.int_ok X G (c.a.fact 9 (f := .int "MOST_MODULUS" 97) rfl)
theorem m_check_period (T : Tx K mg w) : mg "check_period" = some (.ref (He.ga K "check_period")) := by obtain ⟨⟨hp, X, G⟩, c⟩ := T; exact He.glo_ok X G (c.a.fact 10 (f := .glo "check_period") rfl)
theorem m_is_table (T : Tx K mg w) : mg "is_table" = some (.ref (He.ga K "is_table")) := by obtain ⟨⟨hp, X, G⟩, c⟩ := T; exact He.glo_ok X G (c.a.fact 11 (f := .glo "is_table") rfl)
theorem m_remainder (T : Tx K mg w) : mg "remainder" = some (.ref (He.ga K "remainder")) := by obtain ⟨⟨hp, X, G⟩, c⟩ := T; exact He.glo_ok X G (c.a.fact 12 (f := .glo "remainder") rfl)
theorem m_summed (T : Tx K mg w) : mg "summed" = some (.ref (He.ga K "summed")) := by obtain ⟨⟨hp, X, G⟩, c⟩ := T; exact He.glo_ok X G (c.a.fact 13 (f := .glo "summed") rfl)
theorem m_multiple (T : Tx K mg w) : mg "multiple" = some (.ref (He.ga K "multiple")) := by obtain ⟨⟨hp, X, G⟩, c⟩ := T; exact He.glo_ok X G (c.a.fact 14 (f := .glo "multiple") rfl)
theorem m_Weights (T : Tx K mg w) : mg "Weights" = some (.ref (He.ga K "Weights")) := by obtain ⟨⟨hp, X, G⟩, c⟩ := T; exact He.glo_ok X G (c.a.fact 15 (f := .glo "Weights") rfl)
theorem m_law_cell (T : Tx K mg w) : mg "_law_cell" = some (.ref (He.ga K "_law_cell")) := by obtain ⟨⟨hp, X, G⟩, c⟩ := T; exact He.glo_ok X G (c.a.fact 16 (f := .glo "_law_cell") rfl)
theorem m_law_box (T : Tx K mg w) : mg "_law_box" = some (.ref (He.ga K "_law_box")) := by obtain ⟨⟨hp, X, G⟩, c⟩ := T; exact He.glo_ok X G (c.a.fact 17 (f := .glo "_law_box") rfl)
theorem m_law_take (T : Tx K mg w) : mg "_law_take" = some (.ref (He.ga K "_law_take")) := by obtain ⟨⟨hp, X, G⟩, c⟩ := T; exact He.glo_ok X G (c.a.fact 18 (f := .glo "_law_take") rfl)
theorem m_law_is_integer (T : Tx K mg w) : mg "_law_is_integer" = some (.ref (He.ga K "_law_is_integer")) := by obtain ⟨⟨hp, X, G⟩, c⟩ := T; exact He.glo_ok X G (c.a.fact 19 (f := .glo "_law_is_integer") rfl)
theorem m_law_kind (T : Tx K mg w) : mg "_law_kind" = some (.ref (He.ga K "_law_kind")) := by obtain ⟨⟨hp, X, G⟩, c⟩ := T; exact He.glo_ok X G (c.a.fact 20 (f := .glo "_law_kind") rfl)
theorem m_law_reduced (T : Tx K mg w) : mg "_law_reduced" = some (.ref (He.ga K "_law_reduced")) := by obtain ⟨⟨hp, X, G⟩, c⟩ := T; exact He.glo_ok X G (c.a.fact 21 (f := .glo "_law_reduced") rfl)
theorem m_law_sum (T : Tx K mg w) : mg "_law_sum" = some (.ref (He.ga K "_law_sum")) := by obtain ⟨⟨hp, X, G⟩, c⟩ := T; exact He.glo_ok X G (c.a.fact 22 (f := .glo "_law_sum") rfl)
theorem m_law_line (T : Tx K mg w) : mg "_law_line" = some (.ref (He.ga K "_law_line")) := by obtain ⟨⟨hp, X, G⟩, c⟩ := T; exact He.glo_ok X G (c.a.fact 23 (f := .glo "_law_line") rfl)
theorem m_law_is_weights (T : Tx K mg w) : mg "_law_is_weights" = some (.ref (He.ga K "_law_is_weights")) := by obtain ⟨⟨hp, X, G⟩, c⟩ := T; exact He.glo_ok X G (c.a.fact 24 (f := .glo "_law_is_weights") rfl)
theorem m_law_entry (T : Tx K mg w) : mg "_law_entry" = some (.ref (He.ga K "_law_entry")) := by obtain ⟨⟨hp, X, G⟩, c⟩ := T; exact He.glo_ok X G (c.a.fact 25 (f := .glo "_law_entry") rfl)
theorem m_law_grid (T : Tx K mg w) : mg "_law_grid" = some (.ref (He.ga K "_law_grid")) := by obtain ⟨⟨hp, X, G⟩, c⟩ := T; exact He.glo_ok X G (c.a.fact 26 (f := .glo "_law_grid") rfl)
theorem m_law_copy (T : Tx K mg w) : mg "_law_copy" = some (.ref (He.ga K "_law_copy")) := by obtain ⟨⟨hp, X, G⟩, c⟩ := T; exact He.glo_ok X G (c.a.fact 27 (f := .glo "_law_copy") rfl)
theorem m_law_refuses (T : Tx K mg w) : mg "_law_refuses" = some (.ref (He.ga K "_law_refuses")) := by obtain ⟨⟨hp, X, G⟩, c⟩ := T; exact He.glo_ok X G (c.a.fact 28 (f := .glo "_law_refuses") rfl)
theorem m_law_bad_grid (T : Tx K mg w) : mg "_law_bad_grid" = some (.ref (He.ga K "_law_bad_grid")) := by obtain ⟨⟨hp, X, G⟩, c⟩ := T; exact He.glo_ok X G (c.a.fact 29 (f := .glo "_law_bad_grid") rfl)
theorem m_law_bad_arguments (T : Tx K mg w) : mg "_law_bad_arguments" = some (.ref (He.ga K "_law_bad_arguments")) := by obtain ⟨⟨hp, X, G⟩, c⟩ := T; exact He.glo_ok X G (c.a.fact 30 (f := .glo "_law_bad_arguments") rfl)
theorem m_law_bad_row (T : Tx K mg w) : mg "_law_bad_row" = some (.ref (He.ga K "_law_bad_row")) := by obtain ⟨⟨hp, X, G⟩, c⟩ := T; exact He.glo_ok X G (c.a.fact 31 (f := .glo "_law_bad_row") rfl)
theorem m_law_rows (T : Tx K mg w) : mg "_law_rows" = some (.ref (He.ga K "_law_rows")) := by obtain ⟨⟨hp, X, G⟩, c⟩ := T; exact He.glo_ok X G (c.a.fact 32 (f := .glo "_law_rows") rfl)
theorem m_law_joined (T : Tx K mg w) : mg "_law_joined" = some (.ref (He.ga K "_law_joined")) := by obtain ⟨⟨hp, X, G⟩, c⟩ := T; exact He.glo_ok X G (c.a.fact 33 (f := .glo "_law_joined") rfl)
theorem m_law_equal (T : Tx K mg w) : mg "_law_equal" = some (.ref (He.ga K "_law_equal")) := by obtain ⟨⟨hp, X, G⟩, c⟩ := T; exact He.glo_ok X G (c.a.fact 34 (f := .glo "_law_equal") rfl)
theorem m_law_gives_up (T : Tx K mg w) : mg "_law_gives_up" = some (.ref (He.ga K "_law_gives_up")) := by obtain ⟨⟨hp, X, G⟩, c⟩ := T; exact He.glo_ok X G (c.a.fact 35 (f := .glo "_law_gives_up") rfl)
theorem m_law_unlike (T : Tx K mg w) : mg "_law_unlike" = some (.ref (He.ga K "_law_unlike")) := by obtain ⟨⟨hp, X, G⟩, c⟩ := T; exact He.glo_ok X G (c.a.fact 36 (f := .glo "_law_unlike") rfl)
theorem m_law (T : Tx K mg w) : mg "law" = some (.ref (He.ga K "law")) := by obtain ⟨⟨hp, X, G⟩, c⟩ := T; exact He.glo_ok X G (c.a.fact 37 (f := .glo "law") rfl)
theorem c_Weights (T : Tx K mg w) : Cls K (He.ga K "Weights") := He.cls_ok (T.c.a.fact 38 (f := .cls "Weights") rfl)
theorem mk_Weights (T : Tx K mg w) : Mk K (He.ga K "Weights") (He.ma K (He.ga K "Weights") "__init__") := He.mkr_ok (T.c.a.fact 39 (f := .mkr "Weights") rfl)
theorem n_Weights_period (T : Tx K mg w) : NoAttr K (He.ga K "Weights") "period" := He.noat_ok (T.c.a.fact 40 (f := .noat "Weights" "period") rfl)
theorem n_Weights_modulus (T : Tx K mg w) : NoAttr K (He.ga K "Weights") "modulus" := He.noat_ok (T.c.a.fact 41 (f := .noat "Weights" "modulus") rfl)
theorem n_Weights_table (T : Tx K mg w) : NoAttr K (He.ga K "Weights") "table" := He.noat_ok (T.c.a.fact 42 (f := .noat "Weights" "table") rfl)
theorem me_Weights_value (T : Tx K mg w) : Meth K (He.ga K "Weights") "value" (He.ma K (He.ga K "Weights") "value") := He.meth_ok (T.c.a.fact 43 (f := .meth "Weights" "value") rfl)
theorem me_Weights_is_kept (T : Tx K mg w) : Meth K (He.ga K "Weights") "is_kept" (He.ma K (He.ga K "Weights") "is_kept") := He.meth_ok (T.c.a.fact 44 (f := .meth "Weights" "is_kept") rfl)
theorem me_Weights_falls (T : Tx K mg w) : Meth K (He.ga K "Weights") "falls" (He.ma K (He.ga K "Weights") "falls") := He.meth_ok (T.c.a.fact 45 (f := .meth "Weights" "falls") rfl)
theorem me_Weights_add (T : Tx K mg w) : Meth K (He.ga K "Weights") "__add__" (He.ma K (He.ga K "Weights") "__add__") := He.meth_ok (T.c.a.fact 46 (f := .meth "Weights" "__add__") rfl)
theorem me_Weights_sub (T : Tx K mg w) : Meth K (He.ga K "Weights") "__sub__" (He.ma K (He.ga K "Weights") "__sub__") := He.meth_ok (T.c.a.fact 47 (f := .meth "Weights" "__sub__") rfl)
theorem me_Weights_neg (T : Tx K mg w) : Meth K (He.ga K "Weights") "__neg__" (He.ma K (He.ga K "Weights") "__neg__") := He.meth_ok (T.c.a.fact 48 (f := .meth "Weights" "__neg__") rfl)
theorem me_Weights_mul (T : Tx K mg w) : Meth K (He.ga K "Weights") "__mul__" (He.ma K (He.ga K "Weights") "__mul__") := He.meth_ok (T.c.a.fact 49 (f := .meth "Weights" "__mul__") rfl)
theorem me_Weights_eq (T : Tx K mg w) : Meth K (He.ga K "Weights") "__eq__" (He.ma K (He.ga K "Weights") "__eq__") := He.meth_ok (T.c.a.fact 50 (f := .meth "Weights" "__eq__") rfl)
theorem m_len (T : Tx K mg w) : mg "len" = none := by obtain ⟨⟨hp, X, G⟩, c⟩ := T; exact He.free_ok X G (c.a.fact 51 (f := .free "len") rfl)
theorem m_range (T : Tx K mg w) : mg "range" = none := by obtain ⟨⟨hp, X, G⟩, c⟩ := T; exact He.free_ok X G (c.a.fact 52 (f := .free "range") rfl)
theorem m_enumerate (T : Tx K mg w) : mg "enumerate" = none := by obtain ⟨⟨hp, X, G⟩, c⟩ := T; exact He.free_ok X G (c.a.fact 53 (f := .free "enumerate") rfl)
theorem m_zip (T : Tx K mg w) : mg "zip" = none := by obtain ⟨⟨hp, X, G⟩, c⟩ := T; exact He.free_ok X G (c.a.fact 54 (f := .free "zip") rfl)
theorem m_min (T : Tx K mg w) : mg "min" = none := by obtain ⟨⟨hp, X, G⟩, c⟩ := T; exact He.free_ok X G (c.a.fact 55 (f := .free "min") rfl)
theorem m_max (T : Tx K mg w) : mg "max" = none := by obtain ⟨⟨hp, X, G⟩, c⟩ := T; exact He.free_ok X G (c.a.fact 56 (f := .free "max") rfl)
theorem m_sum (T : Tx K mg w) : mg "sum" = none := by obtain ⟨⟨hp, X, G⟩, c⟩ := T; exact He.free_ok X G (c.a.fact 57 (f := .free "sum") rfl)
theorem m_int (T : Tx K mg w) : mg "int" = none := by obtain ⟨⟨hp, X, G⟩, c⟩ := T; exact He.free_ok X G (c.a.fact 58 (f := .free "int") rfl)
theorem m_bool (T : Tx K mg w) : mg "bool" = none := by obtain ⟨⟨hp, X, G⟩, c⟩ := T; exact He.free_ok X G (c.a.fact 59 (f := .free "bool") rfl)
theorem m_list (T : Tx K mg w) : mg "list" = none := by obtain ⟨⟨hp, X, G⟩, c⟩ := T; exact He.free_ok X G (c.a.fact 60 (f := .free "list") rfl)
theorem m_tuple (T : Tx K mg w) : mg "tuple" = none := by obtain ⟨⟨hp, X, G⟩, c⟩ := T; exact He.free_ok X G (c.a.fact 61 (f := .free "tuple") rfl)
theorem m_isinstance (T : Tx K mg w) : mg "isinstance" = none := by obtain ⟨⟨hp, X, G⟩, c⟩ := T; exact He.free_ok X G (c.a.fact 62 (f := .free "isinstance") rfl)
theorem m_all (T : Tx K mg w) : mg "all" = none := by obtain ⟨⟨hp, X, G⟩, c⟩ := T; exact He.free_ok X G (c.a.fact 63 (f := .free "all") rfl)
theorem m_ValueError (T : Tx K mg w) : mg "ValueError" = none := by obtain ⟨⟨hp, X, G⟩, c⟩ := T; exact He.free_ok X G (c.a.fact 64 (f := .free "ValueError") rfl)
theorem exAt (T : Tx K mg w) (i : Nat) {b : Bool} (h : (exs K)[i]? = some b) : b = true := List.all_eq_true.mp T.c.e b (List.mem_of_getElem? h)
theorem x_InvalidRow (T : Tx K mg w) : XF K "InvalidRow" "row" := errB_ok (exAt T 0 rfl) (exAt T 1 rfl)
theorem x_InvalidWeight (T : Tx K mg w) : XF K "InvalidWeight" "part" := errB_ok (exAt T 0 rfl) (exAt T 2 rfl)
theorem kit_InvalidRow_InvalidRow (T : Tx K mg w) : PySem.W.kitOne K (.ref (He.ga K "InvalidRow")) (.ref (He.ga K "InvalidRow")) = some true := kitB_ok (exAt T 3 rfl)
theorem kit_InvalidRow_InvalidWeight (T : Tx K mg w) : PySem.W.kitOne K (.ref (He.ga K "InvalidRow")) (.ref (He.ga K "InvalidWeight")) = some false := kitB_ok (exAt T 4 rfl)
theorem kit_InvalidRow_Weights (T : Tx K mg w) : PySem.W.kitOne K (.ref (He.ga K "InvalidRow")) (.ref (He.ga K "Weights")) = some false := kitB_ok (exAt T 5 rfl)
theorem kit_InvalidWeight_InvalidRow (T : Tx K mg w) : PySem.W.kitOne K (.ref (He.ga K "InvalidWeight")) (.ref (He.ga K "InvalidRow")) = some false := kitB_ok (exAt T 6 rfl)
theorem kit_InvalidWeight_InvalidWeight (T : Tx K mg w) : PySem.W.kitOne K (.ref (He.ga K "InvalidWeight")) (.ref (He.ga K "InvalidWeight")) = some true := kitB_ok (exAt T 7 rfl)
theorem kit_InvalidWeight_Weights (T : Tx K mg w) : PySem.W.kitOne K (.ref (He.ga K "InvalidWeight")) (.ref (He.ga K "Weights")) = some false := kitB_ok (exAt T 8 rfl)
theorem kit_Weights_Weights (T : Tx K mg w) : PySem.W.kitOne K (.ref (He.ga K "Weights")) (.ref (He.ga K "Weights")) = some true := kitB_ok (exAt T 9 rfl)
theorem cr_Weights (T : Tx K mg w) : ClX.CRead K (He.ga K "Weights") (.type "type") := clsB_ok (exAt T 10 rfl)
theorem kit_InvalidRow_LeapError (T : Tx K mg w) : PySem.W.kitOne K (.ref (He.ga K "InvalidRow")) (.ref (He.ga K "LeapError")) = some true := kitB_ok (exAt T 13 rfl)
theorem kit_InvalidWeight_LeapError (T : Tx K mg w) : PySem.W.kitOne K (.ref (He.ga K "InvalidWeight")) (.ref (He.ga K "LeapError")) = some true := kitB_ok (exAt T 14 rfl)
theorem h_wall (T : Tx K mg w) : HasD K d_wall := has_of T.c.a 0 rfl
theorem k_wall (T : Tx K mg w) : PySem.W.keepIn K (.ref (d_wall.at_ K)) = true := (h_wall T).kp
theorem b_wall (T : Tx K mg w) : Binds K (fdOf K (d_wall.at_ K)) ps_wall [] := FunD.bindsN (ps := ps_wall) (h_wall T) fun _ _ _ _ _ _ us hl => match us, hl with | [_], _ => rfl
theorem h_InvalidRow_init (T : Tx K mg w) : HasD K d_InvalidRow_init := has_of T.c.a 1 rfl
theorem k_InvalidRow_init (T : Tx K mg w) : PySem.W.keepIn K (.ref (d_InvalidRow_init.at_ K)) = true := (h_InvalidRow_init T).kp
theorem b_InvalidRow_init (T : Tx K mg w) : Binds K (fdOf K (d_InvalidRow_init.at_ K)) ps_InvalidRow_init [] := FunD.bindsN (ps := ps_InvalidRow_init) (h_InvalidRow_init T) fun _ _ _ _ _ _ us hl => match us, hl with | [_, _], _ => rfl
theorem h_InvalidWeight_init (T : Tx K mg w) : HasD K d_InvalidWeight_init := has_of T.c.a 2 rfl
theorem k_InvalidWeight_init (T : Tx K mg w) : PySem.W.keepIn K (.ref (d_InvalidWeight_init.at_ K)) = true := (h_InvalidWeight_init T).kp
theorem b_InvalidWeight_init (T : Tx K mg w) : Binds K (fdOf K (d_InvalidWeight_init.at_ K)) ps_InvalidWeight_init [] := FunD.bindsN (ps := ps_InvalidWeight_init) (h_InvalidWeight_init T) fun _ _ _ _ _ _ us hl => match us, hl with | [_, _], _ => rfl
theorem h_check_row (T : Tx K mg w) : HasD K d_check_row := has_of T.c.a 3 rfl
theorem k_check_row (T : Tx K mg w) : PySem.W.keepIn K (.ref (d_check_row.at_ K)) = true := (h_check_row T).kp
-- b_check_row: by hand
theorem h_unmarked (T : Tx K mg w) : HasD K d_unmarked := has_of T.c.a 4 rfl
theorem k_unmarked (T : Tx K mg w) : PySem.W.keepIn K (.ref (d_unmarked.at_ K)) = true := (h_unmarked T).kp
theorem b_unmarked (T : Tx K mg w) : Binds K (fdOf K (d_unmarked.at_ K)) ps_unmarked [] := FunD.bindsN (ps := ps_unmarked) (h_unmarked T) fun _ _ _ _ _ _ us hl => match us, hl with | [_], _ => rfl
theorem h_check_period (T : Tx K mg w) : HasD K d_check_period := has_of T.c.a 5 rfl
theorem k_check_period (T : Tx K mg w) : PySem.W.keepIn K (.ref (d_check_period.at_ K)) = true := (h_check_period T).kp
theorem b_check_period (T : Tx K mg w) : Binds K (fdOf K (d_check_period.at_ K)) ps_check_period [] := FunD.bindsN (ps := ps_check_period) (h_check_period T) fun _ _ _ _ _ _ us hl => match us, hl with | [_], _ => rfl
theorem h_is_table (T : Tx K mg w) : HasD K d_is_table := has_of T.c.a 6 rfl
theorem k_is_table (T : Tx K mg w) : PySem.W.keepIn K (.ref (d_is_table.at_ K)) = true := (h_is_table T).kp
theorem b_is_table (T : Tx K mg w) : Binds K (fdOf K (d_is_table.at_ K)) ps_is_table [] := FunD.bindsN (ps := ps_is_table) (h_is_table T) fun _ _ _ _ _ _ us hl => match us, hl with | [_, _], _ => rfl
theorem h_remainder (T : Tx K mg w) : HasD K d_remainder := has_of T.c.a 7 rfl
theorem k_remainder (T : Tx K mg w) : PySem.W.keepIn K (.ref (d_remainder.at_ K)) = true := (h_remainder T).kp
theorem b_remainder (T : Tx K mg w) : Binds K (fdOf K (d_remainder.at_ K)) ps_remainder [] := FunD.bindsN (ps := ps_remainder) (h_remainder T) fun _ _ _ _ _ _ us hl => match us, hl with | [_, _], _ => rfl
theorem h_summed (T : Tx K mg w) : HasD K d_summed := has_of T.c.a 8 rfl
theorem k_summed (T : Tx K mg w) : PySem.W.keepIn K (.ref (d_summed.at_ K)) = true := (h_summed T).kp
theorem b_summed (T : Tx K mg w) : Binds K (fdOf K (d_summed.at_ K)) ps_summed [] := FunD.bindsN (ps := ps_summed) (h_summed T) fun _ _ _ _ _ _ us hl => match us, hl with | [_, _, _], _ => rfl
theorem h_multiple (T : Tx K mg w) : HasD K d_multiple := has_of T.c.a 9 rfl
theorem k_multiple (T : Tx K mg w) : PySem.W.keepIn K (.ref (d_multiple.at_ K)) = true := (h_multiple T).kp
theorem b_multiple (T : Tx K mg w) : Binds K (fdOf K (d_multiple.at_ K)) ps_multiple [] := FunD.bindsN (ps := ps_multiple) (h_multiple T) fun _ _ _ _ _ _ us hl => match us, hl with | [_, _], _ => rfl
theorem h_Weights_init (T : Tx K mg w) : HasD K d_Weights_init := has_of T.c.a 10 rfl
theorem k_Weights_init (T : Tx K mg w) : PySem.W.keepIn K (.ref (d_Weights_init.at_ K)) = true := (h_Weights_init T).kp
theorem b_Weights_init (T : Tx K mg w) : Binds K (fdOf K (d_Weights_init.at_ K)) ps_Weights_init [] := FunD.bindsN (ps := ps_Weights_init) (h_Weights_init T) fun _ _ _ _ _ _ us hl => match us, hl with | [_, _, _, _], _ => rfl
theorem h_Weights_value (T : Tx K mg w) : HasD K d_Weights_value := has_of T.c.a 11 rfl
theorem k_Weights_value (T : Tx K mg w) : PySem.W.keepIn K (.ref (d_Weights_value.at_ K)) = true := (h_Weights_value T).kp
theorem b_Weights_value (T : Tx K mg w) : Binds K (fdOf K (d_Weights_value.at_ K)) ps_Weights_value [] := FunD.bindsN (ps := ps_Weights_value) (h_Weights_value T) fun _ _ _ _ _ _ us hl => match us, hl with | [_, _], _ => rfl
theorem h_Weights_is_kept (T : Tx K mg w) : HasD K d_Weights_is_kept := has_of T.c.a 12 rfl
theorem k_Weights_is_kept (T : Tx K mg w) : PySem.W.keepIn K (.ref (d_Weights_is_kept.at_ K)) = true := (h_Weights_is_kept T).kp
theorem b_Weights_is_kept (T : Tx K mg w) : Binds K (fdOf K (d_Weights_is_kept.at_ K)) ps_Weights_is_kept [] := FunD.bindsN (ps := ps_Weights_is_kept) (h_Weights_is_kept T) fun _ _ _ _ _ _ us hl => match us, hl with | [_, _], _ => rfl
theorem h_Weights_falls (T : Tx K mg w) : HasD K d_Weights_falls := has_of T.c.a 13 rfl
theorem k_Weights_falls (T : Tx K mg w) : PySem.W.keepIn K (.ref (d_Weights_falls.at_ K)) = true := (h_Weights_falls T).kp
theorem b_Weights_falls (T : Tx K mg w) : Binds K (fdOf K (d_Weights_falls.at_ K)) ps_Weights_falls [] := FunD.bindsN (ps := ps_Weights_falls) (h_Weights_falls T) fun _ _ _ _ _ _ us hl => match us, hl with | [_, _], _ => rfl
theorem h_Weights_add (T : Tx K mg w) : HasD K d_Weights_add := has_of T.c.a 14 rfl
theorem k_Weights_add (T : Tx K mg w) : PySem.W.keepIn K (.ref (d_Weights_add.at_ K)) = true := (h_Weights_add T).kp
theorem b_Weights_add (T : Tx K mg w) : Binds K (fdOf K (d_Weights_add.at_ K)) ps_Weights_add [] := FunD.bindsN (ps := ps_Weights_add) (h_Weights_add T) fun _ _ _ _ _ _ us hl => match us, hl with | [_, _], _ => rfl
theorem h_Weights_sub (T : Tx K mg w) : HasD K d_Weights_sub := has_of T.c.a 15 rfl
theorem k_Weights_sub (T : Tx K mg w) : PySem.W.keepIn K (.ref (d_Weights_sub.at_ K)) = true := (h_Weights_sub T).kp
theorem b_Weights_sub (T : Tx K mg w) : Binds K (fdOf K (d_Weights_sub.at_ K)) ps_Weights_sub [] := FunD.bindsN (ps := ps_Weights_sub) (h_Weights_sub T) fun _ _ _ _ _ _ us hl => match us, hl with | [_, _], _ => rfl
theorem h_Weights_neg (T : Tx K mg w) : HasD K d_Weights_neg := has_of T.c.a 16 rfl
theorem k_Weights_neg (T : Tx K mg w) : PySem.W.keepIn K (.ref (d_Weights_neg.at_ K)) = true := (h_Weights_neg T).kp
theorem b_Weights_neg (T : Tx K mg w) : Binds K (fdOf K (d_Weights_neg.at_ K)) ps_Weights_neg [] := FunD.bindsN (ps := ps_Weights_neg) (h_Weights_neg T) fun _ _ _ _ _ _ us hl => match us, hl with | [_], _ => rfl
theorem h_Weights_mul (T : Tx K mg w) : HasD K d_Weights_mul := has_of T.c.a 17 rfl
theorem k_Weights_mul (T : Tx K mg w) : PySem.W.keepIn K (.ref (d_Weights_mul.at_ K)) = true := (h_Weights_mul T).kp
theorem b_Weights_mul (T : Tx K mg w) : Binds K (fdOf K (d_Weights_mul.at_ K)) ps_Weights_mul [] := FunD.bindsN (ps := ps_Weights_mul) (h_Weights_mul T) fun _ _ _ _ _ _ us hl => match us, hl with | [_, _], _ => rfl
theorem h_Weights_eq (T : Tx K mg w) : HasD K d_Weights_eq := has_of T.c.a 18 rfl
theorem k_Weights_eq (T : Tx K mg w) : PySem.W.keepIn K (.ref (d_Weights_eq.at_ K)) = true := (h_Weights_eq T).kp
theorem b_Weights_eq (T : Tx K mg w) : Binds K (fdOf K (d_Weights_eq.at_ K)) ps_Weights_eq [] := FunD.bindsN (ps := ps_Weights_eq) (h_Weights_eq T) fun _ _ _ _ _ _ us hl => match us, hl with | [_, _], _ => rfl
theorem h_law_cell (T : Tx K mg w) : HasD K d_law_cell := has_of T.c.a 19 rfl
theorem k_law_cell (T : Tx K mg w) : PySem.W.keepIn K (.ref (d_law_cell.at_ K)) = true := (h_law_cell T).kp
theorem b_law_cell (T : Tx K mg w) : Binds K (fdOf K (d_law_cell.at_ K)) ps_law_cell [] := FunD.bindsN (ps := ps_law_cell) (h_law_cell T) fun _ _ _ _ _ _ us hl => match us, hl with | [_, _], _ => rfl
theorem h_law_box (T : Tx K mg w) : HasD K d_law_box := has_of T.c.a 20 rfl
theorem k_law_box (T : Tx K mg w) : PySem.W.keepIn K (.ref (d_law_box.at_ K)) = true := (h_law_box T).kp
theorem b_law_box (T : Tx K mg w) : Binds K (fdOf K (d_law_box.at_ K)) ps_law_box [] := FunD.bindsN (ps := ps_law_box) (h_law_box T) fun _ _ _ _ _ _ us hl => match us, hl with | [_, _], _ => rfl
theorem h_law_take (T : Tx K mg w) : HasD K d_law_take := has_of T.c.a 21 rfl
theorem k_law_take (T : Tx K mg w) : PySem.W.keepIn K (.ref (d_law_take.at_ K)) = true := (h_law_take T).kp
theorem b_law_take (T : Tx K mg w) : Binds K (fdOf K (d_law_take.at_ K)) ps_law_take [] := FunD.bindsN (ps := ps_law_take) (h_law_take T) fun _ _ _ _ _ _ us hl => match us, hl with | [_, _], _ => rfl
theorem h_law_is_integer (T : Tx K mg w) : HasD K d_law_is_integer := has_of T.c.a 22 rfl
theorem k_law_is_integer (T : Tx K mg w) : PySem.W.keepIn K (.ref (d_law_is_integer.at_ K)) = true := (h_law_is_integer T).kp
theorem b_law_is_integer (T : Tx K mg w) : Binds K (fdOf K (d_law_is_integer.at_ K)) ps_law_is_integer [] := FunD.bindsN (ps := ps_law_is_integer) (h_law_is_integer T) fun _ _ _ _ _ _ us hl => match us, hl with | [_], _ => rfl
theorem h_law_kind (T : Tx K mg w) : HasD K d_law_kind := has_of T.c.a 23 rfl
theorem k_law_kind (T : Tx K mg w) : PySem.W.keepIn K (.ref (d_law_kind.at_ K)) = true := (h_law_kind T).kp
theorem b_law_kind (T : Tx K mg w) : Binds K (fdOf K (d_law_kind.at_ K)) ps_law_kind [] := FunD.bindsN (ps := ps_law_kind) (h_law_kind T) fun _ _ _ _ _ _ us hl => match us, hl with | [_], _ => rfl
theorem h_law_reduced (T : Tx K mg w) : HasD K d_law_reduced := has_of T.c.a 24 rfl
theorem k_law_reduced (T : Tx K mg w) : PySem.W.keepIn K (.ref (d_law_reduced.at_ K)) = true := (h_law_reduced T).kp
theorem b_law_reduced (T : Tx K mg w) : Binds K (fdOf K (d_law_reduced.at_ K)) ps_law_reduced [] := FunD.bindsN (ps := ps_law_reduced) (h_law_reduced T) fun _ _ _ _ _ _ us hl => match us, hl with | [_, _], _ => rfl
theorem h_law_sum (T : Tx K mg w) : HasD K d_law_sum := has_of T.c.a 25 rfl
theorem k_law_sum (T : Tx K mg w) : PySem.W.keepIn K (.ref (d_law_sum.at_ K)) = true := (h_law_sum T).kp
theorem b_law_sum (T : Tx K mg w) : Binds K (fdOf K (d_law_sum.at_ K)) ps_law_sum [] := FunD.bindsN (ps := ps_law_sum) (h_law_sum T) fun _ _ _ _ _ _ us hl => match us, hl with | [_, _, _, _], _ => rfl
theorem h_law_line (T : Tx K mg w) : HasD K d_law_line := has_of T.c.a 26 rfl
theorem k_law_line (T : Tx K mg w) : PySem.W.keepIn K (.ref (d_law_line.at_ K)) = true := (h_law_line T).kp
theorem b_law_line (T : Tx K mg w) : Binds K (fdOf K (d_law_line.at_ K)) ps_law_line [] := FunD.bindsN (ps := ps_law_line) (h_law_line T) fun _ _ _ _ _ _ us hl => match us, hl with | [_, _, _], _ => rfl
theorem h_law_is_weights (T : Tx K mg w) : HasD K d_law_is_weights := has_of T.c.a 27 rfl
theorem k_law_is_weights (T : Tx K mg w) : PySem.W.keepIn K (.ref (d_law_is_weights.at_ K)) = true := (h_law_is_weights T).kp
theorem b_law_is_weights (T : Tx K mg w) : Binds K (fdOf K (d_law_is_weights.at_ K)) ps_law_is_weights [] := FunD.bindsN (ps := ps_law_is_weights) (h_law_is_weights T) fun _ _ _ _ _ _ us hl => match us, hl with | [_, _, _, _], _ => rfl
theorem h_law_entry (T : Tx K mg w) : HasD K d_law_entry := has_of T.c.a 28 rfl
theorem k_law_entry (T : Tx K mg w) : PySem.W.keepIn K (.ref (d_law_entry.at_ K)) = true := (h_law_entry T).kp
theorem b_law_entry (T : Tx K mg w) : Binds K (fdOf K (d_law_entry.at_ K)) ps_law_entry [] := FunD.bindsN (ps := ps_law_entry) (h_law_entry T) fun _ _ _ _ _ _ us hl => match us, hl with | [_, _], _ => rfl
theorem h_law_grid (T : Tx K mg w) : HasD K d_law_grid := has_of T.c.a 29 rfl
theorem k_law_grid (T : Tx K mg w) : PySem.W.keepIn K (.ref (d_law_grid.at_ K)) = true := (h_law_grid T).kp
theorem b_law_grid (T : Tx K mg w) : Binds K (fdOf K (d_law_grid.at_ K)) ps_law_grid [] := FunD.bindsN (ps := ps_law_grid) (h_law_grid T) fun _ _ _ _ _ _ us hl => match us, hl with | [_, _, _, _], _ => rfl
theorem h_law_copy (T : Tx K mg w) : HasD K d_law_copy := has_of T.c.a 30 rfl
theorem k_law_copy (T : Tx K mg w) : PySem.W.keepIn K (.ref (d_law_copy.at_ K)) = true := (h_law_copy T).kp
theorem b_law_copy (T : Tx K mg w) : Binds K (fdOf K (d_law_copy.at_ K)) ps_law_copy [] := FunD.bindsN (ps := ps_law_copy) (h_law_copy T) fun _ _ _ _ _ _ us hl => match us, hl with | [_], _ => rfl
theorem h_law_refuses (T : Tx K mg w) : HasD K d_law_refuses := has_of T.c.a 31 rfl
theorem k_law_refuses (T : Tx K mg w) : PySem.W.keepIn K (.ref (d_law_refuses.at_ K)) = true := (h_law_refuses T).kp
theorem b_law_refuses (T : Tx K mg w) : Binds K (fdOf K (d_law_refuses.at_ K)) ps_law_refuses [] := FunD.bindsN (ps := ps_law_refuses) (h_law_refuses T) fun _ _ _ _ _ _ us hl => match us, hl with | [_, _, _, _], _ => rfl
theorem h_law_bad_grid (T : Tx K mg w) : HasD K d_law_bad_grid := has_of T.c.a 32 rfl
theorem k_law_bad_grid (T : Tx K mg w) : PySem.W.keepIn K (.ref (d_law_bad_grid.at_ K)) = true := (h_law_bad_grid T).kp
theorem b_law_bad_grid (T : Tx K mg w) : Binds K (fdOf K (d_law_bad_grid.at_ K)) ps_law_bad_grid [] := FunD.bindsN (ps := ps_law_bad_grid) (h_law_bad_grid T) fun _ _ _ _ _ _ us hl => match us, hl with | [_, _, _], _ => rfl
theorem h_law_bad_arguments (T : Tx K mg w) : HasD K d_law_bad_arguments := has_of T.c.a 33 rfl
theorem k_law_bad_arguments (T : Tx K mg w) : PySem.W.keepIn K (.ref (d_law_bad_arguments.at_ K)) = true := (h_law_bad_arguments T).kp
theorem b_law_bad_arguments (T : Tx K mg w) : Binds K (fdOf K (d_law_bad_arguments.at_ K)) ps_law_bad_arguments [] := FunD.bindsN (ps := ps_law_bad_arguments) (h_law_bad_arguments T) fun _ _ _ _ _ _ us hl => match us, hl with | [_, _, _, _], _ => rfl
theorem h_law_bad_row (T : Tx K mg w) : HasD K d_law_bad_row := has_of T.c.a 34 rfl
theorem k_law_bad_row (T : Tx K mg w) : PySem.W.keepIn K (.ref (d_law_bad_row.at_ K)) = true := (h_law_bad_row T).kp
theorem b_law_bad_row (T : Tx K mg w) : Binds K (fdOf K (d_law_bad_row.at_ K)) ps_law_bad_row [] := FunD.bindsN (ps := ps_law_bad_row) (h_law_bad_row T) fun _ _ _ _ _ _ us hl => match us, hl with | [_, _, _, _], _ => rfl
theorem h_law_rows (T : Tx K mg w) : HasD K d_law_rows := has_of T.c.a 35 rfl
theorem k_law_rows (T : Tx K mg w) : PySem.W.keepIn K (.ref (d_law_rows.at_ K)) = true := (h_law_rows T).kp
theorem b_law_rows (T : Tx K mg w) : Binds K (fdOf K (d_law_rows.at_ K)) ps_law_rows [] := FunD.bindsN (ps := ps_law_rows) (h_law_rows T) fun _ _ _ _ _ _ us hl => match us, hl with | [_, _, _, _], _ => rfl
theorem h_law_joined (T : Tx K mg w) : HasD K d_law_joined := has_of T.c.a 36 rfl
theorem k_law_joined (T : Tx K mg w) : PySem.W.keepIn K (.ref (d_law_joined.at_ K)) = true := (h_law_joined T).kp
theorem b_law_joined (T : Tx K mg w) : Binds K (fdOf K (d_law_joined.at_ K)) ps_law_joined [] := FunD.bindsN (ps := ps_law_joined) (h_law_joined T) fun _ _ _ _ _ _ us hl => match us, hl with | [_, _, _, _], _ => rfl
theorem h_law_equal (T : Tx K mg w) : HasD K d_law_equal := has_of T.c.a 37 rfl
theorem k_law_equal (T : Tx K mg w) : PySem.W.keepIn K (.ref (d_law_equal.at_ K)) = true := (h_law_equal T).kp
theorem b_law_equal (T : Tx K mg w) : Binds K (fdOf K (d_law_equal.at_ K)) ps_law_equal [] := FunD.bindsN (ps := ps_law_equal) (h_law_equal T) fun _ _ _ _ _ _ us hl => match us, hl with | [_, _, _], _ => rfl
theorem h_law_gives_up (T : Tx K mg w) : HasD K d_law_gives_up := has_of T.c.a 38 rfl
theorem k_law_gives_up (T : Tx K mg w) : PySem.W.keepIn K (.ref (d_law_gives_up.at_ K)) = true := (h_law_gives_up T).kp
theorem b_law_gives_up (T : Tx K mg w) : Binds K (fdOf K (d_law_gives_up.at_ K)) ps_law_gives_up [] := FunD.bindsN (ps := ps_law_gives_up) (h_law_gives_up T) fun _ _ _ _ _ _ us hl => match us, hl with | [_, _, _, _], _ => rfl
theorem h_law_unlike (T : Tx K mg w) : HasD K d_law_unlike := has_of T.c.a 39 rfl
theorem k_law_unlike (T : Tx K mg w) : PySem.W.keepIn K (.ref (d_law_unlike.at_ K)) = true := (h_law_unlike T).kp
theorem b_law_unlike (T : Tx K mg w) : Binds K (fdOf K (d_law_unlike.at_ K)) ps_law_unlike [] := FunD.bindsN (ps := ps_law_unlike) (h_law_unlike T) fun _ _ _ _ _ _ us hl => match us, hl with | [_, _, _], _ => rfl
theorem h_law (T : Tx K mg w) : HasD K d_law := has_of T.c.a 40 rfl
theorem k_law (T : Tx K mg w) : PySem.W.keepIn K (.ref (d_law.at_ K)) = true := (h_law T).kp
theorem b_law (T : Tx K mg w) : Binds K (fdOf K (d_law.at_ K)) ps_law [] := FunD.bindsN (ps := ps_law) (h_law T) fun _ _ _ _ _ _ us hl => match us, hl with | [_], _ => rfl
theorem exc_InvalidRow (T : Tx K mg w) : ExcC K (He.ga K "InvalidRow") := excB_ok (x_InvalidRow T).xf (exAt T 11 rfl)
theorem exc_InvalidWeight (T : Tx K mg w) : ExcC K (He.ga K "InvalidWeight") := excB_ok (x_InvalidWeight T).xf (exAt T 12 rfl)
theorem kitV_InvalidWeight (T : Tx K mg w) : PySem.W.kitOne K (.ref (He.ga K "InvalidWeight")) (.type "ValueError") = some true := of_decide_eq_true (exAt T 15 rfl)
theorem first_Weights (T : Tx K mg w) : PySem.W.selfFirst K (He.ga K "Weights") = true := exAt T 16 rfl
theorem rmul_Weights (T : Tx K mg w) : PySem.W.findIn K (.ref (He.ga K "Weights")) "__rmul__" = some none := of_decide_eq_true (exAt T 17 rfl)
theorem mul_int (T : Tx K mg w) : ∃ fo, PySem.W.findIn K (.type "int") "__mul__" = some fo := Option.isSome_iff_exists.mp (exAt T 18 rfl)
theorem rmul_int (T : Tx K mg w) : ∃ fo, PySem.W.findIn K (.type "int") "__rmul__" = some fo := Option.isSome_iff_exists.mp (exAt T 19 rfl)
theorem exm_InvalidWeight (T : Tx K mg w) : PySem.W.exmOne K (.ref (He.ga K "InvalidWeight")) (.ref (He.ga K "InvalidWeight")) = some true := of_decide_eq_true (exAt T 21 rfl)
theorem exm_InvalidRow (T : Tx K mg w) : PySem.W.exmOne K (.ref (He.ga K "InvalidRow")) (.ref (He.ga K "InvalidRow")) = some true := of_decide_eq_true (exAt T 22 rfl)
theorem sub_int_Weights (T : Tx K mg w) : PySem.W.subIn K (.type "int") (.ref (He.ga K "Weights")) = some false := of_decide_eq_true (exAt T 20 rfl)

end
theorem kc_2 : Str.ofString "#.:ABCDabcd" = S [35, 46, 58, 65, 66, 67, 68, 97, 98, 99, 100] := by decide +kernel
theorem kc_3 : Str.ofString "abcd" = S [97, 98, 99, 100] := by decide +kernel
theorem kc_6 : Str.ofString "" = S [] := by decide +kernel
theorem kc_7 : Str.ofString "table" = S [116, 97, 98, 108, 101] := by decide +kernel
theorem kc_8 : Str.ofString " !$&'()*+,-/0123456789;<=>?@EFGHIJKLMNOPQRSTUVWXYZ[]^_efghijklmnopqrstuvwxyz{|}~" = S [32, 33, 36, 38, 39, 40, 41, 42, 43, 44, 45, 47, 48, 49, 50, 51, 52, 53, 54, 55, 56, 57, 59, 60, 61, 62, 63, 64, 69, 70, 71, 72, 73, 74, 75, 76, 77, 78, 79, 80, 81, 82, 83, 84, 85, 86, 87, 88, 89, 90, 91, 93, 94, 95, 101, 102, 103, 104, 105, 106, 107, 108, 109, 110, 111, 112, 113, 114, 115, 116, 117, 118, 119, 120, 121, 122, 123, 124, 125, 126] := by decide +kernel
theorem kc_9 : Str.ofString "modulus" = S [109, 111, 100, 117, 108, 117, 115] := by decide +kernel
theorem kc_10 : Str.ofString "period" = S [112, 101, 114, 105, 111, 100] := by decide +kernel
theorem kc_11 : Str.ofString "#.:" = S [35, 46, 58] := by decide +kernel
theorem kc_12 : Str.ofString "ABCD" = S [65, 66, 67, 68] := by decide +kernel
theorem kc_13 : Str.ofString "a sign is not allowed in this row: " = S [97, 32, 115, 105, 103, 110, 32, 105, 115, 32, 110, 111, 116, 32, 97, 108, 108, 111, 119, 101, 100, 32, 105, 110, 32, 116, 104, 105, 115, 32, 114, 111, 119, 58, 32] := by decide +kernel
theorem kc_14 : Str.ofString "wrong part of a weight: " = S [119, 114, 111, 110, 103, 32, 112, 97, 114, 116, 32, 111, 102, 32, 97, 32, 119, 101, 105, 103, 104, 116, 58, 32] := by decide +kernel
theorem kc_15 : Str.ofString ":" = S [58] := by decide +kernel
theorem kc_16 : Str.ofString "." = S [46] := by decide +kernel
end K54
namespace K54
open PySem PySem.Spec PyProof.Rows L2 Lc Evl
section
variable {P : Program} {w : World} {K : PySem.W.Frag} {mg : Str → Option Value} {base : Heap}
/-! ### the errors -/
abbrev cL (K : PySem.W.Frag) : Addr := He.ga K "LeapError"
theorem reprS_len {l : List Nat} (h : l.length ≤ 1000) (hc : ∀ c ∈ l, c < 128) : (reprText (S l)).length ≤ 20000 := by
  have h1 := PySem.StrLaws.reprText_len (S l) fun c hm => Nat.lt_trans (hc c hm) (by decide)
  rw [S_len] at h1
  omega
theorem len_app (a b : Str) : (a ++ b).length = a.length + b.length := by
  rw [TL.len_tl, TL.len_tl, TL.len_tl, TL.tl_append, List.length_append]
/-- what an error's __init__ leaves behind -/
def Made (K : PySem.W.Frag) (c f : Str) (H : Hp) (a : Addr) (x : V) (Q : VK) : Prop := H a = some (exo a (He.ga K c) none) ∧ ∀ dx, H dx = none → dx ≠ a → Q .non (upd (upd H dx (exd dx [(f, x)])) a (exo a (He.ga K c) (some dx)))
/-- the values that an error keeps -/
def KS (x : V) : Prop := ∃ l : List Nat, x = .str (S l) ∧ l.length ≤ 1000 ∧ ∀ c ∈ l, c < 128
def sp_InvalidRow_init (K : PySem.W.Frag) : Sp := fun vs H Q _ => ∃ (a : Addr) (x : V), vs = [.ref a, x] ∧ KS x ∧ Made K "InvalidRow" "row" H a x Q
theorem ok_InvalidRow_init (T : Tx K mg w) : OkD P w K mg base 1 d_InvalidRow_init ps_InvalidRow_init (sp_InvalidRow_init K) := by
  refine (h_InvalidRow_init T).ok sc_InvalidRow_init (fun vs H Q E h => ?_) (fun cdv A outer s H vs Q E hr h => ⟨_,
      (pss_cons (ps_expr (pe_ownInit (CL := cL K) (by rfl) (m_LeapError T) (by decide) (x_InvalidRow T).sp (x_InvalidRow T).rd (x_InvalidRow T).vV (pa_cons (pv 0) (pa_cons (pe_joined (.cons pe_str (.cons (pe_fmtR (pv 1)) .nil))) pa_nil))))
      (pss_one (ps_ost (pv 0) (pv 1)))), ?_⟩)
  · obtain ⟨a, x, rfl, _⟩ := h
    rfl
  · obtain ⟨a, x, rfl, ⟨l, rfl, hl, hc⟩, ha, q⟩ := h
    have hrp := reprS_len hl hc
    refine ⟨_, rfl, ?_⟩
    refine ⟨_, rfl, by decide +kernel, ?_⟩
    refine ⟨_, rfl, .inl ⟨_, rfl, sz_of (by omega), ?_⟩⟩
    refine ⟨_, rfl, ?_, ?_⟩
    · rw [len_app, len_app]
      have h1 : (Str.empty).length = 0 := by decide +kernel
      have h2 : (Str.ofString "a sign is not allowed in this row: ").length ≤ 100 := by decide +kernel
      exact sz_of (by omega)
    refine ⟨a, He.ga K "InvalidRow", _, rfl, by simp, (x_InvalidRow T).oex, ha, ?_⟩
    exact ⟨_, rfl, _, rfl, a, He.ga K "InvalidRow", rfl, (x_InvalidRow T).oex, (x_InvalidRow T).no, .inl ⟨ha, fun dx hd hda => q dx hd hda⟩⟩
def sp_InvalidWeight_init (K : PySem.W.Frag) : Sp := fun vs H Q _ => ∃ (a : Addr) (x : V), vs = [.ref a, x] ∧ KS x ∧ Made K "InvalidWeight" "part" H a x Q
theorem ok_InvalidWeight_init (T : Tx K mg w) : OkD P w K mg base 1 d_InvalidWeight_init ps_InvalidWeight_init (sp_InvalidWeight_init K) := by
  refine (h_InvalidWeight_init T).ok sc_InvalidWeight_init (fun vs H Q E h => ?_) (fun cdv A outer s H vs Q E hr h => ⟨_,
      (pss_cons (ps_expr (pe_ownInit (CL := cL K) (by rfl) (m_LeapError T) (by decide) (x_InvalidWeight T).sp (x_InvalidWeight T).rd (x_InvalidWeight T).vV (pa_cons (pv 0) (pa_cons (pe_joined (.cons pe_str (.cons (pe_fmtR (pv 1)) .nil))) pa_nil))))
      (pss_one (ps_ost (pv 0) (pv 1)))), ?_⟩)
  · obtain ⟨a, x, rfl, _⟩ := h
    rfl
  · obtain ⟨a, x, rfl, ⟨l, rfl, hl, hc⟩, ha, q⟩ := h
    have hrp := reprS_len hl hc
    refine ⟨_, rfl, ?_⟩
    refine ⟨_, rfl, by decide +kernel, ?_⟩
    refine ⟨_, rfl, .inl ⟨_, rfl, sz_of (by omega), ?_⟩⟩
    refine ⟨_, rfl, ?_, ?_⟩
    · rw [len_app, len_app]
      have h1 : (Str.empty).length = 0 := by decide +kernel
      have h2 : (Str.ofString "wrong part of a weight: ").length ≤ 100 := by decide +kernel
      exact sz_of (by omega)
    refine ⟨a, He.ga K "InvalidWeight", _, rfl, by simp, (x_InvalidWeight T).oex, ha, ?_⟩
    exact ⟨_, rfl, _, rfl, a, He.ga K "InvalidWeight", rfl, (x_InvalidWeight T).oex, (x_InvalidWeight T).no, .inl ⟨ha, fun dx hd hda => q dx hd hda⟩⟩
def Bad (K : PySem.W.Frag) (c f : Str) (H : Hp) (E : XK) (x : V) : Prop := ∀ d H', H d = none → Ex H H' → H' d = some (.xd [(f, x)]) → E (.ref (He.ga K c)) (some d) H'
theorem Bad.ex {c f : Str} {H H' : Hp} {E : XK} {x : V} (h : Bad K c f H E x) (e : Ex H H') : Bad K c f H' E x := fun d H2 hd e2 hx => h d H2 (fresh_back e hd) (e.trans e2) hx
/-- raise C(x) -/
theorem bad_go {c f : Str} {H : Hp} {E : XK} {x : V} {a dx : Addr} {o1 : HO} (q : Bad K c f H E x) (ha : H a = none) (hd : upd H a o1 dx = none) (hda : dx ≠ a) (u v : HO) :
    E (.ref (He.ga K c)) (some dx) (upd (del (upd (upd (upd H a o1) dx u) a v) a) dx (.xd [(f, x)])) := by
  rw [upd_ne hda] at hd
  refine q dx _ hd ?_ upd_same
  intro b o hb
  have n1 : b ≠ dx := fun z => by rw [z, hd] at hb; cases hb
  have n2 : b ≠ a := fun z => by rw [z, ha] at hb; cases hb
  rw [upd_ne n1, del_ne n2, upd_ne n2, upd_ne n1, upd_ne n2]
  exact hb
theorem mk_go {c f : Str} {H : Hp} {E : XK} {x : V} {a : Addr} (q : Bad K c f H E x) (ha : H a = none) :
    Made K c f (upd H a (exo a (He.ga K c) none)) a x fun v H2 => v = .non ∧ ∃ (d : Addr) (fs : List (Str × V)), H2 a = some (exo a (He.ga K c) (some d)) ∧ H2 d = some (exd d fs) ∧ H d = none ∧ E (.ref (He.ga K c)) (some d) (upd (del H2 a) d (.xd fs)) := by
  refine ⟨upd_same, fun dx hd hda => ⟨rfl, dx, _, upd_same, by rw [upd_ne hda, upd_same], ?_, bad_go q ha hd hda _ _⟩⟩
  rw [upd_ne hda] at hd
  exact hd
theorem b_check_row (T : Tx K mg w) : ∃ ds, Vals [V.str "#.:ABCDabcd"] ds ∧ Binds K (fdOf K (d_check_row.at_ K)) ps_check_row ds :=
  FunD.binds1 (ps := ps_check_row) (h_check_row T) 1 0 (by simp [He5.DefA.dvs, d_check_row]) rfl fun T kV doc pm an cdv ct us its hu hi => match us, its, hu, hi with
    | [_], [_], _, _ => ⟨_, rfl, rfl⟩
def sp_check_row (K : PySem.W.Frag) : Sp := fun vs H Q E => ∃ (l g : List Nat), vs = [.str (S l), .str (S g)] ∧ l.length ≤ 1000 ∧ g.length ≤ 1000 ∧ (∀ c ∈ l, c < 128) ∧ ((∀ c ∈ l, c ∈ g) → RetV .non H Q) ∧ ((¬ ∀ c ∈ l, c ∈ g) → Bad K "InvalidRow" "row" H E (.str (S l)))
theorem ok_check_row (T : Tx K mg w) : OkD P w K mg base 3 d_check_row ps_check_row (sp_check_row K) := by
  refine (h_check_row T).ok sc_check_row (fun vs H Q E h => ?_) (fun cdv A outer s H vs Q E hr h => ⟨_,
      (pss_one (ps_for (passes_of rfl) rfl (pi_str (pv 0)) (pg_name (i := 2) sc_check_row.nd rfl (Or.inl rfl)) (pss_one (ps_if (pt_cmpR op_notIn_sign (pv 2) (pv 1) (by rfl)) (pss_one (L2N.ps_raise rfl (L2N.takes_of rfl rfl rfl rfl) (pmkN_oex (x_InvalidRow T).oex (x_InvalidRow T).iC (x_InvalidRow T).tI (ok_InvalidRow_init (P := P) (w := w) (base := base) T) (hr.mono (by decide)) (b_InvalidRow_init T) .nil passN (by rfl) (m_InvalidRow T) (pa_cons (pv 0) pa_nil)))) pss_nil)))), ?_⟩)
  · obtain ⟨l, g, rfl, _⟩ := h
    rfl
  · obtain ⟨l, g, rfl, hl, hg, hc, q1, q2⟩ := h
    refine s_forS (l := l) (by repeat' (first | ((with_reducible refine ev_pow10 ?_ ?_ ?_) <;> first | rfl | decide) | (with_reducible refine fun (_ : _ = true) => ?_) | (with_reducible refine fun (_ : _ = false) => ?_) | (with_reducible exact ev_c) | ((with_reducible apply ev_var); rfl) | (with_reducible apply ev_op) | (with_reducible apply ev_un) | (with_reducible apply ev_cb) | (with_reducible apply ea_cons) | (with_reducible apply ev_andV) | (with_reducible apply ev_orV) | (with_reducible apply ev_notV) | (with_reducible apply ev_if) | (with_reducible apply eo_some) | (with_reducible apply el_lst) | (with_reducible exact ea_nil) | (with_reducible exact rv_I0) | (with_reducible exact ru_neg) | (with_reducible exact rv_ltS) | (with_reducible exact rv_inC) | (with_reducible exact rv_notInC) | (with_reducible exact rc_intI) | (with_reducible exact rc_intB) | (with_reducible exact rc_min2) | (with_reducible exact rc_isStr) | (with_reducible exact eo_none) | (with_reducible exact rv_inSS) | (with_reducible exact rv_notInSS) | (with_reducible exact rv_ltSS) | (with_reducible exact rv_eqSS) | (with_reducible exact rv_eqII) | (with_reducible exact rv_neII) | (with_reducible exact rv_neSS) | ((with_reducible refine rc_lenSS ?_); (first | assumption | omega | decide | (simp only [S_len] at *; omega))) | ((with_reducible refine rc_lenStr ?_); (first | assumption | omega | decide | (simp only [S_len] at *; omega))) | ((with_reducible refine rv_catSS ?_); (first | assumption | omega | decide | (simp only [S_len] at *; omega))) | (with_reducible exact rv_eq rfl) | (with_reducible exact rv_ne rfl) | ((with_reducible refine rc_lenS ?_); (first | assumption | omega | decide | (simp only [S_len] at *; omega))) | ((with_reducible refine rc_lenL ?_); assumption) | ((with_reducible apply rv_ixL); assumption; rfl) | ((with_reducible refine rv_catS ?_); (first | assumption | omega | decide | (simp only [S_len] at *; omega))) | ((with_reducible refine rv_I ?_); (first | (show (0 : Int) < _; (first | assumption | omega | decide | (simp only [S_len] at *; omega))) | exact .inr ⟨by decide, by decide⟩ | exact .inl ⟨by (first | assumption | omega | decide | (simp only [S_len] at *; omega)), by (first | assumption | omega | decide | (simp only [S_len] at *; omega))⟩ | exact .inr ⟨by (first | assumption | omega | decide | (simp only [S_len] at *; omega)), by (first | assumption | omega | decide | (simp only [S_len] at *; omega))⟩ | exact ⟨by decide, by decide, by decide⟩ | exact wide_div (b := 128) (by (first | assumption | omega | decide | (simp only [S_len] at *; omega))) (by (first | assumption | omega | decide | (simp only [S_len] at *; omega))) (by decide) (by decide))))) (fun i σ' H' => Ex H H' ∧ (∀ c ∈ l.take i, c ∈ g) ∧ ∃ kv, σ' = [some (.str (S l)), some (.str (S g)), kv]) (fun H1 e1 => ⟨e1, by simp, none, rfl⟩) ?_ ?_
    · rintro i c σ' H' hi ⟨e, hp, kv, rfl⟩
      refine s_if (b := !decide (c ∈ g)) (by first | ((with_reducible apply et_test); (repeat' (first | ((with_reducible refine ev_pow10 ?_ ?_ ?_) <;> first | rfl | decide) | (with_reducible refine fun (_ : _ = true) => ?_) | (with_reducible refine fun (_ : _ = false) => ?_) | (with_reducible exact ev_c) | ((with_reducible apply ev_var); rfl) | (with_reducible apply ev_op) | (with_reducible apply ev_un) | (with_reducible apply ev_cb) | (with_reducible apply ea_cons) | (with_reducible apply ev_andV) | (with_reducible apply ev_orV) | (with_reducible apply ev_notV) | (with_reducible apply ev_if) | (with_reducible apply eo_some) | (with_reducible apply el_lst) | (with_reducible exact ea_nil) | (with_reducible exact rv_I0) | (with_reducible exact ru_neg) | (with_reducible exact rv_ltS) | (with_reducible exact rv_inC) | (with_reducible exact rv_notInC) | (with_reducible exact rc_intI) | (with_reducible exact rc_intB) | (with_reducible exact rc_min2) | (with_reducible exact rc_isStr) | (with_reducible exact eo_none) | (with_reducible exact rv_inSS) | (with_reducible exact rv_notInSS) | (with_reducible exact rv_ltSS) | (with_reducible exact rv_eqSS) | (with_reducible exact rv_eqII) | (with_reducible exact rv_neII) | (with_reducible exact rv_neSS) | ((with_reducible refine rc_lenSS ?_); (first | assumption | omega | decide | (simp only [S_len] at *; omega))) | ((with_reducible refine rc_lenStr ?_); (first | assumption | omega | decide | (simp only [S_len] at *; omega))) | ((with_reducible refine rv_catSS ?_); (first | assumption | omega | decide | (simp only [S_len] at *; omega))) | (with_reducible exact rv_eq rfl) | (with_reducible exact rv_ne rfl) | ((with_reducible refine rc_lenS ?_); (first | assumption | omega | decide | (simp only [S_len] at *; omega))) | ((with_reducible refine rc_lenL ?_); assumption) | ((with_reducible apply rv_ixL); assumption; rfl) | ((with_reducible refine rv_catS ?_); (first | assumption | omega | decide | (simp only [S_len] at *; omega))) | ((with_reducible refine rv_I ?_); (first | (show (0 : Int) < _; (first | assumption | omega | decide | (simp only [S_len] at *; omega))) | exact .inr ⟨by decide, by decide⟩ | exact .inl ⟨by (first | assumption | omega | decide | (simp only [S_len] at *; omega)), by (first | assumption | omega | decide | (simp only [S_len] at *; omega))⟩ | exact .inr ⟨by (first | assumption | omega | decide | (simp only [S_len] at *; omega)), by (first | assumption | omega | decide | (simp only [S_len] at *; omega))⟩ | exact ⟨by decide, by decide, by decide⟩ | exact wide_div (b := 128) (by (first | assumption | omega | decide | (simp only [S_len] at *; omega))) (by (first | assumption | omega | decide | (simp only [S_len] at *; omega))) (by decide) (by decide)))))) | ((with_reducible apply et_B); (repeat' (first | ((with_reducible refine ev_pow10 ?_ ?_ ?_) <;> first | rfl | decide) | (with_reducible refine fun (_ : _ = true) => ?_) | (with_reducible refine fun (_ : _ = false) => ?_) | (with_reducible exact ev_c) | ((with_reducible apply ev_var); rfl) | (with_reducible apply ev_op) | (with_reducible apply ev_un) | (with_reducible apply ev_cb) | (with_reducible apply ea_cons) | (with_reducible apply ev_andV) | (with_reducible apply ev_orV) | (with_reducible apply ev_notV) | (with_reducible apply ev_if) | (with_reducible apply eo_some) | (with_reducible apply el_lst) | (with_reducible exact ea_nil) | (with_reducible exact rv_I0) | (with_reducible exact ru_neg) | (with_reducible exact rv_ltS) | (with_reducible exact rv_inC) | (with_reducible exact rv_notInC) | (with_reducible exact rc_intI) | (with_reducible exact rc_intB) | (with_reducible exact rc_min2) | (with_reducible exact rc_isStr) | (with_reducible exact eo_none) | (with_reducible exact rv_inSS) | (with_reducible exact rv_notInSS) | (with_reducible exact rv_ltSS) | (with_reducible exact rv_eqSS) | (with_reducible exact rv_eqII) | (with_reducible exact rv_neII) | (with_reducible exact rv_neSS) | ((with_reducible refine rc_lenSS ?_); (first | assumption | omega | decide | (simp only [S_len] at *; omega))) | ((with_reducible refine rc_lenStr ?_); (first | assumption | omega | decide | (simp only [S_len] at *; omega))) | ((with_reducible refine rv_catSS ?_); (first | assumption | omega | decide | (simp only [S_len] at *; omega))) | (with_reducible exact rv_eq rfl) | (with_reducible exact rv_ne rfl) | ((with_reducible refine rc_lenS ?_); (first | assumption | omega | decide | (simp only [S_len] at *; omega))) | ((with_reducible refine rc_lenL ?_); assumption) | ((with_reducible apply rv_ixL); assumption; rfl) | ((with_reducible refine rv_catS ?_); (first | assumption | omega | decide | (simp only [S_len] at *; omega))) | ((with_reducible refine rv_I ?_); (first | (show (0 : Int) < _; (first | assumption | omega | decide | (simp only [S_len] at *; omega))) | exact .inr ⟨by decide, by decide⟩ | exact .inl ⟨by (first | assumption | omega | decide | (simp only [S_len] at *; omega)), by (first | assumption | omega | decide | (simp only [S_len] at *; omega))⟩ | exact .inr ⟨by (first | assumption | omega | decide | (simp only [S_len] at *; omega)), by (first | assumption | omega | decide | (simp only [S_len] at *; omega))⟩ | exact ⟨by decide, by decide, by decide⟩ | exact wide_div (b := 128) (by (first | assumption | omega | decide | (simp only [S_len] at *; omega))) (by (first | assumption | omega | decide | (simp only [S_len] at *; omega))) (by decide) (by decide))))))) (fun hb H1 e1 => ?_) (fun hb H1 e1 => ?_)
      · have hcg : c ∉ g := by simpa using hb
        have q3 := (q2 fun hall => hcg (hall c (List.mem_of_getElem? hi))).ex (e.trans e1)
        exact ⟨_, rfl, by simp, fun a ha => ⟨a, _, rfl, ⟨l, rfl, hl, hc⟩, mk_go q3 ha⟩⟩
      · have hcg : c ∈ g := by simpa using hb
        refine ⟨e.trans e1, ?_, _, rfl⟩
        intro x hx
        rw [List.take_add_one, List.mem_append] at hx
        rcases hx with hx | hx
        · exact hp x hx
        · rw [hi] at hx
          have : x = c := by simpa using hx
          rw [this]
          exact hcg
    · rintro σ' H' ⟨e, hp, kv, rfl⟩
      rw [List.take_length] at hp
      exact q1 hp H' e
def sp_unmarked : Sp := fun vs H Q _ => ∃ l : List Nat, vs = [.str (S l)] ∧ l.length ≤ 1000 ∧ (∀ c ∈ l, c < 128) ∧ RetV (.str (S (l.map um))) H Q
theorem ok_unmarked (T : Tx K mg w) : OkD P w K mg base 1 d_unmarked ps_unmarked sp_unmarked := by
  refine okT (h_unmarked T) sc_unmarked (by decide +kernel) (by decide) (fun vs H Q E h => ?_) (fun cdv A outer s H vs Q E hr h => ⟨_,
      CwR.psst_one (CwR.pst_ret (pet_m0 F.slot_str_lower F.type_str_lower mt_lower (CwR.pet_replC (pv 0)))), ?_⟩)
  · obtain ⟨l, rfl, _⟩ := h
    rfl
  · obtain ⟨l, rfl, hl, hc, q⟩ := h
    have k1 : Str.ofString ":" = S [58] := by decide +kernel
    have k2 : Str.ofString "." = S [46] := by decide +kernel
    simp only [k1, k2]
    exact s_ret (ev_unm (by exact ev_var rfl) hl hc) fun H1 e1 => q H1 e1

/-! ### periods, remainders, tables -/
def sp_check_period (K : PySem.W.Frag) : Sp := fun vs H Q E => ∃ p : Int, vs = [.int p] ∧ ((1 ≤ p ∧ p ≤ 12) → RetV .non H Q) ∧ ((¬ (1 ≤ p ∧ p ≤ 12)) → Bad K "InvalidWeight" "part" H E (.str "period"))
theorem ks_lit {l : List Nat} (h : l.length ≤ 1000) (hc : ∀ c ∈ l, c < 128) : KS (.str (S l)) := ⟨l, rfl, h, hc⟩
theorem ks_period : KS (.str "period") := ⟨[112, 101, 114, 105, 111, 100], congrArg V.str (by decide +kernel), by decide, by decide⟩
theorem ks_modulus : KS (.str "modulus") := ⟨[109, 111, 100, 117, 108, 117, 115], congrArg V.str (by decide +kernel), by decide, by decide⟩
theorem ks_table : KS (.str "table") := ⟨[116, 97, 98, 108, 101], congrArg V.str (by decide +kernel), by decide, by decide⟩
theorem not_t {b : Bool} (h : (!b) = true) : b = false := by simpa using h
theorem not_f {b : Bool} (h : (!b) = false) : b = true := by simpa using h
theorem chain_dec {a b c : Int} : (decide (a ≤ b) && decide (b ≤ c)) = decide (a ≤ b ∧ b ≤ c) := by rw [Bool.decide_and]
theorem ok_check_period (T : Tx K mg w) : OkD P w K mg base 3 d_check_period ps_check_period (sp_check_period K) := by
  refine (h_check_period T).ok sc_check_period (fun vs H Q E h => ?_) (fun cdv A outer s H vs Q E hr h => ⟨_,
      (pss_one (ps_if (pt_not (pt_chain op_le op_le pe_int (pv 0) (pe_glob (v := .int 12) rfl (m_MOST_PERIOD T).choose_spec ⟨_, rfl⟩))) (pss_one (L2N.ps_raise rfl (L2N.takes_of rfl rfl rfl rfl) (pmkN_oex (x_InvalidWeight T).oex (x_InvalidWeight T).iC (x_InvalidWeight T).tI (ok_InvalidWeight_init (P := P) (w := w) (base := base) T) (hr.mono (by decide)) (b_InvalidWeight_init T) .nil passN (by rfl) (m_InvalidWeight T) (pa_cons pe_str pa_nil)))) pss_nil)), ?_⟩)
  · obtain ⟨p, rfl, _⟩ := h
    rfl
  · obtain ⟨p, rfl, q1, q2⟩ := h
    refine s_when (b := !decide (1 ≤ p ∧ p ≤ 12)) (et_not (et_test (by rw [← chain_dec]; exact ev_chain ev_c (ev_var rfl) ev_c rv_I0 fun _ => rv_I0))) (fun hb H1 e1 => ?_) (fun hb H1 e1 => ?_)
    · have hn : ¬ (1 ≤ p ∧ p ≤ 12) := of_decide_eq_false (not_t hb)
      exact ⟨by simp, fun a ha => ⟨a, _, rfl, ks_period, mk_go ((q2 hn).ex e1) ha⟩⟩
    · have hn : 1 ≤ p ∧ p ≤ 12 := of_decide_eq_true (not_f hb)
      exact q1 hn H1 e1
def rem (b x : Int) : Int := if b = 0 then x else x % b
def sp_remainder : Sp := fun vs H Q _ => ∃ x b : Int, vs = [.int x, .int b] ∧ 0 ≤ b ∧ RetV (.int (rem b x)) H Q
theorem ok_remainder (T : Tx K mg w) : OkD P w K mg base 1 d_remainder ps_remainder sp_remainder := by
  refine (h_remainder T).ok sc_remainder (fun vs H Q E h => ?_) (fun cdv A outer s H vs Q E hr h => ⟨_,
      (pss_one (ps_ret (pe_ifExp (pt_cmpR op_eq (pv 1) pe_int (nomark _)) (pv 0) (pe_op op_mod (pv 0) (pv 1))))), ?_⟩)
  · obtain ⟨x, b, rfl, _⟩ := h
    rfl
  · obtain ⟨x, b, rfl, hb, q⟩ := h
    refine s_ret (v := .int (rem b x)) (ev_if (b := decide (b = 0)) (by first | ((with_reducible apply et_test); (repeat' (first | ((with_reducible refine ev_pow10 ?_ ?_ ?_) <;> first | rfl | decide) | (with_reducible refine fun (_ : _ = true) => ?_) | (with_reducible refine fun (_ : _ = false) => ?_) | (with_reducible exact ev_c) | ((with_reducible apply ev_var); rfl) | (with_reducible apply ev_op) | (with_reducible apply ev_un) | (with_reducible apply ev_cb) | (with_reducible apply ea_cons) | (with_reducible apply ev_andV) | (with_reducible apply ev_orV) | (with_reducible apply ev_notV) | (with_reducible apply ev_if) | (with_reducible apply eo_some) | (with_reducible apply el_lst) | (with_reducible exact ea_nil) | (with_reducible exact rv_I0) | (with_reducible exact ru_neg) | (with_reducible exact rv_ltS) | (with_reducible exact rv_inC) | (with_reducible exact rv_notInC) | (with_reducible exact rc_intI) | (with_reducible exact rc_intB) | (with_reducible exact rc_min2) | (with_reducible exact rc_isStr) | (with_reducible exact eo_none) | (with_reducible exact rv_inSS) | (with_reducible exact rv_notInSS) | (with_reducible exact rv_ltSS) | (with_reducible exact rv_eqSS) | (with_reducible exact rv_eqII) | (with_reducible exact rv_neII) | (with_reducible exact rv_neSS) | ((with_reducible refine rc_lenSS ?_); (first | assumption | omega | decide | (simp only [S_len] at *; omega))) | ((with_reducible refine rc_lenStr ?_); (first | assumption | omega | decide | (simp only [S_len] at *; omega))) | ((with_reducible refine rv_catSS ?_); (first | assumption | omega | decide | (simp only [S_len] at *; omega))) | (with_reducible exact rv_eq rfl) | (with_reducible exact rv_ne rfl) | ((with_reducible refine rc_lenS ?_); (first | assumption | omega | decide | (simp only [S_len] at *; omega))) | ((with_reducible refine rc_lenL ?_); assumption) | ((with_reducible apply rv_ixL); assumption; rfl) | ((with_reducible refine rv_catS ?_); (first | assumption | omega | decide | (simp only [S_len] at *; omega))) | ((with_reducible refine rv_I ?_); (first | (show (0 : Int) < _; (first | assumption | omega | decide | (simp only [S_len] at *; omega))) | exact .inr ⟨by decide, by decide⟩ | exact .inl ⟨by (first | assumption | omega | decide | (simp only [S_len] at *; omega)), by (first | assumption | omega | decide | (simp only [S_len] at *; omega))⟩ | exact .inr ⟨by (first | assumption | omega | decide | (simp only [S_len] at *; omega)), by (first | assumption | omega | decide | (simp only [S_len] at *; omega))⟩ | exact ⟨by decide, by decide, by decide⟩ | exact wide_div (b := 128) (by (first | assumption | omega | decide | (simp only [S_len] at *; omega))) (by (first | assumption | omega | decide | (simp only [S_len] at *; omega))) (by decide) (by decide)))))) | ((with_reducible apply et_B); (repeat' (first | ((with_reducible refine ev_pow10 ?_ ?_ ?_) <;> first | rfl | decide) | (with_reducible refine fun (_ : _ = true) => ?_) | (with_reducible refine fun (_ : _ = false) => ?_) | (with_reducible exact ev_c) | ((with_reducible apply ev_var); rfl) | (with_reducible apply ev_op) | (with_reducible apply ev_un) | (with_reducible apply ev_cb) | (with_reducible apply ea_cons) | (with_reducible apply ev_andV) | (with_reducible apply ev_orV) | (with_reducible apply ev_notV) | (with_reducible apply ev_if) | (with_reducible apply eo_some) | (with_reducible apply el_lst) | (with_reducible exact ea_nil) | (with_reducible exact rv_I0) | (with_reducible exact ru_neg) | (with_reducible exact rv_ltS) | (with_reducible exact rv_inC) | (with_reducible exact rv_notInC) | (with_reducible exact rc_intI) | (with_reducible exact rc_intB) | (with_reducible exact rc_min2) | (with_reducible exact rc_isStr) | (with_reducible exact eo_none) | (with_reducible exact rv_inSS) | (with_reducible exact rv_notInSS) | (with_reducible exact rv_ltSS) | (with_reducible exact rv_eqSS) | (with_reducible exact rv_eqII) | (with_reducible exact rv_neII) | (with_reducible exact rv_neSS) | ((with_reducible refine rc_lenSS ?_); (first | assumption | omega | decide | (simp only [S_len] at *; omega))) | ((with_reducible refine rc_lenStr ?_); (first | assumption | omega | decide | (simp only [S_len] at *; omega))) | ((with_reducible refine rv_catSS ?_); (first | assumption | omega | decide | (simp only [S_len] at *; omega))) | (with_reducible exact rv_eq rfl) | (with_reducible exact rv_ne rfl) | ((with_reducible refine rc_lenS ?_); (first | assumption | omega | decide | (simp only [S_len] at *; omega))) | ((with_reducible refine rc_lenL ?_); assumption) | ((with_reducible apply rv_ixL); assumption; rfl) | ((with_reducible refine rv_catS ?_); (first | assumption | omega | decide | (simp only [S_len] at *; omega))) | ((with_reducible refine rv_I ?_); (first | (show (0 : Int) < _; (first | assumption | omega | decide | (simp only [S_len] at *; omega))) | exact .inr ⟨by decide, by decide⟩ | exact .inl ⟨by (first | assumption | omega | decide | (simp only [S_len] at *; omega)), by (first | assumption | omega | decide | (simp only [S_len] at *; omega))⟩ | exact .inr ⟨by (first | assumption | omega | decide | (simp only [S_len] at *; omega)), by (first | assumption | omega | decide | (simp only [S_len] at *; omega))⟩ | exact ⟨by decide, by decide, by decide⟩ | exact wide_div (b := 128) (by (first | assumption | omega | decide | (simp only [S_len] at *; omega))) (by (first | assumption | omega | decide | (simp only [S_len] at *; omega))) (by decide) (by decide))))))) (fun hc => ?_) (fun hc => ?_)) fun H1 e1 => q H1 e1
    · have h0 : b = 0 := by simpa using hc
      unfold rem
      rw [if_pos h0]
      exact ev_var rfl
    · have h0 : b ≠ 0 := by simpa using hc
      unfold rem
      rw [if_neg h0]
      exact ev_op (ev_var rfl) (ev_var rfl) (rv_I (show (0 : Int) < b by omega))
def sp_law_reduced : Sp := fun vs H Q _ => ∃ x b : Int, vs = [.int x, .int b] ∧ 0 ≤ b ∧ RetV (.int (rem b x)) H Q
theorem ok_law_reduced (T : Tx K mg w) : OkD P w K mg base 1 d_law_reduced ps_law_reduced sp_law_reduced := by
  refine (h_law_reduced T).ok sc_law_reduced (fun vs H Q E h => ?_) (fun cdv A outer s H vs Q E hr h => ⟨_,
      (pss_cons (ps_if (pt_cmpR op_eq (pv 1) pe_int (nomark _)) (pss_one (ps_ret (pv 0))) pss_nil)
      (pss_one (ps_ret (pe_op op_mod (pe_callTy call_int1 (by rfl) (m_int T) (by decide +kernel) (pa_cons (pv 0) pa_nil)) (pv 1))))), ?_⟩)
  · obtain ⟨x, b, rfl, _⟩ := h
    rfl
  · obtain ⟨x, b, rfl, hb, q⟩ := h
    refine q_when (b := decide (b = 0)) (by first | ((with_reducible apply et_test); (repeat' (first | ((with_reducible refine ev_pow10 ?_ ?_ ?_) <;> first | rfl | decide) | (with_reducible refine fun (_ : _ = true) => ?_) | (with_reducible refine fun (_ : _ = false) => ?_) | (with_reducible exact ev_c) | ((with_reducible apply ev_var); rfl) | (with_reducible apply ev_op) | (with_reducible apply ev_un) | (with_reducible apply ev_cb) | (with_reducible apply ea_cons) | (with_reducible apply ev_andV) | (with_reducible apply ev_orV) | (with_reducible apply ev_notV) | (with_reducible apply ev_if) | (with_reducible apply eo_some) | (with_reducible apply el_lst) | (with_reducible exact ea_nil) | (with_reducible exact rv_I0) | (with_reducible exact ru_neg) | (with_reducible exact rv_ltS) | (with_reducible exact rv_inC) | (with_reducible exact rv_notInC) | (with_reducible exact rc_intI) | (with_reducible exact rc_intB) | (with_reducible exact rc_min2) | (with_reducible exact rc_isStr) | (with_reducible exact eo_none) | (with_reducible exact rv_inSS) | (with_reducible exact rv_notInSS) | (with_reducible exact rv_ltSS) | (with_reducible exact rv_eqSS) | (with_reducible exact rv_eqII) | (with_reducible exact rv_neII) | (with_reducible exact rv_neSS) | ((with_reducible refine rc_lenSS ?_); (first | assumption | omega | decide | (simp only [S_len] at *; omega))) | ((with_reducible refine rc_lenStr ?_); (first | assumption | omega | decide | (simp only [S_len] at *; omega))) | ((with_reducible refine rv_catSS ?_); (first | assumption | omega | decide | (simp only [S_len] at *; omega))) | (with_reducible exact rv_eq rfl) | (with_reducible exact rv_ne rfl) | ((with_reducible refine rc_lenS ?_); (first | assumption | omega | decide | (simp only [S_len] at *; omega))) | ((with_reducible refine rc_lenL ?_); assumption) | ((with_reducible apply rv_ixL); assumption; rfl) | ((with_reducible refine rv_catS ?_); (first | assumption | omega | decide | (simp only [S_len] at *; omega))) | ((with_reducible refine rv_I ?_); (first | (show (0 : Int) < _; (first | assumption | omega | decide | (simp only [S_len] at *; omega))) | exact .inr ⟨by decide, by decide⟩ | exact .inl ⟨by (first | assumption | omega | decide | (simp only [S_len] at *; omega)), by (first | assumption | omega | decide | (simp only [S_len] at *; omega))⟩ | exact .inr ⟨by (first | assumption | omega | decide | (simp only [S_len] at *; omega)), by (first | assumption | omega | decide | (simp only [S_len] at *; omega))⟩ | exact ⟨by decide, by decide, by decide⟩ | exact wide_div (b := 128) (by (first | assumption | omega | decide | (simp only [S_len] at *; omega))) (by (first | assumption | omega | decide | (simp only [S_len] at *; omega))) (by decide) (by decide)))))) | ((with_reducible apply et_B); (repeat' (first | ((with_reducible refine ev_pow10 ?_ ?_ ?_) <;> first | rfl | decide) | (with_reducible refine fun (_ : _ = true) => ?_) | (with_reducible refine fun (_ : _ = false) => ?_) | (with_reducible exact ev_c) | ((with_reducible apply ev_var); rfl) | (with_reducible apply ev_op) | (with_reducible apply ev_un) | (with_reducible apply ev_cb) | (with_reducible apply ea_cons) | (with_reducible apply ev_andV) | (with_reducible apply ev_orV) | (with_reducible apply ev_notV) | (with_reducible apply ev_if) | (with_reducible apply eo_some) | (with_reducible apply el_lst) | (with_reducible exact ea_nil) | (with_reducible exact rv_I0) | (with_reducible exact ru_neg) | (with_reducible exact rv_ltS) | (with_reducible exact rv_inC) | (with_reducible exact rv_notInC) | (with_reducible exact rc_intI) | (with_reducible exact rc_intB) | (with_reducible exact rc_min2) | (with_reducible exact rc_isStr) | (with_reducible exact eo_none) | (with_reducible exact rv_inSS) | (with_reducible exact rv_notInSS) | (with_reducible exact rv_ltSS) | (with_reducible exact rv_eqSS) | (with_reducible exact rv_eqII) | (with_reducible exact rv_neII) | (with_reducible exact rv_neSS) | ((with_reducible refine rc_lenSS ?_); (first | assumption | omega | decide | (simp only [S_len] at *; omega))) | ((with_reducible refine rc_lenStr ?_); (first | assumption | omega | decide | (simp only [S_len] at *; omega))) | ((with_reducible refine rv_catSS ?_); (first | assumption | omega | decide | (simp only [S_len] at *; omega))) | (with_reducible exact rv_eq rfl) | (with_reducible exact rv_ne rfl) | ((with_reducible refine rc_lenS ?_); (first | assumption | omega | decide | (simp only [S_len] at *; omega))) | ((with_reducible refine rc_lenL ?_); assumption) | ((with_reducible apply rv_ixL); assumption; rfl) | ((with_reducible refine rv_catS ?_); (first | assumption | omega | decide | (simp only [S_len] at *; omega))) | ((with_reducible refine rv_I ?_); (first | (show (0 : Int) < _; (first | assumption | omega | decide | (simp only [S_len] at *; omega))) | exact .inr ⟨by decide, by decide⟩ | exact .inl ⟨by (first | assumption | omega | decide | (simp only [S_len] at *; omega)), by (first | assumption | omega | decide | (simp only [S_len] at *; omega))⟩ | exact .inr ⟨by (first | assumption | omega | decide | (simp only [S_len] at *; omega)), by (first | assumption | omega | decide | (simp only [S_len] at *; omega))⟩ | exact ⟨by decide, by decide, by decide⟩ | exact wide_div (b := 128) (by (first | assumption | omega | decide | (simp only [S_len] at *; omega))) (by (first | assumption | omega | decide | (simp only [S_len] at *; omega))) (by decide) (by decide))))))) (fun hc H1 e1 => ?_) (fun hc H1 e1 => ?_)
    · have h0 : b = 0 := by simpa using hc
      refine s_ret (v := .int x) (ev_var rfl) fun H2 e2 => ?_
      have q2 := q H2 (e1.trans e2)
      unfold rem at q2
      rw [if_pos h0] at q2
      exact q2
    · have h0 : b ≠ 0 := by simpa using hc
      refine s_ret (v := .int (x % b)) (ev_op (ev_cb (ea_cons (ev_var rfl) ea_nil) rc_intI) (ev_var rfl) (rv_I (show (0 : Int) < b by omega))) fun H2 e2 => ?_
      have q2 := q H2 (e1.trans e2)
      unfold rem at q2
      rw [if_neg h0] at q2
      exact q2
theorem rc_isInt {H : Hp} {i : Int} : RC (rIsi K) [.int i, .ty "int"] H (.bl true) := fun H1 _ _ q => ⟨.int i, .ty "int", .type "int", .type "int", true, rfl, .ty _, .base (.int _), kit_ty (by decide +kernel), q H1 (Ex.refl H1)⟩
theorem rc_isIntB {H : Hp} {i : Int} : RC (rIsi K) [.int i, .ty "bool"] H (.bl false) := fun H1 _ _ q => ⟨.int i, .ty "bool", .type "int", .type "bool", false, rfl, .ty _, .base (.int _), kit_ty (by decide +kernel), q H1 (Ex.refl H1)⟩
theorem rc_isTup {H : Hp} {p : Addr} {xs : List V} (h : H p = some (.tup xs)) : RC (rIsi K) [.ref p, .ty "tuple"] H (.bl true) := fun H1 e _ q => ⟨.ref p, .ty "tuple", .type "tuple", .type "tuple", true, rfl, .ty _, .base (.tup (e _ _ h)), kit_ty (by decide +kernel), q H1 (Ex.refl H1)⟩
theorem rc_isLst {H : Hp} {p : Addr} {xs : List V} (h : H p = some (.lst xs)) : RC (rIsi K) [.ref p, .ty "list"] H (.bl true) := fun H1 e _ q => ⟨.ref p, .ty "list", .type "list", .type "list", true, rfl, .ty _, .base (.lst (e _ _ h)), kit_ty (by decide +kernel), q H1 (Ex.refl H1)⟩
theorem rc_isLstT {H : Hp} {p : Addr} {xs : List V} (h : H p = some (.tup xs)) : RC (rIsi K) [.ref p, .ty "list"] H (.bl false) := fun H1 e _ q => ⟨.ref p, .ty "list", .type "tuple", .type "list", false, rfl, .ty _, .base (.tup (e _ _ h)), kit_ty (by decide +kernel), q H1 (Ex.refl H1)⟩
def sp_law_is_integer : Sp := fun vs H Q _ => ∃ i : Int, vs = [.int i] ∧ RetV (.bl true) H Q
theorem ok_law_is_integer (T : Tx K mg w) : OkD P w K mg base 1 d_law_is_integer ps_law_is_integer sp_law_is_integer := by
  refine (h_law_is_integer T).ok sc_law_is_integer (fun vs H Q E h => ?_) (fun cdv A outer s H vs Q E hr h => ⟨_,
      (pss_one (ps_ret (pe_and (pe_callB call_isi (by rfl) (m_isinstance T) (by decide +kernel) (pa_cons (pv 0) (pa_cons (pe_bltn (v := .ty "int") (u := .type "int") (by rfl) (m_int T) (by decide +kernel) rfl) pa_nil))) (pe_one (pe_not (pe_callB call_isi (by rfl) (m_isinstance T) (by decide +kernel) (pa_cons (pv 0) (pa_cons (pe_bltn (v := .ty "bool") (u := .type "bool") (by rfl) (m_bool T) (by decide +kernel) rfl) pa_nil)))))))), ?_⟩)
  · obtain ⟨i, rfl, _⟩ := h
    rfl
  · obtain ⟨i, rfl, q⟩ := h
    exact s_ret (v := .bl (true && !false)) (ev_andV (ev_cb (ea_cons (by exact ev_var rfl) (ea_cons ev_c ea_nil)) rc_isInt) fun _ => ev_notV (ev_cb (ea_cons (by exact ev_var rfl) (ea_cons ev_c ea_nil)) rc_isIntB)) fun H1 e1 => q H1 e1
end
end K54
namespace K54
open PySem PySem.Spec PyProof.Rows L2 Lc Evl
section
variable {P : Program} {w : World} {K : PySem.W.Frag} {mg : Str → Option Value} {base : Heap}
/-! ### the draws -/
def sp_law_take : Sp := fun vs H Q _ => ∃ (b : Addr) (many : Int), vs = [.ref b, .int many] ∧ Bx H b ∧ 0 < many ∧ many.natAbs < 2 ^ 128 ∧ ∀ d H', 0 ≤ d → d < many → ExB b H H' → Bx H' b → Q (.int d) H'
theorem ok_law_take (T : Tx K mg w) : OkD P w K mg base 1 d_law_take ps_law_take sp_law_take := by
  refine (h_law_take T).ok sc_law_take (fun vs H Q E h => ?_) (fun cdv A outer s H vs Q E hr h => ⟨_,
      (pss_cons (ps_asg (pe_op op_add (pe_ix ix_list (pv 0) pe_int (fun _ _ => rfl)) pe_int) (pg_sub (pv 0) pe_int set_list))
      (pss_cons (ps_if (pt_cmpR op_gt (pe_ix ix_list (pv 0) pe_int (fun _ _ => rfl)) pe_int (nomark _)) (pss_cons (ps_set (i := 4) sc_law_take.nd rfl (Or.inl rfl) (pe_op op_mod (pe_callTy call_int1 (by rfl) (m_int T) (by decide +kernel) (pa_cons (pe_ix ix_list (pv 0) pe_int (fun _ _ => rfl)) pa_nil)) (pv 1)))
      (pss_cons (ps_asg (pe_op op_fdivW (pe_ix ix_list (pv 0) pe_int (fun _ _ => rfl)) (pv 1)) (pg_sub (pv 0) pe_int set_list))
      (pss_one (ps_ret (pv 4))))) pss_nil)
      (pss_cons (ps_set (i := 2) sc_law_take.nd rfl (Or.inl rfl) (pe_op op_mod (pe_callTy call_int1 (by rfl) (m_int T) (by decide +kernel) (pa_cons (pe_op op_add (pe_op op_add (pe_ix ix_list (pv 0) pe_int (fun _ _ => rfl)) (pe_op op_mul (pe_ix ix_list (pv 0) pe_int (fun _ _ => rfl)) pe_int)) pe_int) pa_nil)) pe_int))
      (pss_cons (ps_set (i := 2) sc_law_take.nd rfl (Or.inl rfl) (pe_op op_mod (pe_callTy call_int1 (by rfl) (m_int T) (by decide +kernel) (pa_cons (pe_op op_add (pe_op op_add (pe_op op_mul (pv 2) (pv 2)) (pe_op op_fdivW (pe_ix ix_list (pv 0) pe_int (fun _ _ => rfl)) pe_int)) (pe_op op_mul (pe_ix ix_list (pv 0) pe_int (fun _ _ => rfl)) pe_int)) pa_nil)) pe_int))
      (pss_cons (ps_set (i := 3) sc_law_take.nd rfl (Or.inl rfl) (pe_op op_mod (pe_callTy call_int1 (by rfl) (m_int T) (by decide +kernel) (pa_cons (pe_op op_add (pe_op op_add (pe_op op_mul (pv 2) pe_int) (pe_op op_fdivW (pv 2) pe_int)) (pe_op op_mul (pe_ix ix_list (pv 0) pe_int (fun _ _ => rfl)) pe_int)) pa_nil)) pe_int))
      (pss_cons (ps_set (i := 3) sc_law_take.nd rfl (Or.inl rfl) (pe_op op_mod (pe_callTy call_int1 (by rfl) (m_int T) (by decide +kernel) (pa_cons (pe_op op_add (pe_op op_mul (pv 3) (pv 3)) (pv 2)) pa_nil)) pe_int))
      (pss_one (ps_ret (pe_op op_mod (pe_callTy call_int1 (by rfl) (m_int T) (by decide +kernel) (pa_cons (pe_op op_fdivW (pv 3) pe_int) pa_nil)) (pv 1)))))))))), ?_⟩)
  · obtain ⟨b, many, rfl, _⟩ := h
    rfl
  · obtain ⟨b, many, rfl, ⟨i, j, k, hb⟩, hm, hm2, q⟩ := h
    have hs := SqL.of (K := K) hb
    refine q_setL (j := 2) hb (by repeat' (first | ((with_reducible refine ev_pow10 ?_ ?_ ?_) <;> first | rfl | decide) | (with_reducible refine fun (_ : _ = true) => ?_) | (with_reducible refine fun (_ : _ = false) => ?_) | (with_reducible exact ev_c) | ((with_reducible apply ev_var); rfl) | (with_reducible apply ev_op) | (with_reducible apply ev_un) | (with_reducible apply ev_cb) | (with_reducible apply ea_cons) | (with_reducible apply ev_andV) | (with_reducible apply ev_orV) | (with_reducible apply ev_notV) | (with_reducible apply ev_if) | (with_reducible apply eo_some) | (with_reducible apply el_lst) | (with_reducible exact ea_nil) | (with_reducible exact rv_I0) | (with_reducible exact ru_neg) | (with_reducible exact rv_ltS) | (with_reducible exact rv_inC) | (with_reducible exact rv_notInC) | (with_reducible exact rc_intI) | (with_reducible exact rc_intB) | (with_reducible exact rc_min2) | (with_reducible exact rc_isStr) | (with_reducible exact eo_none) | (with_reducible exact rv_inSS) | (with_reducible exact rv_notInSS) | (with_reducible exact rv_ltSS) | (with_reducible exact rv_eqSS) | (with_reducible exact rv_eqII) | (with_reducible exact rv_neII) | (with_reducible exact rv_neSS) | ((with_reducible refine rc_lenSS ?_); (first | assumption | omega | decide | (simp only [S_len] at *; omega))) | ((with_reducible refine rc_lenStr ?_); (first | assumption | omega | decide | (simp only [S_len] at *; omega))) | ((with_reducible refine rv_catSS ?_); (first | assumption | omega | decide | (simp only [S_len] at *; omega))) | (with_reducible exact rv_eq rfl) | (with_reducible exact rv_ne rfl) | ((with_reducible refine rc_lenS ?_); (first | assumption | omega | decide | (simp only [S_len] at *; omega))) | ((with_reducible refine rc_lenL ?_); assumption) | ((with_reducible apply rv_ixL); assumption; rfl) | ((with_reducible refine rv_catS ?_); (first | assumption | omega | decide | (simp only [S_len] at *; omega))) | ((with_reducible refine rv_I ?_); (first | (show (0 : Int) < _; (first | assumption | omega | decide | (simp only [S_len] at *; omega))) | exact .inr ⟨by decide, by decide⟩ | exact .inl ⟨by (first | assumption | omega | decide | (simp only [S_len] at *; omega)), by (first | assumption | omega | decide | (simp only [S_len] at *; omega))⟩ | exact .inr ⟨by (first | assumption | omega | decide | (simp only [S_len] at *; omega)), by (first | assumption | omega | decide | (simp only [S_len] at *; omega))⟩ | exact ⟨by decide, by decide, by decide⟩ | exact wide_div (b := 128) (by (first | assumption | omega | decide | (simp only [S_len] at *; omega))) (by (first | assumption | omega | decide | (simp only [S_len] at *; omega))) (by decide) (by decide))))) (by repeat' (first | ((with_reducible refine ev_pow10 ?_ ?_ ?_) <;> first | rfl | decide) | (with_reducible refine fun (_ : _ = true) => ?_) | (with_reducible refine fun (_ : _ = false) => ?_) | (with_reducible exact ev_c) | ((with_reducible apply ev_var); rfl) | (with_reducible apply ev_op) | (with_reducible apply ev_un) | (with_reducible apply ev_cb) | (with_reducible apply ea_cons) | (with_reducible apply ev_andV) | (with_reducible apply ev_orV) | (with_reducible apply ev_notV) | (with_reducible apply ev_if) | (with_reducible apply eo_some) | (with_reducible apply el_lst) | (with_reducible exact ea_nil) | (with_reducible exact rv_I0) | (with_reducible exact ru_neg) | (with_reducible exact rv_ltS) | (with_reducible exact rv_inC) | (with_reducible exact rv_notInC) | (with_reducible exact rc_intI) | (with_reducible exact rc_intB) | (with_reducible exact rc_min2) | (with_reducible exact rc_isStr) | (with_reducible exact eo_none) | (with_reducible exact rv_inSS) | (with_reducible exact rv_notInSS) | (with_reducible exact rv_ltSS) | (with_reducible exact rv_eqSS) | (with_reducible exact rv_eqII) | (with_reducible exact rv_neII) | (with_reducible exact rv_neSS) | ((with_reducible refine rc_lenSS ?_); (first | assumption | omega | decide | (simp only [S_len] at *; omega))) | ((with_reducible refine rc_lenStr ?_); (first | assumption | omega | decide | (simp only [S_len] at *; omega))) | ((with_reducible refine rv_catSS ?_); (first | assumption | omega | decide | (simp only [S_len] at *; omega))) | (with_reducible exact rv_eq rfl) | (with_reducible exact rv_ne rfl) | ((with_reducible refine rc_lenS ?_); (first | assumption | omega | decide | (simp only [S_len] at *; omega))) | ((with_reducible refine rc_lenL ?_); assumption) | ((with_reducible apply rv_ixL); assumption; rfl) | ((with_reducible refine rv_catS ?_); (first | assumption | omega | decide | (simp only [S_len] at *; omega))) | ((with_reducible refine rv_I ?_); (first | (show (0 : Int) < _; (first | assumption | omega | decide | (simp only [S_len] at *; omega))) | exact .inr ⟨by decide, by decide⟩ | exact .inl ⟨by (first | assumption | omega | decide | (simp only [S_len] at *; omega)), by (first | assumption | omega | decide | (simp only [S_len] at *; omega))⟩ | exact .inr ⟨by (first | assumption | omega | decide | (simp only [S_len] at *; omega)), by (first | assumption | omega | decide | (simp only [S_len] at *; omega))⟩ | exact ⟨by decide, by decide, by decide⟩ | exact wide_div (b := 128) (by (first | assumption | omega | decide | (simp only [S_len] at *; omega))) (by (first | assumption | omega | decide | (simp only [S_len] at *; omega))) (by decide) (by decide))))) ev_c (by simp) fun H1 e1 => ?_
    have h1 : upd H1 b (.lst (List.set [V.int i, V.int j, V.int k] 2 (V.int (k + 1)))) b = some (.lst [V.int i, V.int j, V.int (k + 1)]) := upd_same
    have x1 : ExB b H (upd H1 b (.lst (List.set [V.int i, V.int j, V.int k] 2 (V.int (k + 1))))) := (ExB.of e1).trans ExB.upd
    generalize upd H1 b (.lst (List.set [V.int i, V.int j, V.int k] 2 (V.int (k + 1)))) = G1 at h1 x1 ⊢
    generalize k + 1 = c at h1
    have hs1 := SqL.of (K := K) h1
    refine q_when (by first | ((with_reducible apply et_test); (repeat' (first | ((with_reducible refine ev_pow10 ?_ ?_ ?_) <;> first | rfl | decide) | (with_reducible refine fun (_ : _ = true) => ?_) | (with_reducible refine fun (_ : _ = false) => ?_) | (with_reducible exact ev_c) | ((with_reducible apply ev_var); rfl) | (with_reducible apply ev_op) | (with_reducible apply ev_un) | (with_reducible apply ev_cb) | (with_reducible apply ea_cons) | (with_reducible apply ev_andV) | (with_reducible apply ev_orV) | (with_reducible apply ev_notV) | (with_reducible apply ev_if) | (with_reducible apply eo_some) | (with_reducible apply el_lst) | (with_reducible exact ea_nil) | (with_reducible exact rv_I0) | (with_reducible exact ru_neg) | (with_reducible exact rv_ltS) | (with_reducible exact rv_inC) | (with_reducible exact rv_notInC) | (with_reducible exact rc_intI) | (with_reducible exact rc_intB) | (with_reducible exact rc_min2) | (with_reducible exact rc_isStr) | (with_reducible exact eo_none) | (with_reducible exact rv_inSS) | (with_reducible exact rv_notInSS) | (with_reducible exact rv_ltSS) | (with_reducible exact rv_eqSS) | (with_reducible exact rv_eqII) | (with_reducible exact rv_neII) | (with_reducible exact rv_neSS) | ((with_reducible refine rc_lenSS ?_); (first | assumption | omega | decide | (simp only [S_len] at *; omega))) | ((with_reducible refine rc_lenStr ?_); (first | assumption | omega | decide | (simp only [S_len] at *; omega))) | ((with_reducible refine rv_catSS ?_); (first | assumption | omega | decide | (simp only [S_len] at *; omega))) | (with_reducible exact rv_eq rfl) | (with_reducible exact rv_ne rfl) | ((with_reducible refine rc_lenS ?_); (first | assumption | omega | decide | (simp only [S_len] at *; omega))) | ((with_reducible refine rc_lenL ?_); assumption) | ((with_reducible apply rv_ixL); assumption; rfl) | ((with_reducible refine rv_catS ?_); (first | assumption | omega | decide | (simp only [S_len] at *; omega))) | ((with_reducible refine rv_I ?_); (first | (show (0 : Int) < _; (first | assumption | omega | decide | (simp only [S_len] at *; omega))) | exact .inr ⟨by decide, by decide⟩ | exact .inl ⟨by (first | assumption | omega | decide | (simp only [S_len] at *; omega)), by (first | assumption | omega | decide | (simp only [S_len] at *; omega))⟩ | exact .inr ⟨by (first | assumption | omega | decide | (simp only [S_len] at *; omega)), by (first | assumption | omega | decide | (simp only [S_len] at *; omega))⟩ | exact ⟨by decide, by decide, by decide⟩ | exact wide_div (b := 128) (by (first | assumption | omega | decide | (simp only [S_len] at *; omega))) (by (first | assumption | omega | decide | (simp only [S_len] at *; omega))) (by decide) (by decide)))))) | ((with_reducible apply et_B); (repeat' (first | ((with_reducible refine ev_pow10 ?_ ?_ ?_) <;> first | rfl | decide) | (with_reducible refine fun (_ : _ = true) => ?_) | (with_reducible refine fun (_ : _ = false) => ?_) | (with_reducible exact ev_c) | ((with_reducible apply ev_var); rfl) | (with_reducible apply ev_op) | (with_reducible apply ev_un) | (with_reducible apply ev_cb) | (with_reducible apply ea_cons) | (with_reducible apply ev_andV) | (with_reducible apply ev_orV) | (with_reducible apply ev_notV) | (with_reducible apply ev_if) | (with_reducible apply eo_some) | (with_reducible apply el_lst) | (with_reducible exact ea_nil) | (with_reducible exact rv_I0) | (with_reducible exact ru_neg) | (with_reducible exact rv_ltS) | (with_reducible exact rv_inC) | (with_reducible exact rv_notInC) | (with_reducible exact rc_intI) | (with_reducible exact rc_intB) | (with_reducible exact rc_min2) | (with_reducible exact rc_isStr) | (with_reducible exact eo_none) | (with_reducible exact rv_inSS) | (with_reducible exact rv_notInSS) | (with_reducible exact rv_ltSS) | (with_reducible exact rv_eqSS) | (with_reducible exact rv_eqII) | (with_reducible exact rv_neII) | (with_reducible exact rv_neSS) | ((with_reducible refine rc_lenSS ?_); (first | assumption | omega | decide | (simp only [S_len] at *; omega))) | ((with_reducible refine rc_lenStr ?_); (first | assumption | omega | decide | (simp only [S_len] at *; omega))) | ((with_reducible refine rv_catSS ?_); (first | assumption | omega | decide | (simp only [S_len] at *; omega))) | (with_reducible exact rv_eq rfl) | (with_reducible exact rv_ne rfl) | ((with_reducible refine rc_lenS ?_); (first | assumption | omega | decide | (simp only [S_len] at *; omega))) | ((with_reducible refine rc_lenL ?_); assumption) | ((with_reducible apply rv_ixL); assumption; rfl) | ((with_reducible refine rv_catS ?_); (first | assumption | omega | decide | (simp only [S_len] at *; omega))) | ((with_reducible refine rv_I ?_); (first | (show (0 : Int) < _; (first | assumption | omega | decide | (simp only [S_len] at *; omega))) | exact .inr ⟨by decide, by decide⟩ | exact .inl ⟨by (first | assumption | omega | decide | (simp only [S_len] at *; omega)), by (first | assumption | omega | decide | (simp only [S_len] at *; omega))⟩ | exact .inr ⟨by (first | assumption | omega | decide | (simp only [S_len] at *; omega)), by (first | assumption | omega | decide | (simp only [S_len] at *; omega))⟩ | exact ⟨by decide, by decide, by decide⟩ | exact wide_div (b := 128) (by (first | assumption | omega | decide | (simp only [S_len] at *; omega))) (by (first | assumption | omega | decide | (simp only [S_len] at *; omega))) (by decide) (by decide))))))) (fun hc H2 e2 => ?_) (fun hc H2 e2 => ?_)
    · have hs2 := SqL.of (K := K) (e2 _ _ h1)
      refine q_asg (by repeat' (first | ((with_reducible refine ev_pow10 ?_ ?_ ?_) <;> first | rfl | decide) | (with_reducible refine fun (_ : _ = true) => ?_) | (with_reducible refine fun (_ : _ = false) => ?_) | (with_reducible exact ev_c) | ((with_reducible apply ev_var); rfl) | (with_reducible apply ev_op) | (with_reducible apply ev_un) | (with_reducible apply ev_cb) | (with_reducible apply ea_cons) | (with_reducible apply ev_andV) | (with_reducible apply ev_orV) | (with_reducible apply ev_notV) | (with_reducible apply ev_if) | (with_reducible apply eo_some) | (with_reducible apply el_lst) | (with_reducible exact ea_nil) | (with_reducible exact rv_I0) | (with_reducible exact ru_neg) | (with_reducible exact rv_ltS) | (with_reducible exact rv_inC) | (with_reducible exact rv_notInC) | (with_reducible exact rc_intI) | (with_reducible exact rc_intB) | (with_reducible exact rc_min2) | (with_reducible exact rc_isStr) | (with_reducible exact eo_none) | (with_reducible exact rv_inSS) | (with_reducible exact rv_notInSS) | (with_reducible exact rv_ltSS) | (with_reducible exact rv_eqSS) | (with_reducible exact rv_eqII) | (with_reducible exact rv_neII) | (with_reducible exact rv_neSS) | ((with_reducible refine rc_lenSS ?_); (first | assumption | omega | decide | (simp only [S_len] at *; omega))) | ((with_reducible refine rc_lenStr ?_); (first | assumption | omega | decide | (simp only [S_len] at *; omega))) | ((with_reducible refine rv_catSS ?_); (first | assumption | omega | decide | (simp only [S_len] at *; omega))) | (with_reducible exact rv_eq rfl) | (with_reducible exact rv_ne rfl) | ((with_reducible refine rc_lenS ?_); (first | assumption | omega | decide | (simp only [S_len] at *; omega))) | ((with_reducible refine rc_lenL ?_); assumption) | ((with_reducible apply rv_ixL); assumption; rfl) | ((with_reducible refine rv_catS ?_); (first | assumption | omega | decide | (simp only [S_len] at *; omega))) | ((with_reducible refine rv_I ?_); (first | (show (0 : Int) < _; (first | assumption | omega | decide | (simp only [S_len] at *; omega))) | exact .inr ⟨by decide, by decide⟩ | exact .inl ⟨by (first | assumption | omega | decide | (simp only [S_len] at *; omega)), by (first | assumption | omega | decide | (simp only [S_len] at *; omega))⟩ | exact .inr ⟨by (first | assumption | omega | decide | (simp only [S_len] at *; omega)), by (first | assumption | omega | decide | (simp only [S_len] at *; omega))⟩ | exact ⟨by decide, by decide, by decide⟩ | exact wide_div (b := 128) (by (first | assumption | omega | decide | (simp only [S_len] at *; omega))) (by (first | assumption | omega | decide | (simp only [S_len] at *; omega))) (by decide) (by decide))))) fun H3 e3 => ?_
      have hs3 := SqL.of (K := K) (e3 _ _ (e2 _ _ h1))
      refine q_setL (j := 0) (e3 _ _ (e2 _ _ h1)) (by repeat' (first | ((with_reducible refine ev_pow10 ?_ ?_ ?_) <;> first | rfl | decide) | (with_reducible refine fun (_ : _ = true) => ?_) | (with_reducible refine fun (_ : _ = false) => ?_) | (with_reducible exact ev_c) | ((with_reducible apply ev_var); rfl) | (with_reducible apply ev_op) | (with_reducible apply ev_un) | (with_reducible apply ev_cb) | (with_reducible apply ea_cons) | (with_reducible apply ev_andV) | (with_reducible apply ev_orV) | (with_reducible apply ev_notV) | (with_reducible apply ev_if) | (with_reducible apply eo_some) | (with_reducible apply el_lst) | (with_reducible exact ea_nil) | (with_reducible exact rv_I0) | (with_reducible exact ru_neg) | (with_reducible exact rv_ltS) | (with_reducible exact rv_inC) | (with_reducible exact rv_notInC) | (with_reducible exact rc_intI) | (with_reducible exact rc_intB) | (with_reducible exact rc_min2) | (with_reducible exact rc_isStr) | (with_reducible exact eo_none) | (with_reducible exact rv_inSS) | (with_reducible exact rv_notInSS) | (with_reducible exact rv_ltSS) | (with_reducible exact rv_eqSS) | (with_reducible exact rv_eqII) | (with_reducible exact rv_neII) | (with_reducible exact rv_neSS) | ((with_reducible refine rc_lenSS ?_); (first | assumption | omega | decide | (simp only [S_len] at *; omega))) | ((with_reducible refine rc_lenStr ?_); (first | assumption | omega | decide | (simp only [S_len] at *; omega))) | ((with_reducible refine rv_catSS ?_); (first | assumption | omega | decide | (simp only [S_len] at *; omega))) | (with_reducible exact rv_eq rfl) | (with_reducible exact rv_ne rfl) | ((with_reducible refine rc_lenS ?_); (first | assumption | omega | decide | (simp only [S_len] at *; omega))) | ((with_reducible refine rc_lenL ?_); assumption) | ((with_reducible apply rv_ixL); assumption; rfl) | ((with_reducible refine rv_catS ?_); (first | assumption | omega | decide | (simp only [S_len] at *; omega))) | ((with_reducible refine rv_I ?_); (first | (show (0 : Int) < _; (first | assumption | omega | decide | (simp only [S_len] at *; omega))) | exact .inr ⟨by decide, by decide⟩ | exact .inl ⟨by (first | assumption | omega | decide | (simp only [S_len] at *; omega)), by (first | assumption | omega | decide | (simp only [S_len] at *; omega))⟩ | exact .inr ⟨by (first | assumption | omega | decide | (simp only [S_len] at *; omega)), by (first | assumption | omega | decide | (simp only [S_len] at *; omega))⟩ | exact ⟨by decide, by decide, by decide⟩ | exact wide_div (b := 128) (by (first | assumption | omega | decide | (simp only [S_len] at *; omega))) (by (first | assumption | omega | decide | (simp only [S_len] at *; omega))) (by decide) (by decide))))) (by repeat' (first | ((with_reducible refine ev_pow10 ?_ ?_ ?_) <;> first | rfl | decide) | (with_reducible refine fun (_ : _ = true) => ?_) | (with_reducible refine fun (_ : _ = false) => ?_) | (with_reducible exact ev_c) | ((with_reducible apply ev_var); rfl) | (with_reducible apply ev_op) | (with_reducible apply ev_un) | (with_reducible apply ev_cb) | (with_reducible apply ea_cons) | (with_reducible apply ev_andV) | (with_reducible apply ev_orV) | (with_reducible apply ev_notV) | (with_reducible apply ev_if) | (with_reducible apply eo_some) | (with_reducible apply el_lst) | (with_reducible exact ea_nil) | (with_reducible exact rv_I0) | (with_reducible exact ru_neg) | (with_reducible exact rv_ltS) | (with_reducible exact rv_inC) | (with_reducible exact rv_notInC) | (with_reducible exact rc_intI) | (with_reducible exact rc_intB) | (with_reducible exact rc_min2) | (with_reducible exact rc_isStr) | (with_reducible exact eo_none) | (with_reducible exact rv_inSS) | (with_reducible exact rv_notInSS) | (with_reducible exact rv_ltSS) | (with_reducible exact rv_eqSS) | (with_reducible exact rv_eqII) | (with_reducible exact rv_neII) | (with_reducible exact rv_neSS) | ((with_reducible refine rc_lenSS ?_); (first | assumption | omega | decide | (simp only [S_len] at *; omega))) | ((with_reducible refine rc_lenStr ?_); (first | assumption | omega | decide | (simp only [S_len] at *; omega))) | ((with_reducible refine rv_catSS ?_); (first | assumption | omega | decide | (simp only [S_len] at *; omega))) | (with_reducible exact rv_eq rfl) | (with_reducible exact rv_ne rfl) | ((with_reducible refine rc_lenS ?_); (first | assumption | omega | decide | (simp only [S_len] at *; omega))) | ((with_reducible refine rc_lenL ?_); assumption) | ((with_reducible apply rv_ixL); assumption; rfl) | ((with_reducible refine rv_catS ?_); (first | assumption | omega | decide | (simp only [S_len] at *; omega))) | ((with_reducible refine rv_I ?_); (first | (show (0 : Int) < _; (first | assumption | omega | decide | (simp only [S_len] at *; omega))) | exact .inr ⟨by decide, by decide⟩ | exact .inl ⟨by (first | assumption | omega | decide | (simp only [S_len] at *; omega)), by (first | assumption | omega | decide | (simp only [S_len] at *; omega))⟩ | exact .inr ⟨by (first | assumption | omega | decide | (simp only [S_len] at *; omega)), by (first | assumption | omega | decide | (simp only [S_len] at *; omega))⟩ | exact ⟨by decide, by decide, by decide⟩ | exact wide_div (b := 128) (by (first | assumption | omega | decide | (simp only [S_len] at *; omega))) (by (first | assumption | omega | decide | (simp only [S_len] at *; omega))) (by decide) (by decide))))) ev_c (by simp) fun H4 e4 => ?_
      refine s_ret (by repeat' (first | ((with_reducible refine ev_pow10 ?_ ?_ ?_) <;> first | rfl | decide) | (with_reducible refine fun (_ : _ = true) => ?_) | (with_reducible refine fun (_ : _ = false) => ?_) | (with_reducible exact ev_c) | ((with_reducible apply ev_var); rfl) | (with_reducible apply ev_op) | (with_reducible apply ev_un) | (with_reducible apply ev_cb) | (with_reducible apply ea_cons) | (with_reducible apply ev_andV) | (with_reducible apply ev_orV) | (with_reducible apply ev_notV) | (with_reducible apply ev_if) | (with_reducible apply eo_some) | (with_reducible apply el_lst) | (with_reducible exact ea_nil) | (with_reducible exact rv_I0) | (with_reducible exact ru_neg) | (with_reducible exact rv_ltS) | (with_reducible exact rv_inC) | (with_reducible exact rv_notInC) | (with_reducible exact rc_intI) | (with_reducible exact rc_intB) | (with_reducible exact rc_min2) | (with_reducible exact rc_isStr) | (with_reducible exact eo_none) | (with_reducible exact rv_inSS) | (with_reducible exact rv_notInSS) | (with_reducible exact rv_ltSS) | (with_reducible exact rv_eqSS) | (with_reducible exact rv_eqII) | (with_reducible exact rv_neII) | (with_reducible exact rv_neSS) | ((with_reducible refine rc_lenSS ?_); (first | assumption | omega | decide | (simp only [S_len] at *; omega))) | ((with_reducible refine rc_lenStr ?_); (first | assumption | omega | decide | (simp only [S_len] at *; omega))) | ((with_reducible refine rv_catSS ?_); (first | assumption | omega | decide | (simp only [S_len] at *; omega))) | (with_reducible exact rv_eq rfl) | (with_reducible exact rv_ne rfl) | ((with_reducible refine rc_lenS ?_); (first | assumption | omega | decide | (simp only [S_len] at *; omega))) | ((with_reducible refine rc_lenL ?_); assumption) | ((with_reducible apply rv_ixL); assumption; rfl) | ((with_reducible refine rv_catS ?_); (first | assumption | omega | decide | (simp only [S_len] at *; omega))) | ((with_reducible refine rv_I ?_); (first | (show (0 : Int) < _; (first | assumption | omega | decide | (simp only [S_len] at *; omega))) | exact .inr ⟨by decide, by decide⟩ | exact .inl ⟨by (first | assumption | omega | decide | (simp only [S_len] at *; omega)), by (first | assumption | omega | decide | (simp only [S_len] at *; omega))⟩ | exact .inr ⟨by (first | assumption | omega | decide | (simp only [S_len] at *; omega)), by (first | assumption | omega | decide | (simp only [S_len] at *; omega))⟩ | exact ⟨by decide, by decide, by decide⟩ | exact wide_div (b := 128) (by (first | assumption | omega | decide | (simp only [S_len] at *; omega))) (by (first | assumption | omega | decide | (simp only [S_len] at *; omega))) (by decide) (by decide))))) fun H5 e5 => ?_
      refine q _ _ (Int.emod_nonneg _ (by omega)) (Int.emod_lt_of_pos _ hm) ?_ ?_
      · exact ((x1.trans (ExB.of ((e2.trans e3).trans e4))).trans ExB.upd).trans (ExB.of e5)
      · exact Bx.ex Bx.put e5
    · have h2 := e2 _ _ h1
      have hs2 := SqL.of (K := K) h2
      refine q_asg (by repeat' (first | ((with_reducible refine ev_pow10 ?_ ?_ ?_) <;> first | rfl | decide) | (with_reducible refine fun (_ : _ = true) => ?_) | (with_reducible refine fun (_ : _ = false) => ?_) | (with_reducible exact ev_c) | ((with_reducible apply ev_var); rfl) | (with_reducible apply ev_op) | (with_reducible apply ev_un) | (with_reducible apply ev_cb) | (with_reducible apply ea_cons) | (with_reducible apply ev_andV) | (with_reducible apply ev_orV) | (with_reducible apply ev_notV) | (with_reducible apply ev_if) | (with_reducible apply eo_some) | (with_reducible apply el_lst) | (with_reducible exact ea_nil) | (with_reducible exact rv_I0) | (with_reducible exact ru_neg) | (with_reducible exact rv_ltS) | (with_reducible exact rv_inC) | (with_reducible exact rv_notInC) | (with_reducible exact rc_intI) | (with_reducible exact rc_intB) | (with_reducible exact rc_min2) | (with_reducible exact rc_isStr) | (with_reducible exact eo_none) | (with_reducible exact rv_inSS) | (with_reducible exact rv_notInSS) | (with_reducible exact rv_ltSS) | (with_reducible exact rv_eqSS) | (with_reducible exact rv_eqII) | (with_reducible exact rv_neII) | (with_reducible exact rv_neSS) | ((with_reducible refine rc_lenSS ?_); (first | assumption | omega | decide | (simp only [S_len] at *; omega))) | ((with_reducible refine rc_lenStr ?_); (first | assumption | omega | decide | (simp only [S_len] at *; omega))) | ((with_reducible refine rv_catSS ?_); (first | assumption | omega | decide | (simp only [S_len] at *; omega))) | (with_reducible exact rv_eq rfl) | (with_reducible exact rv_ne rfl) | ((with_reducible refine rc_lenS ?_); (first | assumption | omega | decide | (simp only [S_len] at *; omega))) | ((with_reducible refine rc_lenL ?_); assumption) | ((with_reducible apply rv_ixL); assumption; rfl) | ((with_reducible refine rv_catS ?_); (first | assumption | omega | decide | (simp only [S_len] at *; omega))) | ((with_reducible refine rv_I ?_); (first | (show (0 : Int) < _; (first | assumption | omega | decide | (simp only [S_len] at *; omega))) | exact .inr ⟨by decide, by decide⟩ | exact .inl ⟨by (first | assumption | omega | decide | (simp only [S_len] at *; omega)), by (first | assumption | omega | decide | (simp only [S_len] at *; omega))⟩ | exact .inr ⟨by (first | assumption | omega | decide | (simp only [S_len] at *; omega)), by (first | assumption | omega | decide | (simp only [S_len] at *; omega))⟩ | exact ⟨by decide, by decide, by decide⟩ | exact wide_div (b := 128) (by (first | assumption | omega | decide | (simp only [S_len] at *; omega))) (by (first | assumption | omega | decide | (simp only [S_len] at *; omega))) (by decide) (by decide))))) fun H3 e3 => ?_
      have hs3 := SqL.of (K := K) (e3 _ _ h2)
      have b1 := Int.emod_nonneg (j + c * 48271 + 11) (show (2147483629 : Int) ≠ 0 by decide)
      have b2 := Int.emod_lt_of_pos (j + c * 48271 + 11) (show (0 : Int) < 2147483629 by decide)
      generalize (j + c * 48271 + 11) % 2147483629 = m1 at b1 b2 ⊢
      refine q_asg (v := .int ((m1 * m1 + j / 3 + c * 69621) % 2147483587)) (by repeat' (first | ((with_reducible refine ev_pow10 ?_ ?_ ?_) <;> first | rfl | decide) | (with_reducible refine fun (_ : _ = true) => ?_) | (with_reducible refine fun (_ : _ = false) => ?_) | (with_reducible exact ev_c) | ((with_reducible apply ev_var); rfl) | (with_reducible apply ev_op) | (with_reducible apply ev_un) | (with_reducible apply ev_cb) | (with_reducible apply ea_cons) | (with_reducible apply ev_andV) | (with_reducible apply ev_orV) | (with_reducible apply ev_notV) | (with_reducible apply ev_if) | (with_reducible apply eo_some) | (with_reducible apply el_lst) | (with_reducible exact ea_nil) | (with_reducible exact rv_I0) | (with_reducible exact ru_neg) | (with_reducible exact rv_ltS) | (with_reducible exact rv_inC) | (with_reducible exact rv_notInC) | (with_reducible exact rc_intI) | (with_reducible exact rc_intB) | (with_reducible exact rc_min2) | (with_reducible exact rc_isStr) | (with_reducible exact eo_none) | (with_reducible exact rv_inSS) | (with_reducible exact rv_notInSS) | (with_reducible exact rv_ltSS) | (with_reducible exact rv_eqSS) | (with_reducible exact rv_eqII) | (with_reducible exact rv_neII) | (with_reducible exact rv_neSS) | ((with_reducible refine rc_lenSS ?_); (first | assumption | omega | decide | (simp only [S_len] at *; omega))) | ((with_reducible refine rc_lenStr ?_); (first | assumption | omega | decide | (simp only [S_len] at *; omega))) | ((with_reducible refine rv_catSS ?_); (first | assumption | omega | decide | (simp only [S_len] at *; omega))) | (with_reducible exact rv_eq rfl) | (with_reducible exact rv_ne rfl) | ((with_reducible refine rc_lenS ?_); (first | assumption | omega | decide | (simp only [S_len] at *; omega))) | ((with_reducible refine rc_lenL ?_); assumption) | ((with_reducible apply rv_ixL); assumption; rfl) | ((with_reducible refine rv_catS ?_); (first | assumption | omega | decide | (simp only [S_len] at *; omega))) | ((with_reducible refine rv_I ?_); (first | (show (0 : Int) < _; (first | assumption | omega | decide | (simp only [S_len] at *; omega))) | exact .inr ⟨by decide, by decide⟩ | exact .inl ⟨by (first | assumption | omega | decide | (simp only [S_len] at *; omega)), by (first | assumption | omega | decide | (simp only [S_len] at *; omega))⟩ | exact .inr ⟨by (first | assumption | omega | decide | (simp only [S_len] at *; omega)), by (first | assumption | omega | decide | (simp only [S_len] at *; omega))⟩ | exact ⟨by decide, by decide, by decide⟩ | exact wide_div (b := 128) (by (first | assumption | omega | decide | (simp only [S_len] at *; omega))) (by (first | assumption | omega | decide | (simp only [S_len] at *; omega))) (by decide) (by decide))))) fun H4 e4 => ?_
      have hs4 := SqL.of (K := K) (e4 _ _ (e3 _ _ h2))
      have c1 := Int.emod_nonneg (m1 * m1 + j / 3 + c * 69621) (show (2147483587 : Int) ≠ 0 by decide)
      have c2 := Int.emod_lt_of_pos (m1 * m1 + j / 3 + c * 69621) (show (0 : Int) < 2147483587 by decide)
      generalize (m1 * m1 + j / 3 + c * 69621) % 2147483587 = m2 at c1 c2 ⊢
      refine q_asg (v := .int ((m2 * 40692 + m2 / 1013 + c * 7919) % 2147483563)) (by repeat' (first | ((with_reducible refine ev_pow10 ?_ ?_ ?_) <;> first | rfl | decide) | (with_reducible refine fun (_ : _ = true) => ?_) | (with_reducible refine fun (_ : _ = false) => ?_) | (with_reducible exact ev_c) | ((with_reducible apply ev_var); rfl) | (with_reducible apply ev_op) | (with_reducible apply ev_un) | (with_reducible apply ev_cb) | (with_reducible apply ea_cons) | (with_reducible apply ev_andV) | (with_reducible apply ev_orV) | (with_reducible apply ev_notV) | (with_reducible apply ev_if) | (with_reducible apply eo_some) | (with_reducible apply el_lst) | (with_reducible exact ea_nil) | (with_reducible exact rv_I0) | (with_reducible exact ru_neg) | (with_reducible exact rv_ltS) | (with_reducible exact rv_inC) | (with_reducible exact rv_notInC) | (with_reducible exact rc_intI) | (with_reducible exact rc_intB) | (with_reducible exact rc_min2) | (with_reducible exact rc_isStr) | (with_reducible exact eo_none) | (with_reducible exact rv_inSS) | (with_reducible exact rv_notInSS) | (with_reducible exact rv_ltSS) | (with_reducible exact rv_eqSS) | (with_reducible exact rv_eqII) | (with_reducible exact rv_neII) | (with_reducible exact rv_neSS) | ((with_reducible refine rc_lenSS ?_); (first | assumption | omega | decide | (simp only [S_len] at *; omega))) | ((with_reducible refine rc_lenStr ?_); (first | assumption | omega | decide | (simp only [S_len] at *; omega))) | ((with_reducible refine rv_catSS ?_); (first | assumption | omega | decide | (simp only [S_len] at *; omega))) | (with_reducible exact rv_eq rfl) | (with_reducible exact rv_ne rfl) | ((with_reducible refine rc_lenS ?_); (first | assumption | omega | decide | (simp only [S_len] at *; omega))) | ((with_reducible refine rc_lenL ?_); assumption) | ((with_reducible apply rv_ixL); assumption; rfl) | ((with_reducible refine rv_catS ?_); (first | assumption | omega | decide | (simp only [S_len] at *; omega))) | ((with_reducible refine rv_I ?_); (first | (show (0 : Int) < _; (first | assumption | omega | decide | (simp only [S_len] at *; omega))) | exact .inr ⟨by decide, by decide⟩ | exact .inl ⟨by (first | assumption | omega | decide | (simp only [S_len] at *; omega)), by (first | assumption | omega | decide | (simp only [S_len] at *; omega))⟩ | exact .inr ⟨by (first | assumption | omega | decide | (simp only [S_len] at *; omega)), by (first | assumption | omega | decide | (simp only [S_len] at *; omega))⟩ | exact ⟨by decide, by decide, by decide⟩ | exact wide_div (b := 128) (by (first | assumption | omega | decide | (simp only [S_len] at *; omega))) (by (first | assumption | omega | decide | (simp only [S_len] at *; omega))) (by decide) (by decide))))) fun H5 e5 => ?_
      have d1 := Int.emod_nonneg (m2 * 40692 + m2 / 1013 + c * 7919) (show (2147483563 : Int) ≠ 0 by decide)
      have d2 := Int.emod_lt_of_pos (m2 * 40692 + m2 / 1013 + c * 7919) (show (0 : Int) < 2147483563 by decide)
      generalize (m2 * 40692 + m2 / 1013 + c * 7919) % 2147483563 = m3 at d1 d2 ⊢
      refine q_asg (v := .int ((m3 * m3 + m2) % 2147483543)) (by repeat' (first | ((with_reducible refine ev_pow10 ?_ ?_ ?_) <;> first | rfl | decide) | (with_reducible refine fun (_ : _ = true) => ?_) | (with_reducible refine fun (_ : _ = false) => ?_) | (with_reducible exact ev_c) | ((with_reducible apply ev_var); rfl) | (with_reducible apply ev_op) | (with_reducible apply ev_un) | (with_reducible apply ev_cb) | (with_reducible apply ea_cons) | (with_reducible apply ev_andV) | (with_reducible apply ev_orV) | (with_reducible apply ev_notV) | (with_reducible apply ev_if) | (with_reducible apply eo_some) | (with_reducible apply el_lst) | (with_reducible exact ea_nil) | (with_reducible exact rv_I0) | (with_reducible exact ru_neg) | (with_reducible exact rv_ltS) | (with_reducible exact rv_inC) | (with_reducible exact rv_notInC) | (with_reducible exact rc_intI) | (with_reducible exact rc_intB) | (with_reducible exact rc_min2) | (with_reducible exact rc_isStr) | (with_reducible exact eo_none) | (with_reducible exact rv_inSS) | (with_reducible exact rv_notInSS) | (with_reducible exact rv_ltSS) | (with_reducible exact rv_eqSS) | (with_reducible exact rv_eqII) | (with_reducible exact rv_neII) | (with_reducible exact rv_neSS) | ((with_reducible refine rc_lenSS ?_); (first | assumption | omega | decide | (simp only [S_len] at *; omega))) | ((with_reducible refine rc_lenStr ?_); (first | assumption | omega | decide | (simp only [S_len] at *; omega))) | ((with_reducible refine rv_catSS ?_); (first | assumption | omega | decide | (simp only [S_len] at *; omega))) | (with_reducible exact rv_eq rfl) | (with_reducible exact rv_ne rfl) | ((with_reducible refine rc_lenS ?_); (first | assumption | omega | decide | (simp only [S_len] at *; omega))) | ((with_reducible refine rc_lenL ?_); assumption) | ((with_reducible apply rv_ixL); assumption; rfl) | ((with_reducible refine rv_catS ?_); (first | assumption | omega | decide | (simp only [S_len] at *; omega))) | ((with_reducible refine rv_I ?_); (first | (show (0 : Int) < _; (first | assumption | omega | decide | (simp only [S_len] at *; omega))) | exact .inr ⟨by decide, by decide⟩ | exact .inl ⟨by (first | assumption | omega | decide | (simp only [S_len] at *; omega)), by (first | assumption | omega | decide | (simp only [S_len] at *; omega))⟩ | exact .inr ⟨by (first | assumption | omega | decide | (simp only [S_len] at *; omega)), by (first | assumption | omega | decide | (simp only [S_len] at *; omega))⟩ | exact ⟨by decide, by decide, by decide⟩ | exact wide_div (b := 128) (by (first | assumption | omega | decide | (simp only [S_len] at *; omega))) (by (first | assumption | omega | decide | (simp only [S_len] at *; omega))) (by decide) (by decide))))) fun H6 e6 => ?_
      refine s_ret (v := .int ((m3 * m3 + m2) % 2147483543 / 5 % many)) (by repeat' (first | ((with_reducible refine ev_pow10 ?_ ?_ ?_) <;> first | rfl | decide) | (with_reducible refine fun (_ : _ = true) => ?_) | (with_reducible refine fun (_ : _ = false) => ?_) | (with_reducible exact ev_c) | ((with_reducible apply ev_var); rfl) | (with_reducible apply ev_op) | (with_reducible apply ev_un) | (with_reducible apply ev_cb) | (with_reducible apply ea_cons) | (with_reducible apply ev_andV) | (with_reducible apply ev_orV) | (with_reducible apply ev_notV) | (with_reducible apply ev_if) | (with_reducible apply eo_some) | (with_reducible apply el_lst) | (with_reducible exact ea_nil) | (with_reducible exact rv_I0) | (with_reducible exact ru_neg) | (with_reducible exact rv_ltS) | (with_reducible exact rv_inC) | (with_reducible exact rv_notInC) | (with_reducible exact rc_intI) | (with_reducible exact rc_intB) | (with_reducible exact rc_min2) | (with_reducible exact rc_isStr) | (with_reducible exact eo_none) | (with_reducible exact rv_inSS) | (with_reducible exact rv_notInSS) | (with_reducible exact rv_ltSS) | (with_reducible exact rv_eqSS) | (with_reducible exact rv_eqII) | (with_reducible exact rv_neII) | (with_reducible exact rv_neSS) | ((with_reducible refine rc_lenSS ?_); (first | assumption | omega | decide | (simp only [S_len] at *; omega))) | ((with_reducible refine rc_lenStr ?_); (first | assumption | omega | decide | (simp only [S_len] at *; omega))) | ((with_reducible refine rv_catSS ?_); (first | assumption | omega | decide | (simp only [S_len] at *; omega))) | (with_reducible exact rv_eq rfl) | (with_reducible exact rv_ne rfl) | ((with_reducible refine rc_lenS ?_); (first | assumption | omega | decide | (simp only [S_len] at *; omega))) | ((with_reducible refine rc_lenL ?_); assumption) | ((with_reducible apply rv_ixL); assumption; rfl) | ((with_reducible refine rv_catS ?_); (first | assumption | omega | decide | (simp only [S_len] at *; omega))) | ((with_reducible refine rv_I ?_); (first | (show (0 : Int) < _; (first | assumption | omega | decide | (simp only [S_len] at *; omega))) | exact .inr ⟨by decide, by decide⟩ | exact .inl ⟨by (first | assumption | omega | decide | (simp only [S_len] at *; omega)), by (first | assumption | omega | decide | (simp only [S_len] at *; omega))⟩ | exact .inr ⟨by (first | assumption | omega | decide | (simp only [S_len] at *; omega)), by (first | assumption | omega | decide | (simp only [S_len] at *; omega))⟩ | exact ⟨by decide, by decide, by decide⟩ | exact wide_div (b := 128) (by (first | assumption | omega | decide | (simp only [S_len] at *; omega))) (by (first | assumption | omega | decide | (simp only [S_len] at *; omega))) (by decide) (by decide))))) fun H7 e7 => ?_
      have e27 := ((((e2.trans e3).trans e4).trans e5).trans e6).trans e7
      exact q _ _ (Int.emod_nonneg _ (by omega)) (Int.emod_lt_of_pos _ hm) (x1.trans (ExB.of e27)) ⟨i, j, c, e27 _ _ h1⟩
theorem sp_take_then {σ : L2.St} {H : Hp} {b : Addr} {i : Nat} {te : TE} {many : Int} {E : XK} {Q : VK} (hv : σ[i]? = some (some (.ref b))) (hb : Bx H b) (he : Ev te σ H (.int many)) (h0 : 0 < many) (h1 : many.natAbs < 2 ^ 128)
    (k : ∀ d H', 0 ≤ d → d < many → ExB b H H' → Bx H' b → Q (.int d) H') : tCall sp_law_take [] E (tCons (tVar i) (tCons te tNil)) σ H Q :=
  ⟨_, hv, he H (Ex.refl H) _ fun H1 e1 => ⟨b, many, rfl, hb.ex e1, h0, h1, fun d H' d0 d1 x y => k d H' d0 d1 ((ExB.of e1).trans x) y⟩⟩
/-! ### cells and boxes -/
def cellV (ns : List Int) (at_ : Int) : Int := if at_ < ns.length then ns.getD at_.toNat 0 else (at_ + 3) * 7919 + ns.sum % 1000003
def sp_law_cell (K : PySem.W.Frag) : Sp := fun vs H Q _ => ∃ (a : Addr) (ns : List Int) (at_ : Int), vs = [.ref a, .int at_] ∧ SqL K H a (ns.map V.int) ∧ 0 ≤ at_ ∧ at_ < 1000 ∧ RetV (.int (cellV ns at_)) H Q
theorem ok_law_cell (T : Tx K mg w) : OkD P w K mg base 1 d_law_cell ps_law_cell (sp_law_cell K) := by
  refine (h_law_cell T).ok sc_law_cell (fun vs H Q E h => ?_) (fun cdv A outer s H vs Q E hr h => ⟨_,
      (pss_cons (ps_if (pt_cmpR op_lt (pv 1) (pe_callB call_len (by rfl) (m_len T) (by decide +kernel) (pa_cons (pv 0) pa_nil)) (nomark _)) (pss_one (ps_ret (pe_ix ix_list (pv 0) (pv 1) (fun _ _ => rfl)))) pss_nil)
      (pss_one (ps_ret (pe_op op_add (pe_op op_mul (pe_op op_add (pv 1) pe_int) pe_int) (pe_op op_mod (pe_callTy call_int1 (by rfl) (m_int T) (by decide +kernel) (pa_cons (pe_callB (cr_sum rfl) (by rfl) (m_sum T) (by decide +kernel) (pa_cons (pv 0) pa_nil)) pa_nil)) pe_int))))), ?_⟩)
  · obtain ⟨a, ns, at_, rfl, _⟩ := h
    rfl
  · obtain ⟨a, ns, at_, rfl, hs, h0, h1, q⟩ := h
    refine q_when (b := decide (at_ < (ns.length : Int))) ?_ (fun hc H1 e1 => ?_) (fun hc H1 e1 => ?_)
    · have hl := rc_lenL (K := K) hs
      rw [List.length_map] at hl
      exact et_test (ev_op (ev_var rfl) (ev_cb (ea_cons (ev_var rfl) ea_nil) hl) rv_I0)
    · have hlt : at_ < ns.length := of_decide_eq_true hc
      refine s_ret (ev_op (by exact ev_var rfl) (by exact ev_var rfl) (rv_ixL (ex_l e1 hs) (atI_int h0 hlt))) fun H2 e2 => ?_
      have q2 := q H2 (e1.trans e2)
      unfold cellV at q2
      rw [if_pos hlt] at q2
      exact q2
    · have hge : ¬ at_ < ns.length := of_decide_eq_false hc
      have hint := ev_cb (ea_cons (ev_cb (ea_cons (ev_var (σ := L2.start ns_law_cell [.ref a, .int at_]) (i := 0) rfl) ea_nil) (rc_sum (K := K) (ex_l e1 hs))) ea_nil) rc_intI
      have hmod := ev_op hint (ev_c (v := .int 1000003)) (rv_I (C := fun _ j => 0 < j) (g := fun i j => .int (i % j)) (by decide))
      have hx : Ev (tOp (rI CMul fun i j => V.int (i * j)) (tOp (rI0 fun i j => V.int (i + j)) (tVar 1) (tC (V.int 3))) (tC (V.int 7919))) (L2.start ns_law_cell [.ref a, .int at_]) H1 (.int ((at_ + 3) * 7919)) := by repeat' (first | ((with_reducible refine ev_pow10 ?_ ?_ ?_) <;> first | rfl | decide) | (with_reducible refine fun (_ : _ = true) => ?_) | (with_reducible refine fun (_ : _ = false) => ?_) | (with_reducible exact ev_c) | ((with_reducible apply ev_var); rfl) | (with_reducible apply ev_op) | (with_reducible apply ev_un) | (with_reducible apply ev_cb) | (with_reducible apply ea_cons) | (with_reducible apply ev_andV) | (with_reducible apply ev_orV) | (with_reducible apply ev_notV) | (with_reducible apply ev_if) | (with_reducible apply eo_some) | (with_reducible apply el_lst) | (with_reducible exact ea_nil) | (with_reducible exact rv_I0) | (with_reducible exact ru_neg) | (with_reducible exact rv_ltS) | (with_reducible exact rv_inC) | (with_reducible exact rv_notInC) | (with_reducible exact rc_intI) | (with_reducible exact rc_intB) | (with_reducible exact rc_min2) | (with_reducible exact rc_isStr) | (with_reducible exact eo_none) | (with_reducible exact rv_inSS) | (with_reducible exact rv_notInSS) | (with_reducible exact rv_ltSS) | (with_reducible exact rv_eqSS) | (with_reducible exact rv_eqII) | (with_reducible exact rv_neII) | (with_reducible exact rv_neSS) | ((with_reducible refine rc_lenSS ?_); (first | assumption | omega | decide | (simp only [S_len] at *; omega))) | ((with_reducible refine rc_lenStr ?_); (first | assumption | omega | decide | (simp only [S_len] at *; omega))) | ((with_reducible refine rv_catSS ?_); (first | assumption | omega | decide | (simp only [S_len] at *; omega))) | (with_reducible exact rv_eq rfl) | (with_reducible exact rv_ne rfl) | ((with_reducible refine rc_lenS ?_); (first | assumption | omega | decide | (simp only [S_len] at *; omega))) | ((with_reducible refine rc_lenL ?_); assumption) | ((with_reducible apply rv_ixL); assumption; rfl) | ((with_reducible refine rv_catS ?_); (first | assumption | omega | decide | (simp only [S_len] at *; omega))) | ((with_reducible refine rv_I ?_); (first | (show (0 : Int) < _; (first | assumption | omega | decide | (simp only [S_len] at *; omega))) | exact .inr ⟨by decide, by decide⟩ | exact .inl ⟨by (first | assumption | omega | decide | (simp only [S_len] at *; omega)), by (first | assumption | omega | decide | (simp only [S_len] at *; omega))⟩ | exact .inr ⟨by (first | assumption | omega | decide | (simp only [S_len] at *; omega)), by (first | assumption | omega | decide | (simp only [S_len] at *; omega))⟩ | exact ⟨by decide, by decide, by decide⟩ | exact wide_div (b := 128) (by (first | assumption | omega | decide | (simp only [S_len] at *; omega))) (by (first | assumption | omega | decide | (simp only [S_len] at *; omega))) (by decide) (by decide))))
      refine s_ret (ev_op hx hmod rv_I0) fun H2 e2 => ?_
      have q2 := q H2 (e1.trans e2)
      unfold cellV at q2
      rw [if_neg hge] at q2
      dsimp only
      exact q2
def sp_law_box (K : PySem.W.Frag) : Sp := fun vs H Q _ => ∃ (a : Addr) (ns : List Int) (at_ : Int), vs = [.ref a, .int at_] ∧ SqL K H a (ns.map V.int) ∧ 0 ≤ at_ ∧ at_ < 1000 ∧ ∀ p H', H p = none → Ex H H' → Bx H' p → Q (.ref p) H'
theorem ok_law_box (T : Tx K mg w) : OkD P w K mg base 2 d_law_box ps_law_box (sp_law_box K) := by
  refine (h_law_box T).ok sc_law_box (fun vs H Q E h => ?_) (fun cdv A outer s H vs Q E hr h => ⟨_,
      (pss_cons (ps_set (i := 2) sc_law_box.nd rfl (Or.inl rfl) (pe_call (ok_law_cell (P := P) (w := w) (base := base) T) (hr.mono (by decide)) (by rfl) (m_law_cell T) (k_law_cell T) (b_law_cell T) .nil passN (pa_cons (pv 0) (pa_cons (pv 1) pa_nil))))
      (pss_cons (ps_set (i := 3) sc_law_box.nd rfl (Or.inl rfl) pe_int)
      (pss_cons (ps_if (pt_cmpR op_ge (pv 2) (pe_op op_pow pe_int pe_int) (nomark _)) (pss_one (ps_set (i := 3) sc_law_box.nd rfl (Or.inl rfl) (pv 2))) pss_nil)
      (pss_one (ps_ret (pe_lst (pa_cons (pv 3) (pa_cons (pe_op op_mod (pe_callTy call_int1 (by rfl) (m_int T) (by decide +kernel) (pa_cons (pv 2) pa_nil)) pe_int) (pa_cons pe_int pa_nil))))))))), ?_⟩)
  · obtain ⟨a, ns, at_, rfl, _⟩ := h
    rfl
  · obtain ⟨a, ns, at_, rfl, hs, h0, h1, q⟩ := h
    refine q_asg (v := .int (cellV ns at_)) (ev_call (by repeat' (first | ((with_reducible refine ev_pow10 ?_ ?_ ?_) <;> first | rfl | decide) | (with_reducible refine fun (_ : _ = true) => ?_) | (with_reducible refine fun (_ : _ = false) => ?_) | (with_reducible exact ev_c) | ((with_reducible apply ev_var); rfl) | (with_reducible apply ev_op) | (with_reducible apply ev_un) | (with_reducible apply ev_cb) | (with_reducible apply ea_cons) | (with_reducible apply ev_andV) | (with_reducible apply ev_orV) | (with_reducible apply ev_notV) | (with_reducible apply ev_if) | (with_reducible apply eo_some) | (with_reducible apply el_lst) | (with_reducible exact ea_nil) | (with_reducible exact rv_I0) | (with_reducible exact ru_neg) | (with_reducible exact rv_ltS) | (with_reducible exact rv_inC) | (with_reducible exact rv_notInC) | (with_reducible exact rc_intI) | (with_reducible exact rc_intB) | (with_reducible exact rc_min2) | (with_reducible exact rc_isStr) | (with_reducible exact eo_none) | (with_reducible exact rv_inSS) | (with_reducible exact rv_notInSS) | (with_reducible exact rv_ltSS) | (with_reducible exact rv_eqSS) | (with_reducible exact rv_eqII) | (with_reducible exact rv_neII) | (with_reducible exact rv_neSS) | ((with_reducible refine rc_lenSS ?_); (first | assumption | omega | decide | (simp only [S_len] at *; omega))) | ((with_reducible refine rc_lenStr ?_); (first | assumption | omega | decide | (simp only [S_len] at *; omega))) | ((with_reducible refine rv_catSS ?_); (first | assumption | omega | decide | (simp only [S_len] at *; omega))) | (with_reducible exact rv_eq rfl) | (with_reducible exact rv_ne rfl) | ((with_reducible refine rc_lenS ?_); (first | assumption | omega | decide | (simp only [S_len] at *; omega))) | ((with_reducible refine rc_lenL ?_); assumption) | ((with_reducible apply rv_ixL); assumption; rfl) | ((with_reducible refine rv_catS ?_); (first | assumption | omega | decide | (simp only [S_len] at *; omega))) | ((with_reducible refine rv_I ?_); (first | (show (0 : Int) < _; (first | assumption | omega | decide | (simp only [S_len] at *; omega))) | exact .inr ⟨by decide, by decide⟩ | exact .inl ⟨by (first | assumption | omega | decide | (simp only [S_len] at *; omega)), by (first | assumption | omega | decide | (simp only [S_len] at *; omega))⟩ | exact .inr ⟨by (first | assumption | omega | decide | (simp only [S_len] at *; omega)), by (first | assumption | omega | decide | (simp only [S_len] at *; omega))⟩ | exact ⟨by decide, by decide, by decide⟩ | exact wide_div (b := 128) (by (first | assumption | omega | decide | (simp only [S_len] at *; omega))) (by (first | assumption | omega | decide | (simp only [S_len] at *; omega))) (by decide) (by decide))))) fun H1 e1 Q1 q1 E1 => ⟨a, ns, at_, rfl, ex_l e1 hs, h0, h1, q1⟩) fun H1 e1 => ?_
    generalize cellV ns at_ = cl
    refine q_asg ev_c fun H2 e2 => ?_
    refine q_when (b := decide ((1000000000000000000 : Int) ≤ cl)) ?_ (fun hc H3 e3 => ?_) (fun hc H3 e3 => ?_)
    · exact et_test (ev_op (ev_var rfl) (ev_pow10 (by decide) (by decide) (by decide)) rv_I0)
    · refine s_asg (by exact ev_var rfl) fun H4 e4 => ?_
      dsimp only
      exact s_retL (el_lst (by repeat' (first | ((with_reducible refine ev_pow10 ?_ ?_ ?_) <;> first | rfl | decide) | (with_reducible refine fun (_ : _ = true) => ?_) | (with_reducible refine fun (_ : _ = false) => ?_) | (with_reducible exact ev_c) | ((with_reducible apply ev_var); rfl) | (with_reducible apply ev_op) | (with_reducible apply ev_un) | (with_reducible apply ev_cb) | (with_reducible apply ea_cons) | (with_reducible apply ev_andV) | (with_reducible apply ev_orV) | (with_reducible apply ev_notV) | (with_reducible apply ev_if) | (with_reducible apply eo_some) | (with_reducible apply el_lst) | (with_reducible exact ea_nil) | (with_reducible exact rv_I0) | (with_reducible exact ru_neg) | (with_reducible exact rv_ltS) | (with_reducible exact rv_inC) | (with_reducible exact rv_notInC) | (with_reducible exact rc_intI) | (with_reducible exact rc_intB) | (with_reducible exact rc_min2) | (with_reducible exact rc_isStr) | (with_reducible exact eo_none) | (with_reducible exact rv_inSS) | (with_reducible exact rv_notInSS) | (with_reducible exact rv_ltSS) | (with_reducible exact rv_eqSS) | (with_reducible exact rv_eqII) | (with_reducible exact rv_neII) | (with_reducible exact rv_neSS) | ((with_reducible refine rc_lenSS ?_); (first | assumption | omega | decide | (simp only [S_len] at *; omega))) | ((with_reducible refine rc_lenStr ?_); (first | assumption | omega | decide | (simp only [S_len] at *; omega))) | ((with_reducible refine rv_catSS ?_); (first | assumption | omega | decide | (simp only [S_len] at *; omega))) | (with_reducible exact rv_eq rfl) | (with_reducible exact rv_ne rfl) | ((with_reducible refine rc_lenS ?_); (first | assumption | omega | decide | (simp only [S_len] at *; omega))) | ((with_reducible refine rc_lenL ?_); assumption) | ((with_reducible apply rv_ixL); assumption; rfl) | ((with_reducible refine rv_catS ?_); (first | assumption | omega | decide | (simp only [S_len] at *; omega))) | ((with_reducible refine rv_I ?_); (first | (show (0 : Int) < _; (first | assumption | omega | decide | (simp only [S_len] at *; omega))) | exact .inr ⟨by decide, by decide⟩ | exact .inl ⟨by (first | assumption | omega | decide | (simp only [S_len] at *; omega)), by (first | assumption | omega | decide | (simp only [S_len] at *; omega))⟩ | exact .inr ⟨by (first | assumption | omega | decide | (simp only [S_len] at *; omega)), by (first | assumption | omega | decide | (simp only [S_len] at *; omega))⟩ | exact ⟨by decide, by decide, by decide⟩ | exact wide_div (b := 128) (by (first | assumption | omega | decide | (simp only [S_len] at *; omega))) (by (first | assumption | omega | decide | (simp only [S_len] at *; omega))) (by decide) (by decide))))) (by simp)) fun p H5 hp e5 h5 => q p H5 (fresh_back (((e1.trans e2).trans e3).trans e4) hp) ((((e1.trans e2).trans e3).trans e4).trans e5) ⟨_, _, _, h5⟩
    · exact s_retL (el_lst (by repeat' (first | ((with_reducible refine ev_pow10 ?_ ?_ ?_) <;> first | rfl | decide) | (with_reducible refine fun (_ : _ = true) => ?_) | (with_reducible refine fun (_ : _ = false) => ?_) | (with_reducible exact ev_c) | ((with_reducible apply ev_var); rfl) | (with_reducible apply ev_op) | (with_reducible apply ev_un) | (with_reducible apply ev_cb) | (with_reducible apply ea_cons) | (with_reducible apply ev_andV) | (with_reducible apply ev_orV) | (with_reducible apply ev_notV) | (with_reducible apply ev_if) | (with_reducible apply eo_some) | (with_reducible apply el_lst) | (with_reducible exact ea_nil) | (with_reducible exact rv_I0) | (with_reducible exact ru_neg) | (with_reducible exact rv_ltS) | (with_reducible exact rv_inC) | (with_reducible exact rv_notInC) | (with_reducible exact rc_intI) | (with_reducible exact rc_intB) | (with_reducible exact rc_min2) | (with_reducible exact rc_isStr) | (with_reducible exact eo_none) | (with_reducible exact rv_inSS) | (with_reducible exact rv_notInSS) | (with_reducible exact rv_ltSS) | (with_reducible exact rv_eqSS) | (with_reducible exact rv_eqII) | (with_reducible exact rv_neII) | (with_reducible exact rv_neSS) | ((with_reducible refine rc_lenSS ?_); (first | assumption | omega | decide | (simp only [S_len] at *; omega))) | ((with_reducible refine rc_lenStr ?_); (first | assumption | omega | decide | (simp only [S_len] at *; omega))) | ((with_reducible refine rv_catSS ?_); (first | assumption | omega | decide | (simp only [S_len] at *; omega))) | (with_reducible exact rv_eq rfl) | (with_reducible exact rv_ne rfl) | ((with_reducible refine rc_lenS ?_); (first | assumption | omega | decide | (simp only [S_len] at *; omega))) | ((with_reducible refine rc_lenL ?_); assumption) | ((with_reducible apply rv_ixL); assumption; rfl) | ((with_reducible refine rv_catS ?_); (first | assumption | omega | decide | (simp only [S_len] at *; omega))) | ((with_reducible refine rv_I ?_); (first | (show (0 : Int) < _; (first | assumption | omega | decide | (simp only [S_len] at *; omega))) | exact .inr ⟨by decide, by decide⟩ | exact .inl ⟨by (first | assumption | omega | decide | (simp only [S_len] at *; omega)), by (first | assumption | omega | decide | (simp only [S_len] at *; omega))⟩ | exact .inr ⟨by (first | assumption | omega | decide | (simp only [S_len] at *; omega)), by (first | assumption | omega | decide | (simp only [S_len] at *; omega))⟩ | exact ⟨by decide, by decide, by decide⟩ | exact wide_div (b := 128) (by (first | assumption | omega | decide | (simp only [S_len] at *; omega))) (by (first | assumption | omega | decide | (simp only [S_len] at *; omega))) (by decide) (by decide))))) (by simp)) fun p H4 hp e4 h4 => q p H4 (fresh_back ((e1.trans e2).trans e3) hp) (((e1.trans e2).trans e3).trans e4) ⟨_, _, _, h4⟩
/-! ### kinds and sums -/
def SG : List Nat := [35, 46, 58, 65, 66, 67, 68, 97, 98, 99, 100]
theorem sg_eq : (V.str "#.:ABCDabcd" : V) = V.str (S SG) := congrArg V.str (by decide +kernel)
def kd (c : Nat) : Int := if 97 ≤ c ∧ c ≤ 100 then (c : Int) - 97 else if 65 ≤ c ∧ c ≤ 68 then (c : Int) - 65 else -1
theorem kd_find : ∀ c ∈ SG, (if Txt.find (S [65, 66, 67, 68]) (S [c]) > Txt.find (S [97, 98, 99, 100]) (S [c]) then Txt.find (S [65, 66, 67, 68]) (S [c]) else Txt.find (S [97, 98, 99, 100]) (S [c])) = kd c := by decide +kernel
theorem ev_find {σ : L2.St} {H : Hp} {to te : TE} {a b : List Nat} (h1 : Ev to σ H (.str (S a))) (h2 : Ev te σ H (.str (S b))) : Ev (tBM K "str" (fun x xs H Q => ∃ a b, x = .str a ∧ xs = [.str b] ∧ Q (.int (Txt.find a b)) H) to (tCons te tNil)) σ H (.int (Txt.find (S a) (S b))) := fun H1 e1 Q q =>
  h1 H1 e1 _ fun H2 e2 => ⟨rfl, h2 H2 (e1.trans e2) _ fun H3 e3 => ⟨S a, S b, rfl, rfl, q H3 (e2.trans e3)⟩⟩
def sp_law_kind : Sp := fun vs H Q _ => ∃ c : Nat, vs = [.str (S [c])] ∧ c ∈ SG ∧ RetV (.int (kd c)) H Q
theorem ok_law_kind (T : Tx K mg w) : OkD P w K mg base 1 d_law_kind ps_law_kind sp_law_kind := by
  refine (h_law_kind T).ok sc_law_kind (fun vs H Q E h => ?_) (fun cdv A outer s H vs Q E hr h => ⟨_,
      (pss_one (ps_ret (pe_callB (call_max2 rfl) (by rfl) (m_max T) (by decide +kernel) (pa_cons (pe_bm PySem.F.plainAttrs_str PySem.F.slot_str_find PySem.F.type_str_find mt_find pe_str (pa_cons (pv 0) pa_nil)) (pa_cons (pe_bm PySem.F.plainAttrs_str PySem.F.slot_str_find PySem.F.type_str_find mt_find pe_str (pa_cons (pv 0) pa_nil)) pa_nil))))), ?_⟩)
  · obtain ⟨c, rfl, _⟩ := h
    rfl
  · obtain ⟨c, rfl, hc, q⟩ := h
    simp only [kc_2, kc_3, kc_6, kc_7, kc_8, kc_9, kc_10, kc_11, kc_12, kc_13, kc_14, kc_15, kc_16]
    rw [← kd_find c hc] at q
    exact s_ret (ev_cb (ea_cons (ev_find ev_c (by exact ev_var rfl)) (ea_cons (ev_find ev_c (by exact ev_var rfl)) ea_nil)) rc_max2) fun H1 e1 => q H1 e1
end
end K54
namespace K54
open PySem PySem.Spec PyProof.Rows L2 Lc Evl
section
variable {P : Program} {w : World} {K : PySem.W.Frag} {mg : Str → Option Value} {base : Heap}
/-! ### numbers drawn -/
theorem ei_take {σ : L2.St} {b : Addr} {i : Nat} {te : TE} {many : Int} {E : XK} (hv : σ[i]? = some (some (.ref b))) (he : ∀ H1, Ev te σ H1 (.int many)) (h0 : 0 < many) (h1 : many.natAbs < 2 ^ 128) : EvI b (tCall sp_law_take [] E (tCons (tVar i) (tCons te tNil))) σ fun d => 0 ≤ d ∧ d < many :=
  fun H1 hb Q q => sp_take_then hv hb (he H1) h0 h1 fun d H' d0 d1 e b2 => q d H' ⟨d0, d1⟩ e b2
theorem s_retI {σ : L2.St} {H : Hp} {b : Addr} {te : TE} {Pd : Int → Prop} {D : Ends} (h : EvI b te σ Pd) (hb : Bx H b) (k : ∀ d H1, Pd d → ExB b H H1 → Bx H1 b → D.rt (.int d) H1) : tRet te D σ H := h H hb _ k
theorem q_asgI {σ : L2.St} {H : Hp} {b : Addr} {te : TE} {Pd : Int → Prop} {D : Ends} {i : Nat} {tz : TS} (h : EvI b te σ Pd) (hb : Bx H b) (k : ∀ d H1, Pd d → ExB b H H1 → Bx H1 b → tz D (σ.set i (some (.int d))) H1) : tSeq (tAsg te (gName i)) tz D σ H := h H hb _ k
def sp_law_entry : Sp := fun vs H Q _ => ∃ (b : Addr) (sc : Int), vs = [.ref b, .int sc] ∧ Bx H b ∧ ∀ d H', -(2 ^ 60) < d → d < 2 ^ 60 → ExB b H H' → Bx H' b → Q (.int d) H'
theorem ok_law_entry (T : Tx K mg w) : OkD P w K mg base 2 d_law_entry ps_law_entry sp_law_entry := by
  refine (h_law_entry T).ok sc_law_entry (fun vs H Q E h => ?_) (fun cdv A outer s H vs Q E hr h => ⟨_,
      (pss_cons (ps_if (pt_cmpR op_eq (pv 1) pe_int (nomark _)) (pss_one (ps_ret (pe_op op_sub (pe_call (ok_law_take (P := P) (w := w) (base := base) T) (hr.mono (by decide)) (by rfl) (m_law_take T) (k_law_take T) (b_law_take T) .nil passN (pa_cons (pv 0) (pa_cons pe_int pa_nil))) pe_int))) pss_nil)
      (pss_cons (ps_if (pt_cmpR op_eq (pv 1) pe_int (nomark _)) (pss_one (ps_ret (pe_op op_sub (pe_call (ok_law_take (P := P) (w := w) (base := base) T) (hr.mono (by decide)) (by rfl) (m_law_take T) (k_law_take T) (b_law_take T) .nil passN (pa_cons (pv 0) (pa_cons pe_int pa_nil))) pe_int))) pss_nil)
      (pss_cons (ps_set (i := 2) sc_law_entry.nd rfl (Or.inl rfl) (pe_op op_add (pe_op op_add (pe_op op_mul (pe_call (ok_law_take (P := P) (w := w) (base := base) T) (hr.mono (by decide)) (by rfl) (m_law_take T) (k_law_take T) (b_law_take T) .nil passN (pa_cons (pv 0) (pa_cons (pe_op op_pow pe_int pe_int) pa_nil))) (pe_op op_pow pe_int pe_int)) (pe_op op_mul (pe_call (ok_law_take (P := P) (w := w) (base := base) T) (hr.mono (by decide)) (by rfl) (m_law_take T) (k_law_take T) (b_law_take T) .nil passN (pa_cons (pv 0) (pa_cons (pe_op op_pow pe_int pe_int) pa_nil))) (pe_op op_pow pe_int pe_int))) (pe_call (ok_law_take (P := P) (w := w) (base := base) T) (hr.mono (by decide)) (by rfl) (m_law_take T) (k_law_take T) (b_law_take T) .nil passN (pa_cons (pv 0) (pa_cons (pe_op op_pow pe_int pe_int) pa_nil)))))
      (pss_one (ps_ret (pe_op op_mul (pv 2) (pe_op op_sub pe_int (pe_op op_mul pe_int (pe_call (ok_law_take (P := P) (w := w) (base := base) T) (hr.mono (by decide)) (by rfl) (m_law_take T) (k_law_take T) (b_law_take T) .nil passN (pa_cons (pv 0) (pa_cons pe_int pa_nil))))))))))), ?_⟩)
  · obtain ⟨b, sc, rfl, _⟩ := h
    rfl
  · obtain ⟨b, sc, rfl, hb, q⟩ := h
    refine q_when (b := decide (sc = 0)) (by first | ((with_reducible apply et_test); (repeat' (first | ((with_reducible refine ev_pow10 ?_ ?_ ?_) <;> first | rfl | decide) | (with_reducible refine fun (_ : _ = true) => ?_) | (with_reducible refine fun (_ : _ = false) => ?_) | (with_reducible exact ev_c) | ((with_reducible apply ev_var); rfl) | (with_reducible apply ev_op) | (with_reducible apply ev_un) | (with_reducible apply ev_cb) | (with_reducible apply ea_cons) | (with_reducible apply ev_andV) | (with_reducible apply ev_orV) | (with_reducible apply ev_notV) | (with_reducible apply ev_if) | (with_reducible apply eo_some) | (with_reducible apply el_lst) | (with_reducible exact ea_nil) | (with_reducible exact rv_I0) | (with_reducible exact ru_neg) | (with_reducible exact rv_ltS) | (with_reducible exact rv_inC) | (with_reducible exact rv_notInC) | (with_reducible exact rc_intI) | (with_reducible exact rc_intB) | (with_reducible exact rc_min2) | (with_reducible exact rc_isStr) | (with_reducible exact eo_none) | (with_reducible exact rv_inSS) | (with_reducible exact rv_notInSS) | (with_reducible exact rv_ltSS) | (with_reducible exact rv_eqSS) | (with_reducible exact rv_eqII) | (with_reducible exact rv_neII) | (with_reducible exact rv_neSS) | ((with_reducible refine rc_lenSS ?_); (first | assumption | omega | decide | (simp only [S_len] at *; omega))) | ((with_reducible refine rc_lenStr ?_); (first | assumption | omega | decide | (simp only [S_len] at *; omega))) | ((with_reducible refine rv_catSS ?_); (first | assumption | omega | decide | (simp only [S_len] at *; omega))) | (with_reducible exact rv_eq rfl) | (with_reducible exact rv_ne rfl) | ((with_reducible refine rc_lenS ?_); (first | assumption | omega | decide | (simp only [S_len] at *; omega))) | ((with_reducible refine rc_lenL ?_); assumption) | ((with_reducible apply rv_ixL); assumption; rfl) | ((with_reducible refine rv_catS ?_); (first | assumption | omega | decide | (simp only [S_len] at *; omega))) | ((with_reducible refine rv_I ?_); (first | (show (0 : Int) < _; (first | assumption | omega | decide | (simp only [S_len] at *; omega))) | exact .inr ⟨by decide, by decide⟩ | exact .inl ⟨by (first | assumption | omega | decide | (simp only [S_len] at *; omega)), by (first | assumption | omega | decide | (simp only [S_len] at *; omega))⟩ | exact .inr ⟨by (first | assumption | omega | decide | (simp only [S_len] at *; omega)), by (first | assumption | omega | decide | (simp only [S_len] at *; omega))⟩ | exact ⟨by decide, by decide, by decide⟩ | exact wide_div (b := 128) (by (first | assumption | omega | decide | (simp only [S_len] at *; omega))) (by (first | assumption | omega | decide | (simp only [S_len] at *; omega))) (by decide) (by decide)))))) | ((with_reducible apply et_B); (repeat' (first | ((with_reducible refine ev_pow10 ?_ ?_ ?_) <;> first | rfl | decide) | (with_reducible refine fun (_ : _ = true) => ?_) | (with_reducible refine fun (_ : _ = false) => ?_) | (with_reducible exact ev_c) | ((with_reducible apply ev_var); rfl) | (with_reducible apply ev_op) | (with_reducible apply ev_un) | (with_reducible apply ev_cb) | (with_reducible apply ea_cons) | (with_reducible apply ev_andV) | (with_reducible apply ev_orV) | (with_reducible apply ev_notV) | (with_reducible apply ev_if) | (with_reducible apply eo_some) | (with_reducible apply el_lst) | (with_reducible exact ea_nil) | (with_reducible exact rv_I0) | (with_reducible exact ru_neg) | (with_reducible exact rv_ltS) | (with_reducible exact rv_inC) | (with_reducible exact rv_notInC) | (with_reducible exact rc_intI) | (with_reducible exact rc_intB) | (with_reducible exact rc_min2) | (with_reducible exact rc_isStr) | (with_reducible exact eo_none) | (with_reducible exact rv_inSS) | (with_reducible exact rv_notInSS) | (with_reducible exact rv_ltSS) | (with_reducible exact rv_eqSS) | (with_reducible exact rv_eqII) | (with_reducible exact rv_neII) | (with_reducible exact rv_neSS) | ((with_reducible refine rc_lenSS ?_); (first | assumption | omega | decide | (simp only [S_len] at *; omega))) | ((with_reducible refine rc_lenStr ?_); (first | assumption | omega | decide | (simp only [S_len] at *; omega))) | ((with_reducible refine rv_catSS ?_); (first | assumption | omega | decide | (simp only [S_len] at *; omega))) | (with_reducible exact rv_eq rfl) | (with_reducible exact rv_ne rfl) | ((with_reducible refine rc_lenS ?_); (first | assumption | omega | decide | (simp only [S_len] at *; omega))) | ((with_reducible refine rc_lenL ?_); assumption) | ((with_reducible apply rv_ixL); assumption; rfl) | ((with_reducible refine rv_catS ?_); (first | assumption | omega | decide | (simp only [S_len] at *; omega))) | ((with_reducible refine rv_I ?_); (first | (show (0 : Int) < _; (first | assumption | omega | decide | (simp only [S_len] at *; omega))) | exact .inr ⟨by decide, by decide⟩ | exact .inl ⟨by (first | assumption | omega | decide | (simp only [S_len] at *; omega)), by (first | assumption | omega | decide | (simp only [S_len] at *; omega))⟩ | exact .inr ⟨by (first | assumption | omega | decide | (simp only [S_len] at *; omega)), by (first | assumption | omega | decide | (simp only [S_len] at *; omega))⟩ | exact ⟨by decide, by decide, by decide⟩ | exact wide_div (b := 128) (by (first | assumption | omega | decide | (simp only [S_len] at *; omega))) (by (first | assumption | omega | decide | (simp only [S_len] at *; omega))) (by decide) (by decide))))))) (fun hc H1 e1 => ?_) (fun hc H1 e1 => ?_)
    · refine s_retI (Pd := fun d => -9 ≤ d ∧ d < 10) (ei_op (ei_take (many := 19) rfl (fun H => ev_c) (by decide) (by decide)) ei_c fun x y hx hy => by subst hy; omega) (hb.ex e1) fun d H2 hd e2 b2 => ?_
      exact q d H2 (by omega) (by omega) ((ExB.of e1).trans e2) b2
    refine q_when (b := decide (sc = 1)) (by first | ((with_reducible apply et_test); (repeat' (first | ((with_reducible refine ev_pow10 ?_ ?_ ?_) <;> first | rfl | decide) | (with_reducible refine fun (_ : _ = true) => ?_) | (with_reducible refine fun (_ : _ = false) => ?_) | (with_reducible exact ev_c) | ((with_reducible apply ev_var); rfl) | (with_reducible apply ev_op) | (with_reducible apply ev_un) | (with_reducible apply ev_cb) | (with_reducible apply ea_cons) | (with_reducible apply ev_andV) | (with_reducible apply ev_orV) | (with_reducible apply ev_notV) | (with_reducible apply ev_if) | (with_reducible apply eo_some) | (with_reducible apply el_lst) | (with_reducible exact ea_nil) | (with_reducible exact rv_I0) | (with_reducible exact ru_neg) | (with_reducible exact rv_ltS) | (with_reducible exact rv_inC) | (with_reducible exact rv_notInC) | (with_reducible exact rc_intI) | (with_reducible exact rc_intB) | (with_reducible exact rc_min2) | (with_reducible exact rc_isStr) | (with_reducible exact eo_none) | (with_reducible exact rv_inSS) | (with_reducible exact rv_notInSS) | (with_reducible exact rv_ltSS) | (with_reducible exact rv_eqSS) | (with_reducible exact rv_eqII) | (with_reducible exact rv_neII) | (with_reducible exact rv_neSS) | ((with_reducible refine rc_lenSS ?_); (first | assumption | omega | decide | (simp only [S_len] at *; omega))) | ((with_reducible refine rc_lenStr ?_); (first | assumption | omega | decide | (simp only [S_len] at *; omega))) | ((with_reducible refine rv_catSS ?_); (first | assumption | omega | decide | (simp only [S_len] at *; omega))) | (with_reducible exact rv_eq rfl) | (with_reducible exact rv_ne rfl) | ((with_reducible refine rc_lenS ?_); (first | assumption | omega | decide | (simp only [S_len] at *; omega))) | ((with_reducible refine rc_lenL ?_); assumption) | ((with_reducible apply rv_ixL); assumption; rfl) | ((with_reducible refine rv_catS ?_); (first | assumption | omega | decide | (simp only [S_len] at *; omega))) | ((with_reducible refine rv_I ?_); (first | (show (0 : Int) < _; (first | assumption | omega | decide | (simp only [S_len] at *; omega))) | exact .inr ⟨by decide, by decide⟩ | exact .inl ⟨by (first | assumption | omega | decide | (simp only [S_len] at *; omega)), by (first | assumption | omega | decide | (simp only [S_len] at *; omega))⟩ | exact .inr ⟨by (first | assumption | omega | decide | (simp only [S_len] at *; omega)), by (first | assumption | omega | decide | (simp only [S_len] at *; omega))⟩ | exact ⟨by decide, by decide, by decide⟩ | exact wide_div (b := 128) (by (first | assumption | omega | decide | (simp only [S_len] at *; omega))) (by (first | assumption | omega | decide | (simp only [S_len] at *; omega))) (by decide) (by decide)))))) | ((with_reducible apply et_B); (repeat' (first | ((with_reducible refine ev_pow10 ?_ ?_ ?_) <;> first | rfl | decide) | (with_reducible refine fun (_ : _ = true) => ?_) | (with_reducible refine fun (_ : _ = false) => ?_) | (with_reducible exact ev_c) | ((with_reducible apply ev_var); rfl) | (with_reducible apply ev_op) | (with_reducible apply ev_un) | (with_reducible apply ev_cb) | (with_reducible apply ea_cons) | (with_reducible apply ev_andV) | (with_reducible apply ev_orV) | (with_reducible apply ev_notV) | (with_reducible apply ev_if) | (with_reducible apply eo_some) | (with_reducible apply el_lst) | (with_reducible exact ea_nil) | (with_reducible exact rv_I0) | (with_reducible exact ru_neg) | (with_reducible exact rv_ltS) | (with_reducible exact rv_inC) | (with_reducible exact rv_notInC) | (with_reducible exact rc_intI) | (with_reducible exact rc_intB) | (with_reducible exact rc_min2) | (with_reducible exact rc_isStr) | (with_reducible exact eo_none) | (with_reducible exact rv_inSS) | (with_reducible exact rv_notInSS) | (with_reducible exact rv_ltSS) | (with_reducible exact rv_eqSS) | (with_reducible exact rv_eqII) | (with_reducible exact rv_neII) | (with_reducible exact rv_neSS) | ((with_reducible refine rc_lenSS ?_); (first | assumption | omega | decide | (simp only [S_len] at *; omega))) | ((with_reducible refine rc_lenStr ?_); (first | assumption | omega | decide | (simp only [S_len] at *; omega))) | ((with_reducible refine rv_catSS ?_); (first | assumption | omega | decide | (simp only [S_len] at *; omega))) | (with_reducible exact rv_eq rfl) | (with_reducible exact rv_ne rfl) | ((with_reducible refine rc_lenS ?_); (first | assumption | omega | decide | (simp only [S_len] at *; omega))) | ((with_reducible refine rc_lenL ?_); assumption) | ((with_reducible apply rv_ixL); assumption; rfl) | ((with_reducible refine rv_catS ?_); (first | assumption | omega | decide | (simp only [S_len] at *; omega))) | ((with_reducible refine rv_I ?_); (first | (show (0 : Int) < _; (first | assumption | omega | decide | (simp only [S_len] at *; omega))) | exact .inr ⟨by decide, by decide⟩ | exact .inl ⟨by (first | assumption | omega | decide | (simp only [S_len] at *; omega)), by (first | assumption | omega | decide | (simp only [S_len] at *; omega))⟩ | exact .inr ⟨by (first | assumption | omega | decide | (simp only [S_len] at *; omega)), by (first | assumption | omega | decide | (simp only [S_len] at *; omega))⟩ | exact ⟨by decide, by decide, by decide⟩ | exact wide_div (b := 128) (by (first | assumption | omega | decide | (simp only [S_len] at *; omega))) (by (first | assumption | omega | decide | (simp only [S_len] at *; omega))) (by decide) (by decide))))))) (fun hc H2 e2 => ?_) (fun hc H2 e2 => ?_)
    · refine s_retI (Pd := fun d => -99 ≤ d ∧ d < 100) (ei_op (ei_take (many := 199) rfl (fun H => ev_c) (by decide) (by decide)) ei_c fun x y hx hy => by subst hy; omega) (hb.ex (e1.trans e2)) fun d H3 hd e3 b3 => ?_
      exact q d H3 (by omega) (by omega) ((ExB.of (e1.trans e2)).trans e3) b3
    have tk5 : ∀ {σ : L2.St} {E : XK}, σ[0]? = some (some (.ref b)) → EvI b (tCall sp_law_take [] E (tCons (tVar 0) (tCons (tOp (rI CPow fun i j => V.int (i ^ j.toNat)) (tC (V.int 10)) (tC (V.int 5))) tNil))) σ fun d => 0 ≤ d ∧ d < 100000 := fun h => ei_take h (fun H => ev_pow10 (by decide) (by decide) (by decide)) (by decide) (by decide)
    have tk4 : ∀ {σ : L2.St} {E : XK}, σ[0]? = some (some (.ref b)) → EvI b (tCall sp_law_take [] E (tCons (tVar 0) (tCons (tOp (rI CPow fun i j => V.int (i ^ j.toNat)) (tC (V.int 10)) (tC (V.int 4))) tNil))) σ fun d => 0 ≤ d ∧ d < 10000 := fun h => ei_take h (fun H => ev_pow10 (by decide) (by decide) (by decide)) (by decide) (by decide)
    refine q_asgI (Pd := fun d => 0 ≤ d ∧ d < 100001000010000) (ei_op (Pa := fun d => 0 ≤ d ∧ d < 100001000000000) (ei_op (Pa := fun d => 0 ≤ d ∧ d < 100000000000000) (Pb := fun d => 0 ≤ d ∧ d < 1000000000)
      (ei_opC (Pb := (· = 1000000000)) (tk5 rfl) (ei_pow (by decide) (by decide) (by decide)) (fun x y hx hy => by subst hy; exact .inr ⟨by decide, by decide⟩) fun x y hx hy => by subst hy; omega)
      (ei_opC (Pb := (· = 10000)) (tk5 rfl) (ei_pow (by decide) (by decide) (by decide)) (fun x y hx hy => by subst hy; exact .inr ⟨by decide, by decide⟩) fun x y hx hy => by subst hy; omega) fun x y hx hy => by omega)
      (tk4 rfl) fun x y hx hy => by omega) (hb.ex (e1.trans e2)) fun d H3 hd e3 b3 => ?_
    refine s_retI (Pd := fun z => -100001000010000 < z ∧ z < 100001000010000) (ei_opC (Pb := fun z => z = 1 ∨ z = -1) (ei_var rfl) (ei_op ei_c (ei_opC (Pd := fun z => z = 0 ∨ z = 2) (Pb := fun d => 0 ≤ d ∧ d < 2) ei_c (ei_take rfl (fun H => ev_c) (by decide) (by decide)) (fun x y hx hy => by subst hx; exact .inl ⟨by decide, by decide⟩) fun x y hx hy => by subst hx; omega) fun x y hx hy => by subst hx; omega) (fun x y hx hy => by subst hx; exact .inl ⟨by omega, by omega⟩)
      fun x y hx hy => by
        subst hx
        rcases hy with rfl | rfl
        · omega
        · omega) b3 fun z H4 hz e4 b4 => ?_
    exact q z H4 (by omega) (by omega) (((ExB.of (e1.trans e2)).trans e3).trans e4) b4
def sp_law_line : Sp := fun vs H Q _ => ∃ (b : Addr) (g : List Nat) (n : Nat), vs = [.ref b, .str (S g), .int (n : Int)] ∧ Bx H b ∧ 0 < g.length ∧ g.length ≤ 100 ∧ n ≤ 1000 ∧ ∀ l H', l.length = n → (∀ c ∈ l, c ∈ g) → ExB b H H' → Bx H' b → Q (.str (S l)) H'
theorem ok_law_line (T : Tx K mg w) : OkD P w K mg base 2 d_law_line ps_law_line sp_law_line := by
  refine (h_law_line T).ok sc_law_line (fun vs H Q E h => ?_) (fun cdv A outer s H vs Q E hr h => ⟨_,
      (pss_cons (ps_set (i := 3) sc_law_line.nd rfl (Or.inl rfl) pe_str)
      (pss_cons (ps_for (passes_of rfl) rfl (pi_range1 rfl (m_range T) (pa_cons (pv 2) pa_nil)) (pg_name (i := 4) sc_law_line.nd rfl (Or.inl rfl)) (pss_one (ps_set (i := 3) sc_law_line.nd rfl (Or.inl rfl) (pe_op op_add_str (pv 3) (pe_ix ix_str (pv 1) (pe_call (ok_law_take (P := P) (w := w) (base := base) T) (hr.mono (by decide)) (by rfl) (m_law_take T) (k_law_take T) (b_law_take T) .nil passN (pa_cons (pv 0) (pa_cons (pe_callB call_len_str (by rfl) (m_len T) (by decide +kernel) (pa_cons (pv 1) pa_nil)) pa_nil))) (fun _ _ => rfl))))))
      (pss_one (ps_ret (pv 3))))), ?_⟩)
  · obtain ⟨b, g, n, rfl, _⟩ := h
    rfl
  · obtain ⟨b, g, n, rfl, hb, hg, hg2, hn, q⟩ := h
    have k1 : Str.ofString "" = S [] := by decide +kernel
    simp only [k1]
    refine q_asg ev_c fun H1 e1 => ?_
    refine q_forR1 (n := (n : Int)) (by exact ea_cons (ev_var rfl) ea_nil) (by omega) (fun i σ' H' => ExB b H H' ∧ Bx H' b ∧ ∃ (l : List Nat) (v4 : Option V), l.length = i ∧ (∀ c ∈ l, c ∈ g) ∧ σ' = [some (.ref b), some (.str (S g)), some (.int (n : Int)), some (.str (S l)), v4]) (fun H2 e2 => ⟨ExB.of (e1.trans e2), hb.ex (e1.trans e2), [], none, rfl, by simp, rfl⟩) ?_ ?_
    · rintro i σ' H' hi ⟨e, b1, l, v4, rfl, hl, rfl⟩
      dsimp only [List.set]
      refine asg_fst (op_fst ⟨_, rfl, ?_⟩)
      refine op_fst ⟨_, rfl, ?_⟩
      refine sp_take_then (b := b) (many := (g.length : Int)) rfl b1 (ev_cb (ea_cons (ev_var rfl) ea_nil) (rc_lenStr (by omega))) (by omega) (Nat.lt_of_le_of_lt (show (g.length : Int).natAbs ≤ 100 by omega) (by decide)) fun d H2 d0 d1 e2 b2 => ?_
      refine ⟨S g, d, g.getD d.toNat 0, rfl, rfl, sz_of (by rw [S_len]; omega), atI_i d0 (by exact d1) 0, ?_⟩
      refine ⟨S l, S [g.getD d.toNat 0], rfl, rfl, by rw [S_len, S_len]; exact sz_of (by simp; omega), ?_⟩
      rw [S_app]
      refine ⟨e.trans e2, b2, l ++ [g.getD d.toNat 0], _, by simp, ?_, rfl⟩
      intro c hc
      rcases List.mem_append.mp hc with hc | hc
      · exact hl c hc
      · have : c = g.getD d.toNat 0 := by simpa using hc
        rw [this]
        exact getD_in (by omega)
    · rintro σ' H' ⟨e, b1, l, v4, hl, hm, rfl⟩
      refine s_ret (ev_var rfl) fun H2 e2 => ?_
      exact q l H2 (by omega) hm (e.trans (ExB.of e2)) (b1.ex e2)
end
end K54
namespace K54
open PySem PySem.Spec PyProof.Rows L2 Lc Evl
section
variable {P : Program} {w : World} {K : PySem.W.Frag} {mg : Str → Option Value} {base : Heap}
/-! ### grids -/
def Gd (H : Hp) (g : Addr) (G : List (List Int)) : Prop := ∃ rs : List Addr, H g = some (.lst (rs.map V.ref)) ∧ Rw .lst H rs G
theorem Gd.ex {H H' : Hp} {g : Addr} {G : List (List Int)} (h : Gd H g G) (e : Ex H H') : Gd H' g G := by
  obtain ⟨rs, h1, h2⟩ := h
  exact ⟨rs, e _ _ h1, h2.ex e⟩
def Wd (m : Nat) (G : List (List Int)) : Prop := ∀ row ∈ G, row.length = m
theorem wd_of {m n : Nat} {G : List (List Int)} (h : G.length = n) (k : ∀ i, i < n → (G.getD i []).length = m) : Wd m G := fun row hr => by
  obtain ⟨i, hi, e⟩ := List.getElem_of_mem hr
  have := k i (by omega)
  rw [List.getD_eq_getElem?_getD, List.getElem?_eq_getElem hi] at this
  rw [← e]
  exact this
theorem Wd.at_ {m : Nat} {G : List (List Int)} (h : Wd m G) {k : Nat} (hk : k < G.length) : (G.getD k []).length = m := h _ (row_mem hk)
theorem s_retG {σ : L2.St} {H : Hp} {te : TE} {G : List (List Int)} {D : Ends} (h : EvG .lst te σ H G) (k : RetG G H D.rt) : tRet te D σ H := h H (Ex.refl H) _ k
def sp_law_copy : Sp := fun vs H Q _ => ∃ (g : Addr) (G : List (List Int)), vs = [.ref g] ∧ Gd H g G ∧ G.length ≤ 1000 ∧ RetG G H Q
theorem eg_copy {σ : L2.St} {H : Hp} {te : TE} {j : Nat} {vs : List Nat} {g : Addr} {G : List (List Int)} (h : Ev te σ H (.ref g)) (hg : Gd H g G) (hz : G.length ≤ 1000) (hw : ∀ x, wipe ((wipe σ vs).set j (some x)) vs = wipe σ vs) (hv : ∀ x, ((wipe σ vs).set j (some x))[j]? = some (some x)) :
    EvG .lst (tLc (iList K te) (gName j) tYes (tCB (rListOf K) (tCons (tVar j) tNil)) vs) σ H G := by
  obtain ⟨rs, h1, h2⟩ := hg
  refine eg_L h (sq_of h1) (by rw [List.length_map, h2.len]) (by omega) hw fun i x H1 e hi => ?_
  obtain ⟨hk, rfl, hrow⟩ := h2.at_ hi
  exact el_listOf (ev_var (hv _)) (.inl (sq_of (e _ _ hrow)))
theorem ok_law_copy (T : Tx K mg w) : OkD P w K mg base 1 d_law_copy ps_law_copy sp_law_copy := by
  refine (h_law_copy T).ok sc_law_copy (fun vs H Q E h => ?_) (fun cdv A outer s H vs Q E hr h => ⟨_,
      (pss_one (ps_ret (pe_lc (own := [("entries", 1)]) (g := gName 1) rfl sc_law_copy.nd (pi_list (pv 0)) (blkOk_by (own := [("entries", 1)]) (N := ns_law_copy) (sc := (defScope st_law_copy)) (by decide +kernel)) (fun _ _ _ _ _ => pg_name (i := 1) sc_law_copy.nd rfl (Or.inl rfl)) (fun _ _ _ _ _ => pts_nil) (fun _ _ _ _ _ => (pe_callTy (show CallR _ (.type "list") (rListOf K) from call_list_of) (by rfl) (m_list T) (by decide +kernel) (pa_cons (pv 1) pa_nil)))))), ?_⟩)
  · obtain ⟨g, G, rfl, _⟩ := h
    rfl
  · obtain ⟨g, G, rfl, hg, hz, q⟩ := h
    exact s_retG (eg_copy (by exact ev_var rfl) hg hz (fun x => rfl) (fun x => rfl)) q
theorem s_appRB {σ : L2.St} {H : Hp} {b l : Addr} {ta te : TE} {D : Ends} {xs : List V} {Pr : List Int → Prop} (hl : H l = some (.lst xs)) (hb : Bx H b) (hlb : l ≠ b) (ha : Ev ta σ H (.ref l)) (h : EvRB b te σ H Pr) (hz : xs.length < 100000)
    (k : ∀ q row H2, H q = none → ExB b H H2 → Bx H2 b → H2 q = some (.lst (row.map V.int)) → Pr row → D.nx σ (upd H2 l (.lst (xs ++ [.ref q])))) : tDrop (tBM K "list" rAppend ta (tCons te tNil)) D σ H := ha H (Ex.refl H) _ fun H1 e1 =>
  ⟨Or.inl ⟨rfl, xs, sq_of (e1 l _ hl)⟩, h H1 (ExB.of e1) (hb.ex e1) _ fun p row H2 hp e2 b2 h2 hr => ⟨l, xs, .ref p, rfl, rfl, e2 l _ hlb (e1 l _ hl), sz_lt hz, k p row H2 (fresh_back e1 hp) ((ExB.of e1).trans e2) b2 h2 hr⟩⟩
def sp_law_grid : Sp := fun vs H Q _ => ∃ (b : Addr) (m n : Nat) (sc : Int), vs = [.ref b, .int (m : Int), .int (n : Int), .int sc] ∧ Bx H b ∧ m ≤ 1000 ∧ n ≤ 1000 ∧ RetGB b H (fun G => G.length = n ∧ Wd m G) Q
theorem ok_law_grid (T : Tx K mg w) : OkD P w K mg base 3 d_law_grid ps_law_grid sp_law_grid := by
  refine (h_law_grid T).ok sc_law_grid (fun vs H Q E h => ?_) (fun cdv A outer s H vs Q E hr h => ⟨_,
      (pss_cons (ps_set (i := 4) sc_law_grid.nd rfl (Or.inl rfl) (pe_lst pa_nil))
      (pss_cons (ps_for (passes_of rfl) rfl (pi_range1 rfl (m_range T) (pa_cons (pv 2) pa_nil)) (pg_name (i := 5) sc_law_grid.nd rfl (Or.inl rfl)) (pss_one (ps_expr (pe_bm PySem.F.plainAttrs_list PySem.F.slot_list_append PySem.F.type_list_append mt_append (pv 4) (pa_cons (pe_lc (own := [("i", 6)]) (g := gName 6) rfl sc_law_grid.nd (pi_range1 rfl (m_range T) (pa_cons (pv 1) pa_nil)) (blkOk_by (own := [("i", 6)]) (N := ns_law_grid) (sc := (defScope st_law_grid)) (by decide +kernel)) (fun _ _ _ _ _ => pg_name (i := 6) sc_law_grid.nd rfl (Or.inl rfl)) (fun _ _ _ _ _ => pts_nil) (fun _ _ _ _ _ => (pe_call (ok_law_entry (P := P) (w := w) (base := base) T) (hr.mono (by decide)) (by rfl) (m_law_entry T) (k_law_entry T) (b_law_entry T) .nil passN (pa_cons (pv 0) (pa_cons (pv 3) pa_nil))))) pa_nil)))))
      (pss_one (ps_ret (pv 4))))), ?_⟩)
  · obtain ⟨b, m, n, sc, rfl, _⟩ := h
    rfl
  · obtain ⟨b, m, n, sc, rfl, hb, hm, hn, q⟩ := h
    refine q_asgL (el_lst ea_nil (by simp)) fun p H1 hp e1 h1 => ?_
    have hpb : p ≠ b := bx_ne hb hp
    refine q_forR1 (n := (n : Int)) (by exact ea_cons (ev_var rfl) ea_nil) (by omega) (fun i σ' H' => Dg b H (fun _ row => row.length = m) p i H' ∧ ∃ (v5 v6 : Option V), σ' = [some (.ref b), some (.int (m : Int)), some (.int (n : Int)), some (.int sc), some (.ref p), v5, v6])
      (fun H2 e2 => ⟨⟨hp, hb.ex (e1.trans e2), ExB.of (e1.trans e2), [], [], rfl, e2 _ _ h1, ⟨rfl, fun k hk => absurd hk (Nat.not_lt_zero _)⟩, fun k hk => absurd hk (Nat.not_lt_zero _), by simp, by simp⟩, none, none, rfl⟩) ?_ ?_
    · rintro i σ' H' hi ⟨⟨hD, hb', e, rs, G, hl, hpl, hr, hpr, hf, hnd⟩, v5, v6, rfl⟩
      dsimp only [List.set]
      refine s_appRB hpl hb' hpb (ev_var rfl) (rb_R1 (n := m) (Pd := fun _ _ => True) (fun H1 => ea_cons (ev_var rfl) ea_nil) (by omega) (fun x => rfl) fun i hi H2 b2 Q2 q2 => ?_) (by rw [List.length_map, hr.len]; omega) fun q1 row H2 hq e2 b2 h2 hrow => ?_
      · exact ⟨_, rfl, _, rfl, b, sc, rfl, b2, fun d H3 _ _ e3 b3 => q2 d H3 trivial e3 b3⟩
      · dsimp only
        exact ⟨dg_push hpb hD hb' e hl hpl hr hpr hf hnd hb hq e2 b2 h2 hrow.1, _, _, rfl⟩
    · rintro σ' H' ⟨⟨hD, hb', e, rs, G, hl, hpl, hr, hpr, hf, hnd⟩, v5, v6, rfl⟩
      refine s_ret (ev_var rfl) fun H2 e2 => ?_
      have hl' : G.length = n := by omega
      exact q p rs G H2 hD (e.trans (ExB.of e2)) (hb'.ex e2) (e2 _ _ hpl) (hr.ex e2) hf hnd ⟨hl', wd_of hl' fun i hi => hpr i (by omega)⟩
/-! ### sums -/
def tm (G : List (List Int)) (m : Int) (l : List Nat) (st : Int) (k : Nat) : Int := if 0 ≤ kd (l.getD k 0) then (G.getD (kd (l.getD k 0)).toNat []).getD ((st + (k : Int)) % m).toNat 0 else 0
def wS (G : List (List Int)) (m : Int) (l : List Nat) (st : Int) : Nat → Int
  | 0 => 0
  | n + 1 => wS G m l st n + tm G m l st n
def OkS (n : Nat) (l : List Nat) : Prop := ∀ c ∈ l, c ∈ SG ∧ kd c < (n : Int)
theorem rv_row {H : Hp} {g : Addr} {G : List (List Int)} {rs : List Addr} {i : Int} (hg : H g = some (.lst (rs.map V.ref))) (hr : Rw .lst H rs G) (h0 : 0 ≤ i) (h1 : i < G.length) : RV (rIxL K) (.ref g) (.int i) H (.ref (rs.getD i.toNat 0)) := rv_ixL (sq_of hg) (atI_ref h0 (by rw [hr.len]; exact h1))
theorem rv_cellL {H : Hp} {G : List (List Int)} {rs : List Addr} {i j : Int} (hr : Rw .lst H rs G) (h0 : 0 ≤ i) (h1 : i < G.length) (j0 : 0 ≤ j) (j1 : j < (G.getD i.toNat []).length) : RV (rIxL K) (.ref (rs.getD i.toNat 0)) (.int j) H (.int ((G.getD i.toNat []).getD j.toNat 0)) := rv_ixL (sq_of (hr.row i.toNat (by omega))) (atI_int j0 j1)
def sp_law_sum : Sp := fun vs H Q _ => ∃ (g : Addr) (G : List (List Int)) (m : Nat) (l : List Nat) (st : Int), vs = [.ref g, .int (m : Int), .str (S l), .int st] ∧ Gd H g G ∧ Wd m G ∧ 1 ≤ m ∧ l.length ≤ 1000 ∧ OkS G.length l ∧ RetV (.int (wS G m l st l.length)) H Q
theorem ok_law_sum (T : Tx K mg w) : OkD P w K mg base 2 d_law_sum ps_law_sum sp_law_sum := by
  refine (h_law_sum T).ok sc_law_sum (fun vs H Q E h => ?_) (fun cdv A outer s H vs Q E hr h => ⟨_,
      (pss_cons (ps_set (i := 4) sc_law_sum.nd rfl (Or.inl rfl) pe_int)
      (pss_cons (ps_for (passes_of rfl) rfl (pi_range1 rfl (m_range T) (pa_cons (pe_callB call_len_str (by rfl) (m_len T) (by decide +kernel) (pa_cons (pv 2) pa_nil)) pa_nil)) (pg_name (i := 5) sc_law_sum.nd rfl (Or.inl rfl)) (pss_cons (ps_set (i := 6) sc_law_sum.nd rfl (Or.inl rfl) (pe_call (ok_law_kind (P := P) (w := w) (base := base) T) (hr.mono (by decide)) (by rfl) (m_law_kind T) (k_law_kind T) (b_law_kind T) .nil passN (pa_cons (pe_ix ix_str (pv 2) (pv 5) (fun _ _ => rfl)) pa_nil)))
      (pss_one (ps_if (pt_cmpR op_ge (pv 6) pe_int (nomark _)) (pss_one (ps_set (i := 4) sc_law_sum.nd rfl (Or.inl rfl) (pe_op op_add (pv 4) (pe_ix ix_list (pe_ix ix_list (pv 0) (pv 6) (fun _ _ => rfl)) (pe_op op_mod (pe_callTy call_int1 (by rfl) (m_int T) (by decide +kernel) (pa_cons (pe_op op_add (pv 3) (pv 5)) pa_nil)) (pv 1)) (fun _ _ => rfl))))) pss_nil))))
      (pss_one (ps_ret (pv 4))))), ?_⟩)
  · obtain ⟨g, G, m, l, st, rfl, _⟩ := h
    rfl
  · obtain ⟨g, G, m, l, st, rfl, ⟨rs, hg, hr⟩, hw, hm, hl, hk, q⟩ := h
    refine q_asg ev_c fun H1 e1 => ?_
    refine q_forR1 (n := (l.length : Int)) (ea_cons (ev_cb (ea_cons (by exact ev_var rfl) ea_nil) (rc_lenStr (by omega))) ea_nil) (by omega) (fun i σ' H' => Ex H H' ∧ ∃ (v5 v6 : Option V), σ' = [some (.ref g), some (.int (m : Int)), some (.str (S l)), some (.int st), some (.int (wS G m l st i)), v5, v6])
      (fun H2 e2 => ⟨e1.trans e2, none, none, rfl⟩) ?_ ?_
    · rintro i σ' H' hi ⟨e, v5, v6, rfl⟩
      dsimp only [List.set]
      have hil : i < l.length := by omega
      have hc := hk _ (getD_in hil)
      refine q_asg (v := .int (kd (l.getD i 0))) (ev_call (ea_cons (ev_op (ev_var rfl) (ev_var rfl) (rv_ixSS (i := (i : Int)) (by omega) (by omega) (by omega))) ea_nil) fun H2 e2 Q2 q2 E2 => ⟨_, rfl, hc.1, q2⟩) fun H2 e2 => ?_
      have hrl : Rw .lst H2 rs G := hr.ex (e.trans e2)
      have hgl := (e.trans e2) _ _ hg
      refine s_when (b := decide (0 ≤ kd (l.getD i 0))) (by first | ((with_reducible apply et_test); (repeat' (first | ((with_reducible refine ev_pow10 ?_ ?_ ?_) <;> first | rfl | decide) | (with_reducible refine fun (_ : _ = true) => ?_) | (with_reducible refine fun (_ : _ = false) => ?_) | (with_reducible exact ev_c) | ((with_reducible apply ev_var); rfl) | (with_reducible apply ev_op) | (with_reducible apply ev_un) | (with_reducible apply ev_cb) | (with_reducible apply ea_cons) | (with_reducible apply ev_andV) | (with_reducible apply ev_orV) | (with_reducible apply ev_notV) | (with_reducible apply ev_if) | (with_reducible apply eo_some) | (with_reducible apply el_lst) | (with_reducible exact ea_nil) | (with_reducible exact rv_I0) | (with_reducible exact ru_neg) | (with_reducible exact rv_ltS) | (with_reducible exact rv_inC) | (with_reducible exact rv_notInC) | (with_reducible exact rc_intI) | (with_reducible exact rc_intB) | (with_reducible exact rc_min2) | (with_reducible exact rc_isStr) | (with_reducible exact eo_none) | (with_reducible exact rv_inSS) | (with_reducible exact rv_notInSS) | (with_reducible exact rv_ltSS) | (with_reducible exact rv_eqSS) | (with_reducible exact rv_eqII) | (with_reducible exact rv_neII) | (with_reducible exact rv_neSS) | ((with_reducible refine rc_lenSS ?_); (first | assumption | omega | decide | (simp only [S_len] at *; omega))) | ((with_reducible refine rc_lenStr ?_); (first | assumption | omega | decide | (simp only [S_len] at *; omega))) | ((with_reducible refine rv_catSS ?_); (first | assumption | omega | decide | (simp only [S_len] at *; omega))) | (with_reducible exact rv_eq rfl) | (with_reducible exact rv_ne rfl) | ((with_reducible refine rc_lenS ?_); (first | assumption | omega | decide | (simp only [S_len] at *; omega))) | ((with_reducible refine rc_lenL ?_); assumption) | ((with_reducible apply rv_ixL); assumption; rfl) | ((with_reducible refine rv_catS ?_); (first | assumption | omega | decide | (simp only [S_len] at *; omega))) | ((with_reducible refine rv_I ?_); (first | (show (0 : Int) < _; (first | assumption | omega | decide | (simp only [S_len] at *; omega))) | exact .inr ⟨by decide, by decide⟩ | exact .inl ⟨by (first | assumption | omega | decide | (simp only [S_len] at *; omega)), by (first | assumption | omega | decide | (simp only [S_len] at *; omega))⟩ | exact .inr ⟨by (first | assumption | omega | decide | (simp only [S_len] at *; omega)), by (first | assumption | omega | decide | (simp only [S_len] at *; omega))⟩ | exact ⟨by decide, by decide, by decide⟩ | exact wide_div (b := 128) (by (first | assumption | omega | decide | (simp only [S_len] at *; omega))) (by (first | assumption | omega | decide | (simp only [S_len] at *; omega))) (by decide) (by decide)))))) | ((with_reducible apply et_B); (repeat' (first | ((with_reducible refine ev_pow10 ?_ ?_ ?_) <;> first | rfl | decide) | (with_reducible refine fun (_ : _ = true) => ?_) | (with_reducible refine fun (_ : _ = false) => ?_) | (with_reducible exact ev_c) | ((with_reducible apply ev_var); rfl) | (with_reducible apply ev_op) | (with_reducible apply ev_un) | (with_reducible apply ev_cb) | (with_reducible apply ea_cons) | (with_reducible apply ev_andV) | (with_reducible apply ev_orV) | (with_reducible apply ev_notV) | (with_reducible apply ev_if) | (with_reducible apply eo_some) | (with_reducible apply el_lst) | (with_reducible exact ea_nil) | (with_reducible exact rv_I0) | (with_reducible exact ru_neg) | (with_reducible exact rv_ltS) | (with_reducible exact rv_inC) | (with_reducible exact rv_notInC) | (with_reducible exact rc_intI) | (with_reducible exact rc_intB) | (with_reducible exact rc_min2) | (with_reducible exact rc_isStr) | (with_reducible exact eo_none) | (with_reducible exact rv_inSS) | (with_reducible exact rv_notInSS) | (with_reducible exact rv_ltSS) | (with_reducible exact rv_eqSS) | (with_reducible exact rv_eqII) | (with_reducible exact rv_neII) | (with_reducible exact rv_neSS) | ((with_reducible refine rc_lenSS ?_); (first | assumption | omega | decide | (simp only [S_len] at *; omega))) | ((with_reducible refine rc_lenStr ?_); (first | assumption | omega | decide | (simp only [S_len] at *; omega))) | ((with_reducible refine rv_catSS ?_); (first | assumption | omega | decide | (simp only [S_len] at *; omega))) | (with_reducible exact rv_eq rfl) | (with_reducible exact rv_ne rfl) | ((with_reducible refine rc_lenS ?_); (first | assumption | omega | decide | (simp only [S_len] at *; omega))) | ((with_reducible refine rc_lenL ?_); assumption) | ((with_reducible apply rv_ixL); assumption; rfl) | ((with_reducible refine rv_catS ?_); (first | assumption | omega | decide | (simp only [S_len] at *; omega))) | ((with_reducible refine rv_I ?_); (first | (show (0 : Int) < _; (first | assumption | omega | decide | (simp only [S_len] at *; omega))) | exact .inr ⟨by decide, by decide⟩ | exact .inl ⟨by (first | assumption | omega | decide | (simp only [S_len] at *; omega)), by (first | assumption | omega | decide | (simp only [S_len] at *; omega))⟩ | exact .inr ⟨by (first | assumption | omega | decide | (simp only [S_len] at *; omega)), by (first | assumption | omega | decide | (simp only [S_len] at *; omega))⟩ | exact ⟨by decide, by decide, by decide⟩ | exact wide_div (b := 128) (by (first | assumption | omega | decide | (simp only [S_len] at *; omega))) (by (first | assumption | omega | decide | (simp only [S_len] at *; omega))) (by decide) (by decide))))))) (fun hb H3 e3 => ?_) (fun hb H3 e3 => ?_)
      · have h0 : 0 ≤ kd (l.getD i 0) := of_decide_eq_true hb
        have b1 := Int.emod_nonneg (st + (i : Int)) (show ((m : Int)) ≠ 0 by omega)
        have b2 := Int.emod_lt_of_pos (st + (i : Int)) (show (0 : Int) < (m : Int) by omega)
        have hlen := hw.at_ (k := (kd (l.getD i 0)).toNat) (by omega)
        have hrow := rv_row (K := K) (e3 _ _ hgl) (hrl.ex e3) h0 hc.2
        have hcell := rv_cellL (K := K) (hrl.ex e3) h0 hc.2 b1 (by rw [hlen]; exact b2)
        refine s_asg (ev_op (x := .int (wS G m l st i)) (by exact ev_var rfl) (ev_op (ev_op (by exact ev_var rfl) (by exact ev_var rfl) hrow) (ev_op (ev_cb (ea_cons (ev_op (by exact ev_var rfl) (by exact ev_var rfl) rv_I0) ea_nil) rc_intI) (by exact ev_var rfl) (rv_I (show (0 : Int) < (m : Int) by omega))) hcell) rv_I0) fun H4 e4 => ?_
        have ht : wS G m l st (i + 1) = wS G m l st i + (G.getD (kd (l.getD i 0)).toNat []).getD ((st + (i : Int)) % m).toNat 0 := by
          show wS G m l st i + tm G m l st i = _
          unfold tm
          rw [if_pos h0]
        refine ⟨((e.trans e2).trans e3).trans e4, some (.int (i : Int)), some (.int (kd (l.getD i 0))), ?_⟩
        rw [ht]
        rfl
      · have h0 : ¬ 0 ≤ kd (l.getD i 0) := of_decide_eq_false hb
        have ht : wS G m l st (i + 1) = wS G m l st i := by
          show wS G m l st i + tm G m l st i = _
          unfold tm
          rw [if_neg h0, Int.add_zero]
        refine ⟨(e.trans e2).trans e3, some (.int (i : Int)), some (.int (kd (l.getD i 0))), ?_⟩
        rw [ht]
        rfl
    · rintro σ' H' ⟨e, v5, v6, rfl⟩
      refine s_ret (ev_var rfl) fun H2 e2 => ?_
      exact q H2 (e.trans e2)
end
end K54
namespace K54
open PySem PySem.Spec PyProof.Rows L2 Lc Evl
section
variable {P : Program} {w : World} {K : PySem.W.Frag} {mg : Str → Option Value} {base : Heap}
/-! ### tables -/
theorem rc_all {H : Hp} {p : Addr} {bs : List Bool} (h : SqL K H p (bs.map V.bl)) : RC (rAll K) [.ref p] H (.bl (bs.all id)) := fun H1 e _ q => ⟨p, bs, rfl, ex_l e h, q H1 (Ex.refl H1)⟩
theorem ev_all {σ : L2.St} {H : Hp} {te : TE} {bs : List Bool} (h : EvL te σ H (bs.map V.bl)) : Ev (tCB (rAll K) (tCons te tNil)) σ H (.bl (bs.all id)) := ev_cbL h fun p H1 hp e => rc_all (sq_of hp)
def Tb (H : Hp) (t : Addr) (G : List (List Int)) : Prop := ∃ rs : List Addr, (H t = some (.lst (rs.map V.ref)) ∨ H t = some (.tup (rs.map V.ref))) ∧ Rw .lst H rs G
theorem Tb.ex {H H' : Hp} {g : Addr} {G : List (List Int)} (h : Tb H g G) (e : Ex H H') : Tb H' g G := by
  obtain ⟨rs, h1, h2⟩ := h
  exact ⟨rs, h1.imp (e _ _) (e _ _), h2.ex e⟩
theorem Gd.tb {H : Hp} {g : Addr} {G : List (List Int)} (h : Gd H g G) : Tb H g G := by
  obtain ⟨rs, h1, h2⟩ := h
  exact ⟨rs, .inl h1, h2⟩
def Sm (G : List (List Int)) : Prop := G.length ≤ 1000 ∧ ∀ row ∈ G, row.length ≤ 1000
def isTb (G : List (List Int)) (p : Int) : Bool := (decide ((1 : Int) ≤ (G.length : Nat)) && decide (((G.length : Nat) : Int) ≤ 4)) && (G.map fun row => decide (((row.length : Nat) : Int) = p)).all id
def sp_is_table (K : PySem.W.Frag) : Sp := fun vs H Q _ => ∃ (t : Addr) (G : List (List Int)) (p : Int), vs = [.ref t, .int p] ∧ Tb H t G ∧ Sm G ∧ RetV (.bl (isTb G p)) H Q
theorem sq_tb {H : Hp} {t : Addr} {xs : List V} (h : H t = some (.lst xs) ∨ H t = some (.tup xs)) : SqL K H t xs ∨ SqT K H t xs := h.imp sq_of st_of
theorem ok_is_table (T : Tx K mg w) : OkD P w K mg base 1 d_is_table ps_is_table (sp_is_table K) := by
  refine (h_is_table T).ok sc_is_table (fun vs H Q E h => ?_) (fun cdv A outer s H vs Q E hr h => ⟨_,
      (pss_one (ps_ret (pe_and (pe_chain op_le op_le pe_int (pe_callB call_len (by rfl) (m_len T) (by decide +kernel) (pa_cons (pv 0) pa_nil)) (pe_callB call_len_str (by rfl) (m_len T) (by decide +kernel) (pa_cons (pe_glob (v := .str "abcd") rfl (m_KINDS T).choose_spec ⟨_, rfl⟩) pa_nil))) (pe_one (pe_callB (cr_all rfl) (by rfl) (m_all T) (by decide +kernel) (pa_cons (pe_lc (own := [("row", 2)]) (g := gName 2) rfl sc_is_table.nd (pi_seq (pv 0)) (blkOk_by (own := [("row", 2)]) (N := ns_is_table) (sc := (defScope st_is_table)) (by decide +kernel)) (fun _ _ _ _ _ => pg_name (i := 2) sc_is_table.nd rfl (Or.inl rfl)) (fun _ _ _ _ _ => pts_nil) (fun _ _ _ _ _ => (pe_cmpR op_eq (pe_callB (show CallR _ _ (rLen K) from call_len) (by rfl) (m_len T) (by decide +kernel) (pa_cons (pv 2) pa_nil)) (pv 1) (nomark _)))) pa_nil)))))), ?_⟩)
  · obtain ⟨t, G, p, rfl, _⟩ := h
    rfl
  · obtain ⟨t, G, p, rfl, ⟨rs, ht, hr⟩, hz, q⟩ := h
    have hlen := rc_lenSq (K := K) (sq_tb ht)
    rw [List.length_map, hr.len] at hlen
    have hkl : (V.str "abcd" : V) = V.str (S [97, 98, 99, 100]) := congrArg V.str (by decide +kernel)
    have hel := el_lcSq (K := K) (σ := L2.start ns_is_table [V.ref t, .int p]) (H := H) (tl := tVar 0) (j := 2) (vs := [2]) (t := tYes) (te := tOp rEq (tCB (rLen K) (tCons (tVar 2) tNil)) (tVar 1)) (fun _ => true) (fun i => .bl (decide ((((G.getD i []).length : Nat) : Int) = p))) (ev_var rfl) (sq_tb ht) (by rw [List.length_map, hr.len]; have := hz.1; omega) (fun x => rfl) (fun i x H1 _ _ => et_yes) (fun i x H1 e hi _ => by
      obtain ⟨hk, rfl, hrow⟩ := hr.at_ hi
      have h2 := rc_lenL (K := K) (sq_of (K := K) (e _ _ hrow))
      rw [List.length_map] at h2
      exact ev_op (ev_cb (ea_cons (ev_var rfl) ea_nil) h2) (ev_var rfl) rv_eqII)
    have e1 : given (rs.map V.ref).length (fun _ => true) (fun i => V.bl (decide ((((G.getD i []).length : Nat) : Int) = p))) = (G.map fun row => decide (((row.length : Nat) : Int) = p)).map V.bl := by
      rw [given_all, List.length_map, hr.len]
      apply List.ext_getElem
      · simp
      · intro i h1 h2
        simp only [List.length_map, List.length_range] at h1
        rw [List.getElem_map, List.getElem_range, List.getElem_map, List.getElem_map, List.getD_eq_getElem?_getD, List.getElem?_eq_getElem h1]
        rfl
    rw [e1] at hel
    refine s_ret (v := .bl (isTb G p)) (ev_andV (ev_chain ev_c (ev_cb (ea_cons (ev_var rfl) ea_nil) hlen) (ev_cb (ea_cons (by rw [hkl]; exact ev_c) ea_nil) (rc_lenStr (by decide))) rv_I0 fun _ => rv_I0) fun _ => ev_all hel) fun H1 e1 => q H1 e1
/-! ### weights -/
abbrev cW (K : PySem.W.Frag) : Addr := He.ga K "Weights"
def part (p b : Int) (G : List (List Int)) : Option Str := if ¬ (1 ≤ p ∧ p ≤ 12) then some ("period" : Str) else if ¬ (b = 0 ∨ (2 ≤ b ∧ b ≤ 97)) then some ("modulus" : Str) else if isTb G p = false then some ("table" : Str) else none
def WF (p b : Int) (t : Addr) : List (Str × V) := [("period", .int p), ("modulus", .int b), ("table", .ref t)]
def Wt (K : PySem.W.Frag) (H : Hp) (o : Addr) (p b : Int) (T : List (List Int)) : Prop := part p b T = none ∧ ∃ (dx t : Addr) (rs : List Addr), H o = some (.ins (cW K) dx (WF p b t)) ∧ H t = some (.tup (rs.map V.ref)) ∧ Rw .tup H rs T
theorem Wt.ex {H H' : Hp} {o : Addr} {p b : Int} {T : List (List Int)} (h : Wt K H o p b T) (e : Ex H H') : Wt K H' o p b T := by
  obtain ⟨h0, dx, t, rs, h1, h2, h3⟩ := h
  exact ⟨h0, dx, t, rs, e _ _ h1, e _ _ h2, h3.ex e⟩
def red (b : Int) (G : List (List Int)) : List (List Int) := G.map fun row => row.map (rem b)
theorem part_red {p b c : Int} {G : List (List Int)} : part p b (red c G) = part p b G := by
  have h : isTb (red c G) p = isTb G p := by
    unfold isTb red
    rw [List.length_map, List.map_map]
    congr 2
    refine congrArg (fun l : List Bool => l) (List.map_congr_left fun row _ => ?_)
    show decide ((((row.map (rem c)).length : Nat) : Int) = p) = _
    rw [List.length_map]
  unfold part
  rw [h]
def sp_Weights_init (K : PySem.W.Frag) : Sp := fun vs H Q E => ∃ (o dx t : Addr) (p b : Int) (G : List (List Int)), vs = [.ref o, .int p, .int b, .ref t] ∧ Tb H t G ∧ Sm G ∧ H o = some (.ins (cW K) dx []) ∧
  (part p b G = none → ∀ H', ExB o H H' → Wt K H' o p b (red b G) → Q .non H') ∧ (∀ z, part p b G = some z → Bad K "InvalidWeight" "part" H E (.str z))
theorem part_p {p b : Int} {G : List (List Int)} (h : ¬ (1 ≤ p ∧ p ≤ 12)) : part p b G = some ("period" : Str) := if_pos h
theorem part_m {p b : Int} {G : List (List Int)} (h : 1 ≤ p ∧ p ≤ 12) (h2 : ¬ (b = 0 ∨ (2 ≤ b ∧ b ≤ 97))) : part p b G = some ("modulus" : Str) := by
  unfold part
  rw [if_neg (not_not_intro h), if_pos h2]
theorem part_t {p b : Int} {G : List (List Int)} (h : 1 ≤ p ∧ p ≤ 12) (h2 : b = 0 ∨ (2 ≤ b ∧ b ≤ 97)) (h3 : isTb G p = false) : part p b G = some ("table" : Str) := by
  unfold part
  rw [if_neg (not_not_intro h), if_neg (not_not_intro h2), if_pos h3]
theorem part_n {p b : Int} {G : List (List Int)} (h : 1 ≤ p ∧ p ≤ 12) (h2 : b = 0 ∨ (2 ≤ b ∧ b ≤ 97)) (h3 : isTb G p = true) : part p b G = none := by
  unfold part
  rw [if_neg (not_not_intro h), if_neg (not_not_intro h2), if_neg (by rw [h3]; decide)]
theorem part_ok {p b : Int} {G : List (List Int)} (h : part p b G = none) : (1 ≤ p ∧ p ≤ 12) ∧ (b = 0 ∨ (2 ≤ b ∧ b ≤ 97)) ∧ isTb G p = true := by
  unfold part at h
  split at h
  · cases h
  · rename_i h1
    split at h
    · cases h
    · rename_i h2
      split at h
      · cases h
      · rename_i h3
        exact ⟨Classical.not_not.mp h1, Classical.not_not.mp h2, by simpa using h3⟩
theorem ev_isTb {σ : L2.St} {H : Hp} {tt tp : TE} {t : Addr} {p : Int} {G : List (List Int)} (h1 : Ev tt σ H (.ref t)) (h2 : Ev tp σ H (.int p)) (ht : Tb H t G) (hz : Sm G) : Ev (tCall (sp_is_table K) [] E0 (tCons tt (tCons tp tNil))) σ H (.bl (isTb G p)) := ev_call (ea_cons h1 (ea_cons h2 ea_nil)) fun H1 e1 Q q E => ⟨t, G, p, rfl, ht.ex e1, hz, q⟩
theorem ev_rem {σ : L2.St} {H : Hp} {tx tb : TE} {x b : Int} (h1 : Ev tx σ H (.int x)) (h2 : Ev tb σ H (.int b)) (hb : 0 ≤ b) : Ev (tCall sp_remainder [] E0 (tCons tx (tCons tb tNil))) σ H (.int (rem b x)) := ev_call (ea_cons h1 (ea_cons h2 ea_nil)) fun H1 e1 Q q E => ⟨x, b, rfl, hb, q⟩
theorem ok_Weights_init (T : Tx K mg w) : OkD P w K mg base 4 d_Weights_init ps_Weights_init (sp_Weights_init K) := by
  refine (h_Weights_init T).ok sc_Weights_init (fun vs H Q E h => ?_) (fun cdv A outer s H vs Q E hr h => ⟨_,
      (pss_cons (ps_expr (pe_callSD (ok_check_period (P := P) (w := w) (base := base) T) (hr.mono (by decide)) (by rfl) (m_check_period T) (k_check_period T) (b_check_period T) .nil (fun σ => L2N.passAt (L2N.takes_of rfl rfl rfl rfl) σ) (pa_cons (pv 1) pa_nil)))
      (pss_cons (ps_if (PW.pt (pw_and (pt_cmpR op_ne (pv 2) pe_int (nomark _)) (pw_and1 (pt_not (pt_chain op_le op_le pe_int (pv 2) (pe_glob (v := .int 97) rfl (m_MOST_MODULUS T).choose_spec ⟨_, rfl⟩)))))) (pss_one (L2N.ps_raise rfl (L2N.takes_of rfl rfl rfl rfl) (pmkN_oex (x_InvalidWeight T).oex (x_InvalidWeight T).iC (x_InvalidWeight T).tI (ok_InvalidWeight_init (P := P) (w := w) (base := base) T) (hr.mono (by decide)) (b_InvalidWeight_init T) .nil passN (by rfl) (m_InvalidWeight T) (pa_cons pe_str pa_nil)))) pss_nil)
      (pss_cons (ps_if (pt_not (pt_val (pe_call (ok_is_table (P := P) (w := w) (base := base) T) (hr.mono (by decide)) (by rfl) (m_is_table T) (k_is_table T) (b_is_table T) .nil passN (pa_cons (pv 3) (pa_cons (pv 1) pa_nil))))) (pss_one (L2N.ps_raise rfl (L2N.takes_of rfl rfl rfl rfl) (pmkN_oex (x_InvalidWeight T).oex (x_InvalidWeight T).iC (x_InvalidWeight T).tI (ok_InvalidWeight_init (P := P) (w := w) (base := base) T) (hr.mono (by decide)) (b_InvalidWeight_init T) .nil passN (by rfl) (m_InvalidWeight T) (pa_cons pe_str pa_nil)))) pss_nil)
      (pss_cons (ps_fld (pv 0) (pv 1) rfl)
      (pss_cons (ps_fld (pv 0) (pv 2) rfl)
      (pss_one (ps_fld (pv 0) (pe_callTy (show CallR _ (.type "tuple") (rTupOf K) from call_tuple_of) (by rfl) (m_tuple T) (by decide +kernel) (pa_cons (pe_lc (own := [("row", 4)]) (g := gName 4) rfl sc_Weights_init.nd (pi_seq (pv 3)) (blkOk_by (own := [("row", 4)]) (N := ns_Weights_init) (sc := (defScope st_Weights_init)) (by decide +kernel)) (fun _ _ _ _ _ => pg_name (i := 4) sc_Weights_init.nd rfl (Or.inl rfl)) (fun _ _ _ _ _ => pts_nil) (fun _ _ _ _ _ => (pe_callTy (show CallR _ (.type "tuple") (rTupOf K) from call_tuple_of) (by rfl) (m_tuple T) (by decide +kernel) (pa_cons (pe_lc (own := [("number", 5)]) (g := gName 5) rfl sc_Weights_init.nd (pi_listK K rfl (pv 4)) (blkOk_by (own := [("number", 5)]) (N := ns_Weights_init) (sc := (relS _ (defScope st_Weights_init))) (by decide +kernel)) (fun _ _ _ _ _ => pg_name (i := 5) sc_Weights_init.nd rfl (Or.inl rfl)) (fun _ _ _ _ _ => pts_nil) (fun _ _ _ _ _ => (pe_call (ok_remainder (P := P) (w := w) (base := base) T) (hr.mono (by decide)) (by rfl) (m_remainder T) (k_remainder T) (b_remainder T) .nil passN (pa_cons (pv 5) (pa_cons (pv 2) pa_nil))))) pa_nil)))) pa_nil)) rfl))))))), ?_⟩)
  · obtain ⟨o, dx, t, p, b, G, rfl, _⟩ := h
    rfl
  · obtain ⟨o, dx, t, p, b, G, rfl, ht, hz, ho, q1, q2⟩ := h
    refine ⟨_, rfl, p, rfl, fun hp H1 e1 => ?_, fun hn => q2 _ (part_p hn)⟩
    dsimp only
    refine q_when (b := (!decide (b = 0) && !decide (2 ≤ b ∧ b ≤ 97))) (et_and (et_test (ev_op (by exact ev_var rfl) ev_c rv_neII)) fun _ => et_not (et_test (by rw [← chain_dec]; exact ev_chain ev_c (ev_var rfl) ev_c rv_I0 fun _ => rv_I0))) (fun hc H2 e2 => ?_) (fun hc H2 e2 => ?_)
    · have hn : ¬ (b = 0 ∨ (2 ≤ b ∧ b ≤ 97)) := by
        obtain ⟨h1, h2⟩ := Bool.and_eq_true_iff.mp hc
        rintro (h3 | h3)
        · exact of_decide_eq_false (not_t h1) h3
        · exact of_decide_eq_false (not_t h2) h3
      exact ⟨by simp, fun a ha => ⟨a, _, rfl, ks_modulus, mk_go ((q2 _ (part_m hp hn)).ex (e1.trans e2)) ha⟩⟩
    have hm : b = 0 ∨ (2 ≤ b ∧ b ≤ 97) := by
      rcases Bool.and_eq_false_iff.mp hc with h1 | h1
      · exact .inl (of_decide_eq_true (not_f h1))
      · exact .inr (of_decide_eq_true (not_f h1))
    refine q_when (b := !isTb G p) (et_not (et_B (ev_isTb (by exact ev_var rfl) (by exact ev_var rfl) (ht.ex (e1.trans e2)) hz))) (fun hc H3 e3 => ?_) (fun hc H3 e3 => ?_)
    · exact ⟨by simp, fun a ha => ⟨a, _, rfl, ks_table, mk_go ((q2 _ (part_t hp hm (not_t hc))).ex ((e1.trans e2).trans e3)) ha⟩⟩
    have htb := not_f hc
    have e13 := (e1.trans e2).trans e3
    clear e1 e2 e3
    obtain ⟨rs, htr, hr⟩ := ht
    refine ⟨_, rfl, _, rfl, o, cW K, dx, _, rfl, e13 _ _ ho, c_Weights T, n_Weights_period T, by decide, ?_⟩
    refine ⟨_, rfl, _, rfl, o, cW K, dx, _, rfl, upd_same, c_Weights T, n_Weights_modulus T, by simp [putF], ?_⟩
    have hto : t ≠ o := fun z => by
      rw [z, ho] at htr
      rcases htr with h | h <;> cases h
    have hro : ∀ k, k < G.length → rs.getD k 0 ≠ o := fun k hk z => by
      have := hr.row k hk
      rw [z, ho] at this
      cases this
    generalize hH4 : upd (upd H3 o _) o _ = H4
    have x4 : ExB o H H4 := by
      rw [← hH4]
      exact ((ExB.of e13).trans ExB.upd).trans ExB.upd
    have ho4 : H4 o = some (.ins (cW K) dx [("period", .int p), ("modulus", .int b)]) := by
      rw [← hH4, upd_same]
      rfl
    have htr4 : H4 t = some (.lst (rs.map V.ref)) ∨ H4 t = some (.tup (rs.map V.ref)) := htr.imp (x4 _ _ hto) (x4 _ _ hto)
    have hr4 : Rw .lst H4 rs G := ⟨hr.len, fun k hk => x4 _ _ (hro k hk) (hr.row k hk)⟩
    clear hH4
    have hb0 : 0 ≤ b := by omega
    unfold sFld
    dsimp only
    refine eg_tup (K := K) (c := .tup) (G := red b G) (eg_S (c := .tup) (xs := rs.map V.ref) (by exact ev_var rfl) (sq_tb htr4) (by unfold red; rw [List.length_map, List.length_map, hr.len]) (by unfold red; rw [List.length_map]; have := hz.1; omega) (fun x => rfl) fun i x H1 e hi => ?_) H4 (Ex.refl H4) _ fun p1 rs1 H5 hp1 e5 h5 hr5 _ => ?_
    · obtain ⟨hk, rfl, hrow⟩ := hr4.at_ hi
      have h2 := el_lcL (K := K) (a := rs.getD i 0) (xs := (G.getD i []).map V.int) (σ := (wipe (L2.start ns_Weights_init [V.ref o, .int p, .int b, .ref t]) [4]).set 4 (some (.ref (rs.getD i 0)))) (H := H1) (tl := tVar 4) (j := 5) (vs := [5]) (t := tYes) (te := tCall sp_remainder [] E0 (tCons (tVar 5) (tCons (tVar 2) tNil))) (fun _ => true) (fun k => .int (rem b ((G.getD i []).getD k 0))) (ev_var rfl) (sq_of (e _ _ hrow)) (by rw [List.length_map]; have := hz.2 _ (row_mem hk); omega) (fun x => rfl) (fun k x H2 _ _ => et_yes) (fun k x H2 e2 hk2 _ => by
        obtain ⟨_, rfl⟩ := int_at hk2
        exact ev_rem (ev_var rfl) (ev_var rfl) hb0)
      rw [List.length_map, given_map (G.getD i []) (rem b) _ (fun i _ => rfl)] at h2
      unfold red
      rw [row_map hk]
      exact eu_tupOf h2
    · refine ⟨_, rfl, o, cW K, dx, _, rfl, e5 _ _ ho4, c_Weights T, n_Weights_table T, by simp, ?_⟩
      refine q1 (part_n hp hm htb) _ ((x4.trans (ExB.of e5)).trans ExB.upd) ⟨by rw [part_red]; exact part_n hp hm htb, dx, p1, rs1, ?_, ?_, ⟨hr5.len, fun k hk => ?_⟩⟩
      · rw [upd_same]
        rfl
      · rw [upd_ne (fun z => by rw [z, ho4] at hp1; cases hp1)]
        exact h5
      · have h6 := hr5.row k hk
        rw [upd_ne (fun z => by rw [z, e5 _ _ ho4] at h6; cases h6)]
        exact h6
end
end K54
namespace K54
open PySem PySem.Spec PyProof.Rows L2 Lc Evl
section
variable {P : Program} {w : World} {K : PySem.W.Frag} {mg : Str → Option Value} {base : Heap}
/-! ### weights made, read, compared -/
theorem mk_W {H1 : Hp} {o dx t : Addr} {p b : Int} {G : List (List Int)} {Q : VK} {E : XK} (ho : H1 o = none) (hd : H1 dx = none) (hdo : dx ≠ o) (ht : Tb H1 t G) (hz : Sm G) (k1 : part p b G = none → ∀ H2, Ex H1 H2 → Wt K H2 o p b (red b G) → Q (.ref o) H2) (k2 : ∀ z, part p b G = some z → Bad K "InvalidWeight" "part" H1 E (.str z)) :
    sp_Weights_init K (.ref o :: ([.int p, .int b, .ref t] ++ [])) (upd (upd H1 dx (.own o)) o (.ins (cW K) dx [])) (fun v H2 => v = .non ∧ Q (.ref o) H2) E := by
  have e : Ex H1 (upd (upd H1 dx (.own o)) o (.ins (cW K) dx [])) := (Ex.new hd).mut ho
  exact ⟨o, dx, t, p, b, G, rfl, ht.ex e, hz, upd_same, fun hp H' ex hw => ⟨rfl, k1 hp H' (fun a v ha => ex a v (fun z => by rw [z, ho] at ha; cases ha) (e a v ha)) hw⟩, fun z hz => (k2 z hz).ex e⟩
theorem ev_fldW {σ : L2.St} {H : Hp} {te : TE} {o dx : Addr} {fs : List (Str × V)} {f : Str} {v : V} (T : Tx K mg w) (h : Ev te σ H (.ref o)) (hj : H o = some (.ins (cW K) dx fs)) (n : NoAttr K (cW K) f) (l : fs.lookup f = some v) : Ev (tFld K te f) σ H v := fun H1 e Q q =>
  h H1 e _ fun H2 e2 => ⟨o, cW K, dx, fs, v, rfl, (e.trans e2) _ _ hj, c_Weights T, n, l, q H2 e2⟩
theorem ev_per {σ : L2.St} {H : Hp} {te : TE} {o : Addr} {p b : Int} {G : List (List Int)} (T : Tx K mg w) (h : Ev te σ H (.ref o)) (hw : Wt K H o p b G) : Ev (tFld K te "period") σ H (.int p) := by
  obtain ⟨_, dx, t, rs, h1, _⟩ := hw
  exact ev_fldW T h h1 (n_Weights_period T) rfl
theorem ev_mdl {σ : L2.St} {H : Hp} {te : TE} {o : Addr} {p b : Int} {G : List (List Int)} (T : Tx K mg w) (h : Ev te σ H (.ref o)) (hw : Wt K H o p b G) : Ev (tFld K te "modulus") σ H (.int b) := by
  obtain ⟨_, dx, t, rs, h1, _⟩ := hw
  exact ev_fldW T h h1 (n_Weights_modulus T) rfl
theorem ev_tab {σ : L2.St} {H : Hp} {te : TE} {o dx t : Addr} {p b : Int} (T : Tx K mg w) (h : Ev te σ H (.ref o)) (h1 : H o = some (.ins (cW K) dx (WF p b t))) : Ev (tFld K te "table") σ H (.ref t) := ev_fldW T h h1 (n_Weights_table T) rfl
theorem rc_isW {H : Hp} {o : Addr} {p b : Int} {G : List (List Int)} (h : Wt K H o p b G) : RC (rIsOwn (cW K)) [.ref o, .ref (cW K)] H (.bl true) := fun H1 e _ q => by
  obtain ⟨_, dx, t, rs, h, _⟩ := h
  exact ⟨o, dx, _, rfl, e _ _ h, q H1 (Ex.refl H1)⟩
def sp_Weights_eq (K : PySem.W.Frag) : Sp := fun vs H Q _ => ∃ (o o2 : Addr) (p b p2 b2 : Int) (F G : List (List Int)), vs = [.ref o, .ref o2] ∧ Wt K H o p b F ∧ Wt K H o2 p2 b2 G ∧ RetV (.bl (decide (p = p2) && (decide (b = b2) && decide (F = G)))) H Q
theorem ok_Weights_eq (T : Tx K mg w) : OkD P w K mg base 1 d_Weights_eq ps_Weights_eq (sp_Weights_eq K) := by
  refine (h_Weights_eq T).ok sc_Weights_eq (fun vs H Q E h => ?_) (fun cdv A outer s H vs Q E hr h => ⟨_,
      (pss_one (ps_ret (pe_and (pe_callB (call_isOwn (C := He.ga K "Weights")) (by rfl) (m_isinstance T) (by decide +kernel) (pa_cons (pv 1) (pa_cons (pe_glob (v := .ref (He.ga K "Weights")) rfl (m_Weights T) rfl) pa_nil))) (pe_and (pe_cmpR op_eq (pe_fld (pv 0) rfl) (pe_fld (pv 1) rfl) (nomark _)) (pe_and (pe_cmpR op_eq (pe_fld (pv 0) rfl) (pe_fld (pv 1) rfl) (nomark _)) (pe_one (pe_cmpR (op_eqD hr.units) (pe_fld (pv 0) rfl) (pe_fld (pv 1) rfl) (nomark _)))))))), ?_⟩)
  · obtain ⟨o, o2, p, b, p2, b2, F, G, rfl, _⟩ := h
    rfl
  · obtain ⟨o, o2, p, b, p2, b2, F, G, rfl, h1, h2, q⟩ := h
    obtain ⟨_, dx, t, rs, a1, a2, a3⟩ := id h1
    obtain ⟨_, dx', t', rs', c1, c2, c3⟩ := id h2
    refine s_ret (v := .bl (true && (decide (p = p2) && (decide (b = b2) && decide (F = G))))) (ev_andV (ev_cb (ea_cons (by exact ev_var rfl) (ea_cons ev_c ea_nil)) (rc_isW h2)) fun _ => ev_andV (ev_op (ev_per (te := tVar 0) T (ev_var rfl) h1) (ev_per (te := tVar 1) T (ev_var rfl) h2) rv_eqII) fun _ => ev_andV (ev_op (ev_mdl (te := tVar 0) T (ev_var rfl) h1) (ev_mdl (te := tVar 1) T (ev_var rfl) h2) rv_eqII) fun _ => ev_op (ev_tab (te := tVar 0) T (ev_var rfl) a1) (ev_tab (te := tVar 1) T (ev_var rfl) c1) (rv_eqGT a2 a3 c2 c3)) fun H1 e1 => ?_
    exact q H1 e1
/-! ### multiples and sums -/
theorem part_len {p b : Int} {F G : List (List Int)} (h : F.map List.length = G.map List.length) : part p b F = part p b G := by
  have h1 : isTb F p = isTb G p := by
    have l1 : F.length = G.length := by
      have := congrArg List.length h
      simpa using this
    have l2 : (F.map fun row => decide (((row.length : Nat) : Int) = p)) = (G.map fun row => decide (((row.length : Nat) : Int) = p)) := by
      have := congrArg (List.map fun n : Nat => decide ((n : Int) = p)) h
      rw [List.map_map, List.map_map] at this
      exact this
    unfold isTb
    rw [l1, l2]
  unfold part
  rw [h1]
theorem isTb_w {p : Int} {G : List (List Int)} (h : isTb G p = true) : 1 ≤ G.length ∧ G.length ≤ 4 ∧ ∀ row ∈ G, (row.length : Int) = p := by
  unfold isTb at h
  obtain ⟨h1, h2⟩ := Bool.and_eq_true_iff.mp h
  obtain ⟨h3, h4⟩ := Bool.and_eq_true_iff.mp h1
  have h3 := of_decide_eq_true h3
  have h4 := of_decide_eq_true h4
  refine ⟨by omega, by omega, fun row hr => ?_⟩
  have := List.all_eq_true.mp h2 _ (List.mem_map.mpr ⟨row, hr, rfl⟩)
  exact of_decide_eq_true this
theorem part_w {p b : Int} {G : List (List Int)} (h : part p b G = none) : 1 ≤ G.length ∧ G.length ≤ 4 ∧ Wd p.toNat G ∧ (1 ≤ p ∧ p ≤ 12) ∧ (b = 0 ∨ (2 ≤ b ∧ b ≤ 97)) := by
  obtain ⟨h1, h2, h3⟩ := part_ok h
  obtain ⟨h4, h5, h6⟩ := isTb_w h3
  refine ⟨h4, h5, fun row hr => ?_, h1, h2⟩
  have := h6 row hr
  omega
theorem sm_of {p b : Int} {G : List (List Int)} (h : part p b G = none) : Sm G := by
  obtain ⟨h1, h2, h3, h4, _⟩ := part_w h
  exact ⟨by omega, fun row hr => by have := h3 row hr; omega⟩
def RetW (K : PySem.W.Frag) (p b : Int) (G : List (List Int)) (H : Hp) (Q : VK) : Prop := ∀ o H2, H o = none → Ex H H2 → Wt K H2 o p b G → Q (.ref o) H2
def mulG (f : Int) (G : List (List Int)) : List (List Int) := G.map fun row => row.map (f * ·)
theorem len_mulG {f : Int} {G : List (List Int)} : (mulG f G).map List.length = G.map List.length := by
  unfold mulG
  rw [List.map_map]
  exact List.map_congr_left fun row _ => List.length_map _
def sp_multiple (K : PySem.W.Frag) : Sp := fun vs H Q E => ∃ (o : Addr) (p b f : Int) (G : List (List Int)), vs = [.ref o, .int f] ∧ Wt K H o p b G ∧ -(2 ^ 60) < f ∧ f < 2 ^ 60 ∧ RetW K p b (red b (mulG f G)) H Q
theorem ok_multiple (T : Tx K mg w) : OkD P w K mg base 6 d_multiple ps_multiple (sp_multiple K) := by
  refine (h_multiple T).ok sc_multiple (fun vs H Q E h => ?_) (fun cdv A outer s H vs Q E hr h => ⟨_,
      (pss_one (ps_ret (pe_make (mk_Weights T) (ok_Weights_init (P := P) (w := w) (base := base) T) (hr.mono (by decide)) (by rfl) (m_Weights T) (b_Weights_init T) .nil (passX (L2N.takes_of rfl rfl rfl rfl)) (pa_cons (pe_fld (pv 0) rfl) (pa_cons (pe_fld (pv 0) rfl) (pa_cons (pe_lc (own := [("row", 2)]) (g := gName 2) rfl sc_multiple.nd (pi_tup (pe_fld (pv 0) rfl)) (blkOk_by (own := [("row", 2)]) (N := ns_multiple) (sc := (defScope st_multiple)) (by decide +kernel)) (fun _ _ _ _ _ => pg_name (i := 2) sc_multiple.nd rfl (Or.inl rfl)) (fun _ _ _ _ _ => pts_nil) (fun _ _ _ _ _ => (pe_lc (own := [("number", 3)]) (g := gName 3) rfl sc_multiple.nd (pi_tupK K rfl (pv 2)) (blkOk_by (own := [("number", 3)]) (N := ns_multiple) (sc := (relS _ (defScope st_multiple))) (by decide +kernel)) (fun _ _ _ _ _ => pg_name (i := 3) sc_multiple.nd rfl (Or.inl rfl)) (fun _ _ _ _ _ => pts_nil) (fun _ _ _ _ _ => (pe_op op_mul (pv 1) (pv 3)))))) pa_nil)))))), ?_⟩)
  · obtain ⟨o, p, b, f, G, rfl, _⟩ := h
    rfl
  · obtain ⟨o, p, b, f, G, rfl, h1, f0, f1, q⟩ := h
    have hp0 := h1.1
    obtain ⟨_, dx, t, rs, a1, a2, a3⟩ := id h1
    obtain ⟨w1, w2, w3, w4, w5⟩ := part_w hp0
    refine ret_fst ?_
    refine cons_fst (ev_per (te := tVar 0) T (ev_var rfl) h1 H (Ex.refl H) _ fun H1 e1 => ?_)
    refine cons_fst (ev_mdl (te := tVar 0) T (ev_var rfl) (h1.ex e1) H1 (Ex.refl H1) _ fun H2 e2 => ?_)
    have e12 := e1.trans e2
    refine cons_fst (eg_T (K := K) (c := .lst) (G := mulG f G) (xs := rs.map V.ref) (a := t) (ev_tab (te := tVar 0) T (ev_var rfl) (e12 _ _ a1)) (st_of (e12 _ _ a2)) (by unfold mulG; rw [List.length_map, List.length_map, a3.len]) (by unfold mulG; rw [List.length_map]; omega) (fun x => rfl) (fun i x H3 e3 hi => ?_) H2 (Ex.refl H2) _ fun g gs H3 hg e3 h3 hr3 _ _ => ?_)
    · obtain ⟨hk, rfl, hrow⟩ := a3.at_ hi
      have h2 := el_lcT (K := K) (a := rs.getD i 0) (xs := (G.getD i []).map V.int) (σ := (wipe (L2.start ns_multiple [V.ref o, .int f]) [2]).set 2 (some (.ref (rs.getD i 0)))) (H := H3) (tl := tVar 2) (j := 3) (vs := [3]) (t := tYes) (te := tOp (rI CMul fun i j => V.int (i * j)) (tVar 1) (tVar 3)) (fun _ => true) (fun k => .int (f * ((G.getD i []).getD k 0))) (ev_var rfl) (st_of ((e12.trans e3) _ _ hrow)) (by rw [List.length_map]; have := w3 _ (row_mem hk); omega) (fun x => rfl) (fun k x H4 _ _ => et_yes) (fun k x H4 e4 hk2 _ => by
        obtain ⟨_, rfl⟩ := int_at hk2
        exact ev_op (ev_var rfl) (ev_var rfl) (rv_I (.inl ⟨by omega, by omega⟩)))
      rw [List.length_map, given_map (G.getD i []) (f * ·) _ (fun i _ => rfl)] at h2
      unfold mulG
      rw [row_map hk]
      exact h2
    · intro x dy hx hdy hne
      have hpn : part p b (mulG f G) = none := by rw [part_len len_mulG]; exact hp0
      refine mk_W hx hdy hne ⟨gs, .inl h3, hr3⟩ (sm_of hpn) (fun _ H4 e4 hw => ?_) fun z hz => by rw [hpn] at hz; cases hz
      exact q x H4 (fresh_back (e12.trans e3) hx) ((e12.trans e3).trans e4) hw
def cmb (f : Int) (F G : List (List Int)) : List (List Int) := (List.range F.length).map fun k => (List.range (F.getD k []).length).map fun i => (F.getD k []).getD i 0 + f * (G.getD k []).getD i 0
theorem cmb_at {f : Int} {F G : List (List Int)} {k : Nat} (hk : k < F.length) : (cmb f F G).getD k [] = (List.range (F.getD k []).length).map fun i => (F.getD k []).getD i 0 + f * (G.getD k []).getD i 0 := by
  unfold cmb
  rw [List.getD_eq_getElem?_getD, List.getElem?_map, List.getElem?_range hk]
  rfl
theorem len_cmb {f : Int} {F G : List (List Int)} : (cmb f F G).map List.length = F.map List.length := by
  apply List.ext_getElem
  · simp [cmb]
  · intro k h1 h2
    simp only [List.length_map] at h2
    rw [List.getElem_map, List.getElem_map]
    have h := cmb_at (f := f) (F := F) (G := G) h2
    have hk : k < (cmb f F G).length := by simpa [cmb] using h2
    rw [List.getD_eq_getElem?_getD, List.getElem?_eq_getElem hk] at h
    rw [show (cmb f F G)[k] = _ from h, List.length_map, List.length_range, List.getD_eq_getElem?_getD, List.getElem?_eq_getElem h2]
    rfl
def unl (p b p2 b2 : Int) (F G : List (List Int)) : Option Str := if p ≠ p2 then some ("period" : Str) else if b ≠ b2 then some ("modulus" : Str) else if F.length ≠ G.length then some ("table" : Str) else none
def sp_summed (K : PySem.W.Frag) : Sp := fun vs H Q E => ∃ (o o2 : Addr) (p b p2 b2 f : Int) (F G : List (List Int)), vs = [.ref o, .ref o2, .int f] ∧ Wt K H o p b F ∧ Wt K H o2 p2 b2 G ∧ -(2 ^ 60) < f ∧ f < 2 ^ 60 ∧
  (unl p b p2 b2 F G = none → RetW K p b (red b (cmb f F G)) H Q) ∧ (∀ z, unl p b p2 b2 F G = some z → Bad K "InvalidWeight" "part" H E (.str z))
theorem ok_summed (T : Tx K mg w) : OkD P w K mg base 6 d_summed ps_summed (sp_summed K) := by
  refine (h_summed T).ok sc_summed (fun vs H Q E h => ?_) (fun cdv A outer s H vs Q E hr h => ⟨_,
      (pss_cons (ps_if (pt_cmpR op_ne (pe_fld (pv 0) rfl) (pe_fld (pv 1) rfl) (nomark _)) (pss_one (L2N.ps_raise rfl (L2N.takes_of rfl rfl rfl rfl) (pmkN_oex (x_InvalidWeight T).oex (x_InvalidWeight T).iC (x_InvalidWeight T).tI (ok_InvalidWeight_init (P := P) (w := w) (base := base) T) (hr.mono (by decide)) (b_InvalidWeight_init T) .nil passN (by rfl) (m_InvalidWeight T) (pa_cons pe_str pa_nil)))) pss_nil)
      (pss_cons (ps_if (pt_cmpR op_ne (pe_fld (pv 0) rfl) (pe_fld (pv 1) rfl) (nomark _)) (pss_one (L2N.ps_raise rfl (L2N.takes_of rfl rfl rfl rfl) (pmkN_oex (x_InvalidWeight T).oex (x_InvalidWeight T).iC (x_InvalidWeight T).tI (ok_InvalidWeight_init (P := P) (w := w) (base := base) T) (hr.mono (by decide)) (b_InvalidWeight_init T) .nil passN (by rfl) (m_InvalidWeight T) (pa_cons pe_str pa_nil)))) pss_nil)
      (pss_cons (ps_if (pt_cmpR op_ne (pe_callB call_len (by rfl) (m_len T) (by decide +kernel) (pa_cons (pe_fld (pv 0) rfl) pa_nil)) (pe_callB call_len (by rfl) (m_len T) (by decide +kernel) (pa_cons (pe_fld (pv 1) rfl) pa_nil)) (nomark _)) (pss_one (L2N.ps_raise rfl (L2N.takes_of rfl rfl rfl rfl) (pmkN_oex (x_InvalidWeight T).oex (x_InvalidWeight T).iC (x_InvalidWeight T).tI (ok_InvalidWeight_init (P := P) (w := w) (base := base) T) (hr.mono (by decide)) (b_InvalidWeight_init T) .nil passN (by rfl) (m_InvalidWeight T) (pa_cons pe_str pa_nil)))) pss_nil)
      (pss_cons (ps_setLc (i := 3) (own := [("row", 4), ("others", 5)]) (g := gTup K 2 (gCons (gName 4) (gCons (gName 5) gNil))) rfl sc_summed.nd rfl rfl (sw_true rfl rfl rfl (by decide +kernel)) (RZ.pi_zipA (by rfl) (m_zip T) (pa_cons (pe_fld (pv 0) rfl) (pa_cons (pe_fld (pv 1) rfl) pa_nil))) (blkOk_by (own := [("row", 4), ("others", 5)]) (N := ns_summed) (sc := (defScope st_summed)) (by decide +kernel)) (fun _ _ _ _ _ => (pg_tup rfl (pgs_cons (pg_name (i := 4) sc_summed.nd rfl (Or.inl rfl)) (pgs_cons (pg_name (i := 5) sc_summed.nd rfl (Or.inl rfl)) pgs_nil)))) (fun _ _ _ _ _ => pts_nil) (fun _ _ _ _ _ => (pe_lc (own := [("x", 6), ("y", 7)]) (g := gTup K 2 (gCons (gName 6) (gCons (gName 7) gNil))) rfl sc_summed.nd (pi_zipAK K rfl (by rfl) (m_zip T) (pa_cons (pv 4) (pa_cons (pv 5) pa_nil))) (blkOk_by (own := [("x", 6), ("y", 7)]) (N := ns_summed) (sc := (relS _ (defScope st_summed))) (by decide +kernel)) (fun _ _ _ _ _ => (pg_tup rfl (pgs_cons (pg_name (i := 6) sc_summed.nd rfl (Or.inl rfl)) (pgs_cons (pg_name (i := 7) sc_summed.nd rfl (Or.inl rfl)) pgs_nil)))) (fun _ _ _ _ _ => pts_nil) (fun _ _ _ _ _ => (pe_op op_add (pv 6) (pe_op op_mul (pv 2) (pv 7)))))))
      (pss_one (ps_ret (pe_make (mk_Weights T) (ok_Weights_init (P := P) (w := w) (base := base) T) (hr.mono (by decide)) (by rfl) (m_Weights T) (b_Weights_init T) .nil (passX (L2N.takes_of rfl rfl rfl rfl)) (pa_cons (pe_fld (pv 0) rfl) (pa_cons (pe_fld (pv 0) rfl) (pa_cons (pv 3) pa_nil)))))))))), ?_⟩)
  · obtain ⟨o, o2, p, b, p2, b2, f, F, G, rfl, _⟩ := h
    rfl
  · obtain ⟨o, o2, p, b, p2, b2, f, F, G, rfl, h1, h2, f0, f1, q1, q2⟩ := h
    have hp0 := h1.1
    obtain ⟨_, dx, t, rs, a1, a2, a3⟩ := id h1
    obtain ⟨hp2, dx', t', rs', c1, c2, c3⟩ := id h2
    obtain ⟨w1, w2, w3, w4, w5⟩ := part_w hp0
    refine q_when (b := !decide (p = p2)) (et_test (ev_op (ev_per (te := tVar 0) T (ev_var rfl) h1) (ev_per (te := tVar 1) T (ev_var rfl) h2) rv_neII)) (fun hc H1 e1 => ?_) (fun hc H1 e1 => ?_)
    · have hn : p ≠ p2 := of_decide_eq_false (not_t hc)
      exact ⟨by simp, fun a ha => ⟨a, _, rfl, ks_period, mk_go ((q2 _ (if_pos hn)).ex e1) ha⟩⟩
    have hpp : p = p2 := of_decide_eq_true (not_f hc)
    refine q_when (b := !decide (b = b2)) (et_test (ev_op (ev_mdl (te := tVar 0) T (ev_var rfl) (h1.ex e1)) (ev_mdl (te := tVar 1) T (ev_var rfl) (h2.ex e1)) rv_neII)) (fun hc H2 e2 => ?_) (fun hc H2 e2 => ?_)
    · have hn : b ≠ b2 := of_decide_eq_false (not_t hc)
      exact ⟨by simp, fun a ha => ⟨a, _, rfl, ks_modulus, mk_go ((q2 _ (by unfold unl; rw [if_neg (not_not_intro hpp), if_pos hn])).ex (e1.trans e2)) ha⟩⟩
    have hbb : b = b2 := of_decide_eq_true (not_f hc)
    have e12 := e1.trans e2
    have l1 := rc_lenT (K := K) (st_of (K := K) (e12 _ _ a2))
    have l2 := rc_lenT (K := K) (st_of (K := K) (e12 _ _ c2))
    rw [List.length_map, a3.len] at l1
    rw [List.length_map, c3.len] at l2
    refine q_when (b := !decide ((F.length : Int) = (G.length : Int))) (et_test (ev_op (ev_cb (ea_cons (ev_tab (te := tVar 0) T (ev_var rfl) (e12 _ _ a1)) ea_nil) l1) (ev_cb (ea_cons (ev_tab (te := tVar 1) T (ev_var rfl) (e12 _ _ c1)) ea_nil) l2) rv_neII)) (fun hc H3 e3 => ?_) (fun hc H3 e3 => ?_)
    · have hn : F.length ≠ G.length := fun z => of_decide_eq_false (not_t hc) (by rw [z])
      exact ⟨by simp, fun a ha => ⟨a, _, rfl, ks_table, mk_go ((q2 _ (by unfold unl; rw [if_neg (not_not_intro hpp), if_neg (not_not_intro hbb), if_pos hn])).ex (e12.trans e3)) ha⟩⟩
    have hll : F.length = G.length := by
      have := of_decide_eq_true (not_f hc)
      omega
    have e13 := e12.trans e3
    subst hpp hbb
    obtain ⟨v1, v2, v3, v4, v5⟩ := part_w hp2
    refine q_first ?_
    refine eg_Z (K := K) (c := .lst) (G := cmb f F G) (xs := rs.map V.ref) (ys := rs'.map V.ref) (a := t) (b := t') (ea_cons (ev_tab (te := tVar 0) T (ev_var rfl) (e13 _ _ a1)) (ea_cons (ev_tab (te := tVar 1) T (ev_var rfl) (e13 _ _ c1)) ea_nil)) (st_of (e13 _ _ a2)) (st_of (e13 _ _ c2)) (by rw [List.length_map, List.length_map, a3.len, c3.len, hll]) (by rw [List.length_map, a3.len]; simp [cmb]) (by rw [List.length_map, a3.len]; omega) (fun x y => rfl) (fun i x y H4 e4 hi hj => ?_) H3 (Ex.refl H3) _ fun g gs H4 hg e4 h4 hr4 _ _ => ?_
    · obtain ⟨hk, rfl, hrow⟩ := a3.at_ hi
      obtain ⟨hk', rfl, hrow'⟩ := c3.at_ hj
      have lw := w3.at_ hk
      have lv := v3.at_ hk'
      have h2 := el_lcZ (K := K) (a := rs.getD i 0) (b := rs'.getD i 0) (xs := (F.getD i []).map V.int) (ys := (G.getD i []).map V.int) (σ := ((wipe (L2.start ns_summed [V.ref o, .ref o2, .int f]) [4, 5]).set 4 (some (.ref (rs.getD i 0)))).set 5 (some (.ref (rs'.getD i 0)))) (H := H4) (tA := tCons (tVar 4) (tCons (tVar 5) tNil)) (p := 6) (q := 7) (vs := [6, 7]) (t := tYes) (te := tOp (rI0 fun i j => V.int (i + j)) (tVar 6) (tOp (rI CMul fun i j => V.int (i * j)) (tVar 2) (tVar 7))) (fun _ => true) (fun k => .int ((F.getD i []).getD k 0 + f * (G.getD i []).getD k 0)) (ea_cons (ev_var rfl) (ea_cons (ev_var rfl) ea_nil)) (st_of ((e13.trans e4) _ _ hrow)) (st_of ((e13.trans e4) _ _ hrow')) (by rw [List.length_map, List.length_map, lw, lv]) (by rw [List.length_map, lw]; omega) (fun x y => rfl) (fun k x y H4 _ _ _ => et_yes) (fun k x y H5 e5 hk2 hk3 _ => by
        obtain ⟨_, rfl⟩ := int_at hk2
        obtain ⟨_, rfl⟩ := int_at hk3
        exact ev_op (ev_var rfl) (ev_op (ev_var rfl) (ev_var rfl) (rv_I (.inl ⟨by omega, by omega⟩))) rv_I0)
      rw [List.length_map, given_all] at h2
      rw [cmb_at hk]
      unfold EvN
      rw [List.map_map]
      exact h2
    · refine ret_fst ?_
      refine cons_fst (ev_per (te := tVar 0) T (ev_var rfl) (h1.ex (e13.trans e4)) H4 (Ex.refl H4) _ fun H5 e5 => ?_)
      refine cons_fst (ev_mdl (te := tVar 0) T (ev_var rfl) (h1.ex ((e13.trans e4).trans e5)) H5 (Ex.refl H5) _ fun H6 e6 => ?_)
      refine cons_fst ⟨_, rfl, ?_⟩
      intro x dy hx hdy hne
      have hpn : part p b (cmb f F G) = none := by rw [part_len len_cmb]; exact hp0
      have e46 := e5.trans e6
      refine mk_W hx hdy hne ⟨gs, .inl (e46 _ _ h4), hr4.ex e46⟩ (sm_of hpn) (fun _ H7 e7 hw => ?_) fun z hz => by rw [hpn] at hz; cases hz
      have e16 := (e13.trans e4).trans e46
      exact q1 (by unfold unl; rw [if_neg (not_not_intro rfl), if_neg (not_not_intro rfl), if_neg (not_not_intro hll)]) x H7 (fresh_back e16 hx) (e16.trans e7) hw
end
end K54
namespace K54
open PySem PySem.Spec PyProof.Rows L2 Lc Evl
section
variable {P : Program} {w : World} {K : PySem.W.Frag} {mg : Str → Option Value} {base : Heap}
/-! ### the operators -/
def sp_Weights_add (K : PySem.W.Frag) : Sp := fun vs H Q E => ∃ (o o2 : Addr) (p b p2 b2 : Int) (F G : List (List Int)), vs = [.ref o, .ref o2] ∧ Wt K H o p b F ∧ Wt K H o2 p2 b2 G ∧
  (unl p b p2 b2 F G = none → RetW K p b (red b (cmb 1 F G)) H Q) ∧ (∀ z, unl p b p2 b2 F G = some z → Bad K "InvalidWeight" "part" H E (.str z))
theorem ok_Weights_add (T : Tx K mg w) : OkD P w K mg base 7 d_Weights_add ps_Weights_add (sp_Weights_add K) := by
  refine (h_Weights_add T).ok sc_Weights_add (fun vs H Q E h => ?_) (fun cdv A outer s H vs Q E hr h => ⟨_,
      (pss_one (ps_ret (pe_callSD (ok_summed (P := P) (w := w) (base := base) T) (hr.mono (by decide)) (by rfl) (m_summed T) (k_summed T) (b_summed T) .nil (fun σ => L2N.passAt (L2N.takes_of rfl rfl rfl rfl) σ) (pa_cons (pv 0) (pa_cons (pv 1) (pa_cons pe_int pa_nil)))))), ?_⟩)
  · obtain ⟨o, o2, p, b, p2, b2, F, G, rfl, _⟩ := h
    rfl
  · obtain ⟨o, o2, p, b, p2, b2, F, G, rfl, h1, h2, q1, q2⟩ := h
    exact ⟨_, rfl, _, rfl, o, o2, p, b, p2, b2, 1, F, G, rfl, h1, h2, by decide, by decide, q1, q2⟩
def sp_Weights_sub (K : PySem.W.Frag) : Sp := fun vs H Q E => ∃ (o o2 : Addr) (p b p2 b2 : Int) (F G : List (List Int)), vs = [.ref o, .ref o2] ∧ Wt K H o p b F ∧ Wt K H o2 p2 b2 G ∧
  (unl p b p2 b2 F G = none → RetW K p b (red b (cmb (-1) F G)) H Q) ∧ (∀ z, unl p b p2 b2 F G = some z → Bad K "InvalidWeight" "part" H E (.str z))
theorem ok_Weights_sub (T : Tx K mg w) : OkD P w K mg base 7 d_Weights_sub ps_Weights_sub (sp_Weights_sub K) := by
  refine (h_Weights_sub T).ok sc_Weights_sub (fun vs H Q E h => ?_) (fun cdv A outer s H vs Q E hr h => ⟨_,
      (pss_one (ps_ret (pe_callSD (ok_summed (P := P) (w := w) (base := base) T) (hr.mono (by decide)) (by rfl) (m_summed T) (k_summed T) (b_summed T) .nil (fun σ => L2N.passAt (L2N.takes_of rfl rfl rfl rfl) σ) (pa_cons (pv 0) (pa_cons (pv 1) (pa_cons (pe_un un_neg pe_int) pa_nil)))))), ?_⟩)
  · obtain ⟨o, o2, p, b, p2, b2, F, G, rfl, _⟩ := h
    rfl
  · obtain ⟨o, o2, p, b, p2, b2, F, G, rfl, h1, h2, q1, q2⟩ := h
    exact ⟨_, rfl, _, rfl, 1, rfl, o, o2, p, b, p2, b2, (-1), F, G, rfl, h1, h2, by decide, by decide, q1, q2⟩
def sp_Weights_neg (K : PySem.W.Frag) : Sp := fun vs H Q E => ∃ (o : Addr) (p b : Int) (G : List (List Int)), vs = [.ref o] ∧ Wt K H o p b G ∧ RetW K p b (red b (mulG (-1) G)) H Q
theorem ok_Weights_neg (T : Tx K mg w) : OkD P w K mg base 7 d_Weights_neg ps_Weights_neg (sp_Weights_neg K) := by
  refine (h_Weights_neg T).ok sc_Weights_neg (fun vs H Q E h => ?_) (fun cdv A outer s H vs Q E hr h => ⟨_,
      (pss_one (ps_ret (pe_callSD (ok_multiple (P := P) (w := w) (base := base) T) (hr.mono (by decide)) (by rfl) (m_multiple T) (k_multiple T) (b_multiple T) .nil (fun σ => L2N.passAt (L2N.takes_of rfl rfl rfl rfl) σ) (pa_cons (pv 0) (pa_cons (pe_un un_neg pe_int) pa_nil))))), ?_⟩)
  · obtain ⟨o, p, b, G, rfl, _⟩ := h
    rfl
  · obtain ⟨o, p, b, G, rfl, h1, q⟩ := h
    exact ⟨_, rfl, 1, rfl, o, p, b, -1, G, rfl, h1, by decide, by decide, q⟩
def sp_Weights_mul (K : PySem.W.Frag) : Sp := fun vs H Q E => ∃ (o : Addr) (p b f : Int) (G : List (List Int)), vs = [.ref o, .int f] ∧ Wt K H o p b G ∧ -(2 ^ 60) < f ∧ f < 2 ^ 60 ∧ RetW K p b (red b (mulG f G)) H Q
theorem ok_Weights_mul (T : Tx K mg w) : OkD P w K mg base 7 d_Weights_mul ps_Weights_mul (sp_Weights_mul K) := by
  refine (h_Weights_mul T).ok sc_Weights_mul (fun vs H Q E h => ?_) (fun cdv A outer s H vs Q E hr h => ⟨_,
      (pss_one (ps_ret (pe_callSD (ok_multiple (P := P) (w := w) (base := base) T) (hr.mono (by decide)) (by rfl) (m_multiple T) (k_multiple T) (b_multiple T) .nil (fun σ => L2N.passAt (L2N.takes_of rfl rfl rfl rfl) σ) (pa_cons (pv 0) (pa_cons (pv 1) pa_nil))))), ?_⟩)
  · obtain ⟨o, p, b, f, G, rfl, _⟩ := h
    rfl
  · obtain ⟨o, p, b, f, G, rfl, h1, f0, f1, q⟩ := h
    exact ⟨_, rfl, _, rfl, o, p, b, f, G, rfl, h1, f0, f1, q⟩
/-! ### the value of a row -/
def Row (l : List Nat) : Prop := l.length ≤ 1000 ∧ ∀ c ∈ l, c < 128
def kL : List Nat := [97, 98, 99, 100]
theorem kl_eq : (V.str "abcd" : V) = V.str (S kL) := congrArg V.str (by decide +kernel)
theorem um_kd : ∀ c ∈ SG, decide (um c ∈ kL) = decide (0 ≤ kd c) := by decide +kernel
theorem um_ix : ∀ c ∈ SG, 0 ≤ kd c → Txt.index0 (S kL) (S [um c]) = some (kd c).toNat := by decide +kernel
theorem q_forE {σ : L2.St} {H : Hp} {tA : TA} {D : Ends} {tu tz : TS} {l : List Nat} {p q : Nat} (h : EvA tA σ H [.str (S l)]) (Pv : Nat → L2.St → Hp → Prop) (h0 : ∀ H1, Ex H H1 → Pv 0 σ H1) (hx : ∀ i σ' H1 H2, Pv i σ' H1 → Ex H1 H2 → Pv i σ' H2)
    (hs : ∀ i c σ' H', l[i]? = some c → Pv i σ' H' → tu { D with nx := Pv (i + 1), ct := Pv (i + 1), bk := tz D } ((σ'.set p (some (.int (i : Nat)))).set q (some (.str (S [c])))) H') (hd : ∀ σ' H', Pv l.length σ' H' → tz D σ' H') :
    tSeq (tFor (iEnumS tA) (gTup K 2 (gCons (gName p) (gCons (gName q) gNil))) tu) tz D σ H := s_forE (D := { D with nx := tz D }) h Pv h0 hx hs hd
theorem rv_rowT {H : Hp} {g : Addr} {G : List (List Int)} {rs : List Addr} {i : Int} (hg : H g = some (.tup (rs.map V.ref))) (hr : Rw .tup H rs G) (h0 : 0 ≤ i) (h1 : i < G.length) : RV (rIxT K) (.ref g) (.int i) H (.ref (rs.getD i.toNat 0)) := rv_ixT (st_of hg) (atI_ref h0 (by rw [hr.len]; exact h1))
theorem rv_cellT {H : Hp} {G : List (List Int)} {rs : List Addr} {i j : Int} (hr : Rw .tup H rs G) (h0 : 0 ≤ i) (h1 : i < G.length) (j0 : 0 ≤ j) (j1 : j < (G.getD i.toNat []).length) : RV (rIxT K) (.ref (rs.getD i.toNat 0)) (.int j) H (.int ((G.getD i.toNat []).getD j.toNat 0)) := rv_ixT (st_of (hr.row i.toNat (by omega))) (atI_int j0 j1)
def sp_Weights_value (K : PySem.W.Frag) : Sp := fun vs H Q E => ∃ (o : Addr) (p b : Int) (G : List (List Int)) (l : List Nat), vs = [.ref o, .str (S l)] ∧ Wt K H o p b G ∧ Row l ∧ (OkS G.length l → RetV (.int (rem b (wS G p l 0 l.length))) H Q) ∧ (¬ OkS G.length l → Bad K "InvalidRow" "row" H E (.str (S l)))
theorem ok_Weights_value (T : Tx K mg w) : OkD P w K mg base 4 d_Weights_value ps_Weights_value (sp_Weights_value K) := by
  obtain ⟨ds, vd, bd⟩ := b_check_row T
  refine (h_Weights_value T).ok sc_Weights_value (fun vs H Q E h => ?_) (fun cdv A outer s H vs Q E hr h => ⟨_,
      (pss_cons (ps_expr (pe_callSD (ok_check_row (P := P) (w := w) (base := base) T) (hr.mono (by decide)) (by rfl) (m_check_row T) (k_check_row T) bd vd (fun σ => L2N.passAt (L2N.takes_of rfl rfl rfl rfl) σ) (pa_cons (pv 1) pa_nil)))
      (pss_cons (ps_set (i := 2) sc_Weights_value.nd rfl (Or.inl rfl) pe_int)
      (pss_cons (ps_for (passes_of rfl) rfl (pi_enumS (by rfl) (m_enumerate T) (pa_cons (pe_call (ok_unmarked (P := P) (w := w) (base := base) T) (hr.mono (by decide)) (by rfl) (m_unmarked T) (k_unmarked T) (b_unmarked T) .nil passN (pa_cons (pv 1) pa_nil)) pa_nil)) (pg_tup rfl (pgs_cons (pg_name (i := 3) sc_Weights_value.nd rfl (Or.inl rfl)) (pgs_cons (pg_name (i := 4) sc_Weights_value.nd rfl (Or.inl rfl)) pgs_nil))) (pss_one (ps_if (pt_cmpR op_in_sign (pv 4) (pe_glob (v := .str "abcd") rfl (m_KINDS T).choose_spec ⟨_, rfl⟩) (by rfl)) (pss_cons (ps_set (i := 5) sc_Weights_value.nd rfl (Or.inl rfl) (pe_bmS PySem.F.plainAttrs_str PySem.F.slot_str_index PySem.F.type_str_index (mt_indexX rfl takes0) (pe_glob (v := .str "abcd") rfl (m_KINDS T).choose_spec ⟨_, rfl⟩) (pa_cons (pv 4) pa_nil)))
      (pss_cons (ps_if (pt_cmpR op_ge (pv 5) (pe_callB call_len (by rfl) (m_len T) (by decide +kernel) (pa_cons (pe_fld (pv 0) rfl) pa_nil)) (nomark _)) (pss_one (L2N.ps_raise rfl (L2N.takes_of rfl rfl rfl rfl) (pmkN_oex (x_InvalidRow T).oex (x_InvalidRow T).iC (x_InvalidRow T).tI (ok_InvalidRow_init (P := P) (w := w) (base := base) T) (hr.mono (by decide)) (b_InvalidRow_init T) .nil passN (by rfl) (m_InvalidRow T) (pa_cons (pv 1) pa_nil)))) pss_nil)
      (pss_one (ps_set (i := 2) sc_Weights_value.nd rfl (Or.inl rfl) (pe_op op_add (pv 2) (pe_ix ix_tup (pe_ix ix_tup (pe_fld (pv 0) rfl) (pv 5) (fun _ _ => rfl)) (pe_op op_mod (pv 3) (pe_fld (pv 0) rfl)) (fun _ _ => rfl))))))) pss_nil)))
      (pss_one (ps_ret (pe_call (ok_remainder (P := P) (w := w) (base := base) T) (hr.mono (by decide)) (by rfl) (m_remainder T) (k_remainder T) (b_remainder T) .nil passN (pa_cons (pv 2) (pa_cons (pe_fld (pv 0) rfl) pa_nil)))))))), ?_⟩)
  · obtain ⟨o, p, b, G, l, rfl, _⟩ := h
    rfl
  · obtain ⟨o, p, b, G, l, rfl, h1, ⟨hl, hc⟩, q1, q2⟩ := h
    have hp0 := h1.1
    obtain ⟨_, dx, t, rs, a1, a2, a3⟩ := id h1
    obtain ⟨w1, w2, w3, w4, w5⟩ := part_w hp0
    refine ⟨_, rfl, l, SG, by rw [sg_eq]; rfl, hl, by decide, hc, fun hg H1 e1 => ?_, fun hb => q2 fun z => hb fun c hcl => (z c hcl).1⟩
    dsimp only
    simp only [kl_eq]
    refine q_asg ev_c fun H2 e2 => ?_
    have e12 := e1.trans e2
    refine q_forE (l := l.map um) (ea_cons (ev_call (ea_cons (by exact ev_var rfl) ea_nil) fun H3 e3 Q3 q3 E3 => ⟨l, rfl, hl, hc, q3⟩) ea_nil) (fun i σ' H' => Ex H H' ∧ (∀ c ∈ l.take i, kd c < (G.length : Int)) ∧ ∃ (v3 v4 v5 : Option V), σ' = [some (.ref o), some (.str (S l)), some (.int (wS G p l 0 i)), v3, v4, v5])
      (fun H3 e3 => ⟨e12.trans e3, by simp, none, none, none, rfl⟩) (fun i σ' H3 H4 h e => ⟨h.1.trans e, h.2⟩) ?_ ?_
    · rintro i cu σ' H' hi ⟨e, hpre, v3, v4, v5, rfl⟩
      rw [List.getElem?_map] at hi
      have hil : i < l.length := by
        rcases Nat.lt_or_ge i l.length with h | h
        · exact h
        · rw [List.getElem?_eq_none h] at hi
          cases hi
      have hic : l[i]? = some (l.getD i 0) := by
        rw [List.getD_eq_getElem?_getD, List.getElem?_eq_getElem hil]
        rfl
      rw [hic] at hi
      have hcu : um (l.getD i 0) = cu := by simpa using hi
      subst hcu
      have hcs := hg _ (getD_in hil)
      have hmem := getD_in hil
      dsimp only [List.set]
      have ht : wS G p l 0 (i + 1) = wS G p l 0 i + tm G p l 0 i := rfl
      have hnext : ∀ c, kd (l.getD i 0) < (G.length : Int) → c ∈ l.take (i + 1) → kd c < (G.length : Int) := fun c hk hc => by
        rw [List.take_add_one, List.mem_append] at hc
        rcases hc with hc | hc
        · exact hpre c hc
        · rw [hic] at hc
          have : c = l.getD i 0 := by simpa using hc
          rw [this]
          exact hk
      refine s_when (b := decide (um (l.getD i 0) ∈ kL)) (et_test (ev_op (ev_var rfl) ev_c rv_inSS)) (fun hb H3 e3 => ?_) (fun hb H3 e3 => ?_)
      · rw [um_kd _ hcs] at hb
        have h0 : 0 ≤ kd (l.getD i 0) := of_decide_eq_true hb
        refine q_asg (v := .int (kd (l.getD i 0))) (by
          have h := ev_index (K := K) (W := fun _ _ _ _ => False) (σ := [some (.ref o), some (.str (S l)), some (.int (wS G p l 0 i)), some (.int ((i : Nat) : Int)), some (.str (S [um (l.getD i 0)])), v5]) (H := H3) (to := tC (.str (S kL))) (ta := tCons (tVar 4) tNil) ev_c (ea_cons (ev_var rfl) ea_nil) (um_ix _ hcs h0)
          rw [Int.toNat_of_nonneg h0] at h
          exact h) fun H4 e4 => ?_
        have e34 := (e.trans e3).trans e4
        have hlen := rc_lenT (K := K) (st_of (K := K) (e34 _ _ a2))
        rw [List.length_map, a3.len] at hlen
        refine q_when (b := decide ((G.length : Int) ≤ kd (l.getD i 0))) (et_test (ev_op (by exact ev_var rfl) (ev_cb (ea_cons (ev_tab (te := tVar 0) T (ev_var rfl) (e34 _ _ a1)) ea_nil) hlen) rv_I0)) (fun hb2 H5 e5 => ?_) (fun hb2 H5 e5 => ?_)
        · have hge : (G.length : Int) ≤ kd (l.getD i 0) := of_decide_eq_true hb2
          have hno : ¬ OkS G.length l := fun z => by have := (z _ hmem).2; omega
          exact ⟨_, rfl, by simp, fun a ha => ⟨a, _, rfl, ⟨l, rfl, hl, hc⟩, mk_go ((q2 hno).ex (e34.trans e5)) ha⟩⟩
        · have hlt : kd (l.getD i 0) < (G.length : Int) := by
            have := of_decide_eq_false hb2
            omega
          have e35 := e34.trans e5
          have b1 := Int.emod_nonneg ((i : Int)) (show p ≠ 0 by omega)
          have b2 := Int.emod_lt_of_pos ((i : Int)) (show (0 : Int) < p by omega)
          have hln := w3.at_ (k := (kd (l.getD i 0)).toNat) (by omega)
          have hrow := rv_rowT (K := K) (e35 _ _ a2) (a3.ex e35) h0 hlt
          have hcell := rv_cellT (K := K) (a3.ex e35) h0 hlt b1 (by rw [hln]; omega)
          refine s_asg (ev_op (x := .int (wS G p l 0 i)) (by exact ev_var rfl) (ev_op (ev_op (ev_tab (te := tVar 0) T (ev_var rfl) (e35 _ _ a1)) (by exact ev_var rfl) hrow) (ev_op (by exact ev_var rfl) (ev_per (te := tVar 0) T (ev_var rfl) (h1.ex e35)) (rv_I (show (0 : Int) < p by omega))) hcell) rv_I0) fun H6 e6 => ?_
          have ht2 : tm G p l 0 i = (G.getD (kd (l.getD i 0)).toNat []).getD ((i : Int) % p).toNat 0 := by
            unfold tm
            rw [if_pos h0, Int.zero_add]
          refine ⟨e35.trans e6, fun c hc => hnext c hlt hc, some (.int ((i : Nat) : Int)), some (.str (S [um (l.getD i 0)])), some (.int (kd (l.getD i 0))), ?_⟩
          rw [ht, ht2]
          rfl
      · rw [um_kd _ hcs] at hb
        have h0 : ¬ 0 ≤ kd (l.getD i 0) := of_decide_eq_false hb
        have ht2 : tm G p l 0 i = 0 := by
          unfold tm
          rw [if_neg h0]
        refine ⟨e.trans e3, fun c hc => hnext c (by omega) hc, some (.int ((i : Nat) : Int)), some (.str (S [um (l.getD i 0)])), v5, ?_⟩
        rw [ht, ht2, Int.add_zero]
    · rintro σ' H' ⟨e, hpre, v3, v4, v5, rfl⟩
      rw [List.length_map] at hpre ⊢
      rw [List.take_length] at hpre
      refine s_ret (ev_call (ea_cons (by exact ev_var rfl) (ea_cons (ev_mdl (te := tVar 0) T (ev_var rfl) (h1.ex e)) ea_nil)) fun H3 e3 Q3 q3 E3 => ⟨_, b, rfl, by omega, q3⟩) fun H3 e3 => ?_
      exact q1 (fun c hc => ⟨hg c hc, hpre c hc⟩) H3 (e.trans e3)
end
end K54
namespace K54
open PySem PySem.Spec PyProof.Rows L2 Lc Evl
section
variable {P : Program} {w : World} {K : PySem.W.Frag} {mg : Str → Option Value} {base : Heap}
/-! ### weights looked at -/
theorem ev_isI {σ : L2.St} {H : Hp} {te : TE} {i : Int} (h : Ev te σ H (.int i)) : Ev (tCall sp_law_is_integer [] E0 (tCons te tNil)) σ H (.bl true) := ev_call (ea_cons h ea_nil) fun H1 e1 Q q E => ⟨i, rfl, q⟩
theorem ev_red {σ : L2.St} {H : Hp} {tx tb : TE} {x b : Int} (h1 : Ev tx σ H (.int x)) (h2 : Ev tb σ H (.int b)) (hb : 0 ≤ b) : Ev (tCall sp_law_reduced [] E0 (tCons tx (tCons tb tNil))) σ H (.int (rem b x)) := ev_call (ea_cons h1 (ea_cons h2 ea_nil)) fun H1 e1 Q q E => ⟨x, b, rfl, hb, q⟩
theorem red_at {b : Int} {G : List (List Int)} {k : Nat} (hk : k < G.length) : (red b G).getD k [] = (G.getD k []).map (rem b) := row_map hk
theorem map_at {f : Int → Int} {row : List Int} {i : Nat} (hi : i < row.length) : (row.map f).getD i 0 = f (row.getD i 0) := by
  rw [List.getD_eq_getElem?_getD, List.getD_eq_getElem?_getD, List.getElem?_map, List.getElem?_eq_getElem hi]
  rfl
def sp_law_is_weights (K : PySem.W.Frag) : Sp := fun vs H Q _ => ∃ (o g : Addr) (p b : Int) (G : List (List Int)), vs = [.ref o, .int p, .int b, .ref g] ∧ Wt K H o p b (red b G) ∧ Gd H g G ∧ RetV (.bl true) H Q
theorem ok_law_is_weights (T : Tx K mg w) : OkD P w K mg base 2 d_law_is_weights ps_law_is_weights (sp_law_is_weights K) := by
  refine (h_law_is_weights T).ok sc_law_is_weights (fun vs H Q E h => ?_) (fun cdv A outer s H vs Q E hr h => ⟨_,
      (pss_cons (ps_if (pt_not (pt_val (pe_callB (call_isOwn (C := He.ga K "Weights")) (by rfl) (m_isinstance T) (by decide +kernel) (pa_cons (pv 0) (pa_cons (pe_glob (v := .ref (He.ga K "Weights")) rfl (m_Weights T) rfl) pa_nil))))) (pss_one (ps_ret pe_bl)) pss_nil)
      (pss_cons (ps_if (PW.pt (pw_or (pt_not (pt_val (pe_call (ok_law_is_integer (P := P) (w := w) (base := base) T) (hr.mono (by decide)) (by rfl) (m_law_is_integer T) (k_law_is_integer T) (b_law_is_integer T) .nil passN (pa_cons (pe_fld (pv 0) rfl) pa_nil)))) (pw_or1 (pt_not (pt_val (pe_call (ok_law_is_integer (P := P) (w := w) (base := base) T) (hr.mono (by decide)) (by rfl) (m_law_is_integer T) (k_law_is_integer T) (b_law_is_integer T) .nil passN (pa_cons (pe_fld (pv 0) rfl) pa_nil))))))) (pss_one (ps_ret pe_bl)) pss_nil)
      (pss_cons (ps_if (PW.pt (pw_or (pt_cmpR op_ne (pe_fld (pv 0) rfl) (pv 1) (nomark _)) (pw_or1 (pt_cmpR op_ne (pe_fld (pv 0) rfl) (pv 2) (nomark _))))) (pss_one (ps_ret pe_bl)) pss_nil)
      (pss_cons (ps_if (PW.pt (pw_or (pt_not (pt_val (pe_callB call_isi (by rfl) (m_isinstance T) (by decide +kernel) (pa_cons (pe_fld (pv 0) rfl) (pa_cons (pe_bltn (v := .ty "tuple") (u := .type "tuple") (by rfl) (m_tuple T) (by decide +kernel) rfl) pa_nil))))) (pw_or1 (pt_cmpR op_ne (pe_callB call_len (by rfl) (m_len T) (by decide +kernel) (pa_cons (pe_fld (pv 0) rfl) pa_nil)) (pe_callB call_len (by rfl) (m_len T) (by decide +kernel) (pa_cons (pv 3) pa_nil)) (nomark _))))) (pss_one (ps_ret pe_bl)) pss_nil)
      (pss_cons (ps_for (passes_of rfl) rfl (pi_range1 rfl (m_range T) (pa_cons (pe_callB call_len (by rfl) (m_len T) (by decide +kernel) (pa_cons (pv 3) pa_nil)) pa_nil)) (pg_name (i := 4) sc_law_is_weights.nd rfl (Or.inl rfl)) (pss_cons (ps_set (i := 5) sc_law_is_weights.nd rfl (Or.inl rfl) (pe_ix ix_tup (pe_fld (pv 0) rfl) (pv 4) (fun _ _ => rfl)))
      (pss_cons (ps_if (PW.pt (pw_or (pt_not (pt_val (pe_callB call_isi (by rfl) (m_isinstance T) (by decide +kernel) (pa_cons (pv 5) (pa_cons (pe_bltn (v := .ty "tuple") (u := .type "tuple") (by rfl) (m_tuple T) (by decide +kernel) rfl) pa_nil))))) (pw_or1 (pt_cmpR op_ne (pe_callB call_len (by rfl) (m_len T) (by decide +kernel) (pa_cons (pv 5) pa_nil)) (pv 1) (nomark _))))) (pss_one (ps_ret pe_bl)) pss_nil)
      (pss_one (ps_for (passes_of rfl) rfl (pi_range1 rfl (m_range T) (pa_cons (pv 1) pa_nil)) (pg_name (i := 6) sc_law_is_weights.nd rfl (Or.inl rfl)) (pss_one (ps_if (PW.pt (pw_or (pt_not (pt_val (pe_call (ok_law_is_integer (P := P) (w := w) (base := base) T) (hr.mono (by decide)) (by rfl) (m_law_is_integer T) (k_law_is_integer T) (b_law_is_integer T) .nil passN (pa_cons (pe_ix ix_tup (pv 5) (pv 6) (fun _ _ => rfl)) pa_nil)))) (pw_or1 (pt_cmpR op_ne (pe_ix ix_tup (pv 5) (pv 6) (fun _ _ => rfl)) (pe_call (ok_law_reduced (P := P) (w := w) (base := base) T) (hr.mono (by decide)) (by rfl) (m_law_reduced T) (k_law_reduced T) (b_law_reduced T) .nil passN (pa_cons (pe_ix ix_list (pe_ix ix_list (pv 3) (pv 4) (fun _ _ => rfl)) (pv 6) (fun _ _ => rfl)) (pa_cons (pv 2) pa_nil))) (nomark _))))) (pss_one (ps_ret pe_bl)) pss_nil)))))))
      (pss_one (ps_ret pe_bl))))))), ?_⟩)
  · obtain ⟨o, g, p, b, G, rfl, _⟩ := h
    rfl
  · obtain ⟨o, g, p, b, G, rfl, h1, ⟨gs, hg, hgr⟩, q⟩ := h
    have hp0 := h1.1
    rw [part_red] at hp0
    obtain ⟨_, dx, t, rs, a1, a2, a3⟩ := id h1
    obtain ⟨w1, w2, w3, w4, w5⟩ := part_w hp0
    have lr : (red b G).length = G.length := List.length_map _
    refine q_when (b := !true) (et_not (et_B (ev_cb (ea_cons (by exact ev_var rfl) (ea_cons ev_c ea_nil)) (rc_isW h1)))) (fun hc => by cases hc) (fun _ H1 e1 => ?_)
    refine q_when (b := (!true || !true)) (et_or (et_not (et_B (ev_isI (ev_per (te := tVar 0) T (ev_var rfl) (h1.ex e1))))) fun _ => et_not (et_B (ev_isI (ev_mdl (te := tVar 0) T (ev_var rfl) (h1.ex e1))))) (fun hc => by cases hc) (fun _ H2 e2 => ?_)
    have e12 := e1.trans e2
    refine q_when (b := (!decide (p = p) || !decide (b = b))) (et_or (et_test (ev_op (ev_per (te := tVar 0) T (ev_var rfl) (h1.ex e12)) (by exact ev_var rfl) rv_neII)) fun _ => et_test (ev_op (ev_mdl (te := tVar 0) T (ev_var rfl) (h1.ex e12)) (by exact ev_var rfl) rv_neII)) (fun hc => by simp at hc) (fun _ H3 e3 => ?_)
    have e13 := e12.trans e3
    have l1 := rc_lenT (K := K) (st_of (K := K) (e13 _ _ a2))
    have l2 := rc_lenL (K := K) (sq_of (K := K) (e13 _ _ hg))
    rw [List.length_map, a3.len, lr] at l1
    rw [List.length_map, hgr.len] at l2
    refine q_when (b := (!true || !decide ((G.length : Int) = (G.length : Int)))) (et_or (et_not (et_B (ev_cb (ea_cons (ev_tab (te := tVar 0) T (ev_var rfl) (e13 _ _ a1)) (ea_cons ev_c ea_nil)) (rc_isTup (e13 _ _ a2))))) fun _ => et_test (ev_op (ev_cb (ea_cons (ev_tab (te := tVar 0) T (ev_var rfl) (e13 _ _ a1)) ea_nil) l1) (ev_cb (ea_cons (by exact ev_var rfl) ea_nil) l2) rv_neII)) (fun hc => by simp at hc) (fun _ H4 e4 => ?_)
    have e14 := e13.trans e4
    have l3 := rc_lenL (K := K) (sq_of (K := K) (e14 _ _ hg))
    rw [List.length_map, hgr.len] at l3
    clear l1 l2 e1 e2 e3 e4 e12 e13
    refine q_forR1 (n := (G.length : Int)) (ea_cons (ev_cb (ea_cons (by exact ev_var rfl) ea_nil) l3) ea_nil) (by omega) (fun i σ' H' => Ex H H' ∧ ∃ (v4 v5 v6 : Option V), σ' = [some (.ref o), some (.int p), some (.int b), some (.ref g), v4, v5, v6])
      (fun H5 e5 => ⟨e14.trans e5, none, none, none, rfl⟩) ?_ ?_
    · rintro k σ' H' hk ⟨e, v4, v5, v6, rfl⟩
      have hkl : k < G.length := by omega
      dsimp only [List.set]
      have hrowT := rv_rowT (K := K) (i := (k : Int)) (e _ _ a2) (a3.ex e) (by omega) (by rw [lr]; omega)
      have hT := (a3.ex e).row k (by rw [lr]; exact hkl)
      rw [red_at hkl] at hT
      have lw := w3.at_ hkl
      refine q_asg (ev_op (ev_tab (te := tVar 0) T (ev_var rfl) (e _ _ a1)) (by exact ev_var rfl) hrowT) fun H5 e5 => ?_
      rw [Int.toNat_natCast]
      have l4 := rc_lenT (K := K) (st_of (K := K) (e5 _ _ hT))
      rw [List.length_map, List.length_map, lw, Int.toNat_of_nonneg (by omega)] at l4
      refine q_when (b := (!true || !decide (p = p))) (et_or (et_not (et_B (ev_cb (ea_cons (by exact ev_var rfl) (ea_cons ev_c ea_nil)) (rc_isTup (e5 _ _ hT))))) fun _ => et_test (ev_op (ev_cb (ea_cons (by exact ev_var rfl) ea_nil) l4) (by exact ev_var rfl) rv_neII)) (fun hc => by simp at hc) (fun _ H6 e6 => ?_)
      have e46 := (e.trans e5).trans e6
      refine s_forR1 (n := p) (ea_cons (by exact ev_var rfl) ea_nil) (by omega) (fun i σ' H' => Ex H H' ∧ ∃ (v6 : Option V), σ' = [some (.ref o), some (.int p), some (.int b), some (.ref g), some (.int (k : Int)), some (.ref (rs.getD k 0)), v6])
        (fun H7 e7 => ⟨e46.trans e7, v6, rfl⟩) ?_ ?_
      · rintro i σ' H' hi ⟨ei, v6', rfl⟩
        dsimp only [List.set]
        have hT2 := (a3.ex ei).row k (by rw [lr]; exact hkl)
        rw [red_at hkl] at hT2
        have hL2 := (hgr.ex ei).row k hkl
        have hat := atI_int (row := (G.getD k []).map (rem b)) (i := (i : Int)) (by omega) (by rw [List.length_map, lw]; omega)
        have hat2 := atI_int (row := G.getD k []) (i := (i : Int)) (by omega) (by rw [lw]; omega)
        rw [Int.toNat_natCast] at hat hat2
        rw [map_at (by rw [lw]; omega)] at hat
        have hx : ∀ Hx, Ex H' Hx → Ev (tOp (rIxT K) (tVar 5) (tVar 6)) [some (.ref o), some (.int p), some (.int b), some (.ref g), some (.int (k : Int)), some (.ref (rs.getD k 0)), some (.int (i : Int))] Hx (.int (rem b ((G.getD k []).getD i 0))) := fun Hx ex => ev_op (ev_var rfl) (ev_var rfl) (rv_ixT (st_of (ex _ _ hT2)) hat)
        have hrowL := rv_row (K := K) (i := (k : Int)) (ei _ _ hg) (hgr.ex ei) (by omega) (by omega)
        rw [Int.toNat_natCast] at hrowL
        refine s_when (b := (!true || !decide (rem b ((G.getD k []).getD i 0) = rem b ((G.getD k []).getD i 0)))) (et_or (et_not (et_B (ev_isI (hx H' (Ex.refl H'))))) fun _ => et_test (ev_op (hx H' (Ex.refl H')) (ev_red (ev_op (ev_op (by exact ev_var rfl) (by exact ev_var rfl) hrowL) (by exact ev_var rfl) (rv_ixL (sq_of hL2) hat2)) (by exact ev_var rfl) (by omega)) rv_neII)) (fun hc => by simp at hc) (fun _ H8 e8 => ?_)
        exact ⟨ei.trans e8, _, rfl⟩
      · rintro σ' H' ⟨ei, v6', rfl⟩
        exact ⟨ei, _, _, _, rfl⟩
    · rintro σ' H' ⟨e, v4, v5, v6, rfl⟩
      exact s_ret ev_c fun H5 e5 => q H5 (e.trans e5)
end
end K54
namespace K54
open PySem PySem.Spec PyProof.Rows L2 Lc Evl
section
variable {P : Program} {w : World} {K : PySem.W.Frag} {mg : Str → Option Value} {base : Heap}
/-! ### arguments refused -/
theorem rc_isG (H : Hp) {c f : Str} {a d : Addr} {x : V} {cv : V} {u : Value} {bb : Bool} (hd : H d = some (.xd [(f, x)])) (hc : ClsV cv u) (hk : PySem.W.kitOne K (.ref (He.ga K c)) u = some bb) : RC (rIsG K (He.ga K c) a (.ref (He.ga K c)) (some d)) [.ref a, cv] H (.bl bb) := fun H1 e Q q => ⟨cv, u, bb, d, _, rfl, hc, rfl, rfl, e _ _ hd, hk, q H1 (Ex.refl H1)⟩
theorem kitF_WR (T : Tx K mg w) : PySem.W.kitOne K (.ref (He.ga K "InvalidWeight")) (.ref (He.ga K "InvalidRow")) = some false := kit_InvalidWeight_InvalidRow T
def sp_law_refuses (K : PySem.W.Frag) : Sp := fun vs H Q _ => ∃ (p b : Int) (g : Addr) (G : List (List Int)) (z : Str), vs = [.int p, .int b, .ref g, .str z] ∧ Gd H g G ∧ Sm G ∧ part p b G = some z ∧ RetV (.bl true) H Q
theorem rv_eqTT {H : Hp} {a b : Str} : RV rEq (.str a) (.str b) H (.bl (decide (a = b))) := by
  have h2 := rv_eq (H := H) (x := .str a) (y := .str b) rfl
  have e : decide (V.str a = V.str b) = decide (a = b) := decide_eq_decide.mpr ⟨fun h => by injection h, fun h => by rw [h]⟩
  rw [e] at h2
  exact h2
theorem ok_law_refuses (T : Tx K mg w) : OkD P w K mg base 6 d_law_refuses ps_law_refuses (sp_law_refuses K) := by
  refine (h_law_refuses T).ok sc_law_refuses (fun vs H Q E h => ?_) (fun cdv A outer s H vs Q E hr h => ⟨_,
      (pss_cons (L2N.ps_try_as (i := 4) (Wout := fun _ _ _ _ => False) rfl rfl sc_law_refuses.nd rfl rfl ⟨rfl, by decide, Or.inl (m_InvalidWeight T)⟩ takes0N
        (fun W pn xe tk _ => pss_one (ps_expr (pe_makeS (mk_Weights T) (ok_Weights_init (P := P) (w := w) (base := base) T) (hr.mono (by decide)) (by rfl) (m_Weights T) (b_Weights_init T) .nil (fun σ => L2N.passAt tk σ) (pa_cons (pv 0) (pa_cons (pv 1) (pa_cons (pv 2) pa_nil))))))
        (fun a oe cls d pn hz hf => pss_cons (ps_if (PW.pt (pw_or (pt_not (pt_val (pe_callB (call_isG (D := He.ga K "InvalidWeight") (exc_InvalidWeight T) hz.zc hf) (by rfl) (m_isinstance T) (by decide +kernel) (pa_cons (pv 4) (pa_cons (pe_glob (v := .ref (He.ga K "LeapError")) rfl (m_LeapError T) rfl) pa_nil))))) (pw_or1 (pt_not (pt_val (pe_callB (call_isG (D := He.ga K "InvalidWeight") (exc_InvalidWeight T) hz.zc hf) (by rfl) (m_isinstance T) (by decide +kernel) (pa_cons (pv 4) (pa_cons (pe_bltn (v := .ty "ValueError") (u := .type "ValueError") (by rfl) (m_ValueError T) (by decide +kernel) rfl) pa_nil)))))))) (pss_one (ps_ret pe_bl)) pss_nil)
          (pss_one (ps_ret (pe_and (pe_not (pe_callB (call_isG (D := He.ga K "InvalidWeight") (exc_InvalidWeight T) hz.zc hf) (by rfl) (m_isinstance T) (by decide +kernel) (pa_cons (pv 4) (pa_cons (pe_glob (v := .ref (He.ga K "InvalidRow")) rfl (m_InvalidRow T) rfl) pa_nil)))) (pe_one (pe_cmpR op_eq (pe_xf (x_InvalidWeight T).xf (x_InvalidWeight T).no hz.zc hf (pv 4)) (pv 3) (nomark _))))))))
      (pss_one (ps_ret pe_bl))), ?_⟩)
  · obtain ⟨p, b, g, G, z, rfl, _⟩ := h
    rfl
  · obtain ⟨p, b, g, G, z, rfl, hg, hz, hp, q⟩ := h
    refine ⟨_, rfl, _, rfl, _, rfl, ?_⟩
    intro x dx hx hdx hne
    have e : Ex H (upd (upd H dx (.own x)) x (.ins (cW K) dx [])) := (Ex.new hdx).mut hx
    refine ⟨x, dx, g, p, b, G, rfl, hg.tb.ex e, hz, upd_same, ⟨fun hn => (by rw [hp] at hn; cases hn), fun z' hz' d H1 hd e1 hxd => ?_⟩⟩
    have hzz : z = z' := by
      rw [hp] at hz'
      exact Option.some.inj hz'
    subst hzz
    refine ⟨true, exm_InvalidWeight T, fun _ a ha => ?_, fun z => by cases z⟩
    dsimp only
    refine q_when (b := (!true || !true)) (et_or (et_not (et_B (ev_cb (ea_cons (ta := tVar 4) (ev_var rfl) (ea_cons ev_c ea_nil)) (rc_isG _ hxd (.own _) (kit_InvalidWeight_LeapError T))))) fun _ => et_not (et_B (ev_cb (ea_cons (ta := tVar 4) (ev_var rfl) (ea_cons ev_c ea_nil)) (rc_isG _ hxd (.ty _) (kitV_InvalidWeight T))))) (fun hc => by cases hc) (fun _ H2 e2 => ?_)
    refine s_ret (v := .bl (!false && decide (z = z))) (ev_andV (ev_notV (ev_cb (ea_cons (ta := tVar 4) (ev_var rfl) (ea_cons ev_c ea_nil)) (rc_isG _ (e2 _ _ hxd) (.own _) (kitF_WR T)))) fun _ => ev_op (x := .str z) (fun H3 e3 Q3 q3 => ⟨_, rfl, rfl, rfl, d, _, _, rfl, e3 _ _ (e2 _ _ hxd), rfl, q3 H3 (Ex.refl H3)⟩) (by exact ev_var rfl) rv_eqTT) fun H3 e3 => ?_
    rw [decide_eq_true rfl]
    exact q H3 ((e.trans e1).trans (e2.trans e3))
end
end K54
namespace K54
open PySem PySem.Spec PyProof.Rows L2 Lc Evl
section
variable {P : Program} {w : World} {K : PySem.W.Frag} {mg : Str → Option Value} {base : Heap}
/-! ### grids beside a box -/
def GdB (b : Addr) (H : Hp) (g : Addr) (G : List (List Int)) : Prop := ∃ rs : List Addr, H g = some (.lst (rs.map V.ref)) ∧ Rw .lst H rs G ∧ g ≠ b ∧ ∀ r ∈ rs, r ≠ b
theorem GdB.gd {b : Addr} {H : Hp} {g : Addr} {G : List (List Int)} (h : GdB b H g G) : Gd H g G := by
  obtain ⟨rs, h1, h2, _⟩ := h
  exact ⟨rs, h1, h2⟩
theorem GdB.exB {b : Addr} {H H' : Hp} {g : Addr} {G : List (List Int)} (h : GdB b H g G) (e : ExB b H H') : GdB b H' g G := by
  obtain ⟨rs, h1, h2, h3, h4⟩ := h
  exact ⟨rs, e _ _ h3 h1, h2.exB e h4, h3, h4⟩
theorem GdB.ex {b : Addr} {H H' : Hp} {g : Addr} {G : List (List Int)} (h : GdB b H g G) (e : Ex H H') : GdB b H' g G := h.exB (ExB.of e)
theorem gdB_new {b : Addr} {H H' : Hp} {p : Addr} {rs : List Addr} {G : List (List Int)} (hb : Bx H b) (hp : H p = none) (h1 : H' p = some (.lst (rs.map V.ref))) (h2 : Rw .lst H' rs G) (hf : ∀ r ∈ rs, H r = none) : GdB b H' p G := ⟨rs, h1, h2, bx_ne hb hp, fun r hr => bx_ne hb (hf r hr)⟩
theorem rw_some {c : List V → HO} {H : Hp} {rs : List Addr} {G : List (List Int)} (h : Rw c H rs G) {r : Addr} (hr : r ∈ rs) : H r ≠ none := by
  obtain ⟨k, hk, e⟩ := mem_getD hr
  have := h.row k (by rw [← h.len]; exact hk)
  rw [e] at this
  rw [this]
  exact fun z => by cases z
theorem Gd.nb {H : Hp} {g b : Addr} {G : List (List Int)} (h : Gd H g G) (hb : H b = none) : GdB b H g G := by
  obtain ⟨rs, h1, h2⟩ := h
  exact ⟨rs, h1, h2, fun z => (by rw [z, hb] at h1; cases h1), fun r hr z => rw_some h2 hr (by rw [z, hb])⟩
theorem isTb_row {G : List (List Int)} {p : Int} {row : List Int} (h : row ∈ G) (hn : (row.length : Int) ≠ p) : isTb G p = false := by
  cases hh : isTb G p with
  | false => rfl
  | true => exact absurd ((isTb_w hh).2.2 row h) hn
theorem isTb_len {G : List (List Int)} {p : Int} (h : G.length = 0 ∨ 4 < G.length) : isTb G p = false := by
  cases hh : isTb G p with
  | false => rfl
  | true =>
    obtain ⟨h1, h2, _⟩ := isTb_w hh
    omega
theorem set_mem {G : List (List Int)} {j : Nat} {row : List Int} (h : j < G.length) : row ∈ G.set j row := by
  rw [List.mem_iff_getElem]
  exact ⟨j, by rw [List.length_set]; exact h, by simp⟩
theorem rw_set {H : Hp} {rs : List Addr} {G : List (List Int)} {l q : Addr} {row : List Int} {ob : HO} {j : Nat} (h : Rw .lst H rs G) (hq : H q = some (.lst (row.map V.int))) (hql : q ≠ l) (hl : l ∉ rs) (hj : j < G.length) : Rw .lst (upd H l ob) (rs.set j q) (G.set j row) := by
  refine ⟨by simp [h.len], fun k hk => ?_⟩
  rw [List.length_set] at hk
  by_cases e : j = k
  · subst e
    have e1 : (rs.set j q).getD j 0 = q := by
      rw [List.getD_eq_getElem?_getD, List.getElem?_set_self (by rw [h.len]; exact hk)]
      rfl
    have e2 : (G.set j row).getD j [] = row := by
      rw [List.getD_eq_getElem?_getD, List.getElem?_set_self hk]
      rfl
    rw [e1, e2, upd_ne hql]
    exact hq
  · have e1 : (rs.set j q).getD k 0 = rs.getD k 0 := by
      rw [List.getD_eq_getElem?_getD, List.getD_eq_getElem?_getD, List.getElem?_set_ne e]
    have e2 : (G.set j row).getD k [] = G.getD k [] := by
      rw [List.getD_eq_getElem?_getD, List.getD_eq_getElem?_getD, List.getElem?_set_ne e]
    rw [e1, e2, upd_ne (fun z => hl (by rw [← z]; exact getD_mem (by rw [h.len]; exact hk)))]
    exact h.row k hk
theorem sm_set {G : List (List Int)} {j : Nat} {row : List Int} (h : Sm G) (hr : row.length ≤ 1000) : Sm (G.set j row) := ⟨by rw [List.length_set]; exact h.1, fun r hm => by
  rcases List.mem_or_eq_of_mem_set hm with h1 | h1
  · exact h.2 r h1
  · rw [h1]
    exact hr⟩
theorem map_set {rs : List Addr} {j : Nat} {q : Addr} : (rs.map V.ref).set j (.ref q) = (rs.set j q).map V.ref := List.map_set.symm
/-- a row put in its place -/
theorem s_setRB {σ : L2.St} {H : Hp} {b l : Addr} {te ta tb : TE} {D : Ends} {rs : List Addr} {Pr : List Int → Prop} {j : Nat} (hb : Bx H b) (hl : H l = some (.lst (rs.map V.ref))) (hlb : l ≠ b) (h : EvRB b te σ H Pr) (ho : ∀ H1, Ev ta σ H1 (.ref l)) (hi : ∀ H1, Ev tb σ H1 (.int (j : Int))) (hj : j < rs.length)
    (k : ∀ q row H2, H q = none → ExB b H H2 → Bx H2 b → H2 q = some (.lst (row.map V.int)) → Pr row → D.nx σ (upd H2 l (.lst ((rs.set j q).map V.ref)))) : tAsg te (gSub ta tb rSetL) D σ H := h H (ExB.refl H) hb _ fun q row H2 hq e2 b2 h2 hr => ho H2 H2 (Ex.refl H2) _ fun H3 e3 => hi H3 H3 (Ex.refl H3) _ fun H4 e4 =>
  ⟨l, rs.map V.ref, (j : Int), j, rfl, rfl, (e3.trans e4) l _ (e2 l _ hlb hl), ixN_nat (by rw [List.length_map]; exact hj), by
    rw [map_set]
    exact k q row H4 hq (e2.trans (ExB.of (e3.trans e4))) (b2.ex (e3.trans e4)) ((e3.trans e4) _ _ h2) hr⟩
theorem rb_of {σ : L2.St} {H : Hp} {b : Addr} {te : TE} {row : List Int} {Pr : List Int → Prop} (h : ∀ H1, ExB b H H1 → EvL te σ H1 (row.map V.int)) (hp : Pr row) : EvRB b te σ H Pr := fun H1 e b1 Q q => h H1 e H1 (Ex.refl H1) _ fun p H2 hpn e2 h2 => q p row H2 hpn (ExB.of e2) (b1.ex e2) h2 hp
theorem cutV_to (xs : List V) (i : Nat) : cutV xs none (some (i : Int)) = xs.take i := by
  unfold cutV
  rw [HT.sIx_none, HT.sIx_nat, List.drop_zero, Nat.sub_zero]
  by_cases h : i ≤ xs.length
  · rw [Nat.min_eq_left h]
  · rw [Nat.min_eq_right (by omega), List.take_of_length_le (Nat.le_refl _), List.take_of_length_le (by omega)]
theorem el_catL {σ : L2.St} {H : Hp} {a : Addr} {ta tb : TE} {xs ys : List V} (ha : Ev ta σ H (.ref a)) (h1 : H a = some (.lst xs)) (hb : EvL tb σ H ys) (hz : xs.length + ys.length ≤ 100000) : EvL (tOp rCat ta tb) σ H (xs ++ ys) := fun H1 e Q q =>
  ha H1 e _ fun H2 e2 => hb H2 (e.trans e2) _ fun p H3 hp e3 h3 => ⟨a, p, xs, ys, rfl, rfl, ((e.trans e2).trans e3) _ _ h1, h3, sz_of hz, fun l hl => q l _ (fresh_back e2 (fresh_back e3 hl)) ((e2.trans e3).trans (Ex.new hl)) upd_same⟩
theorem lc_rngI {σ : L2.St} {H : Hp} {b : Addr} {te : TE} {Pd : Int → Prop} {g : TG} {tt : TT} {tel : TE} {vs : List Nat} {Q : VK} (h : EvI b te σ Pd) (hb : Bx H b) (k : ∀ n H1, Pd n → ExB b H H1 → Bx H1 b → tLc (iRng1 (tCons (tC (.int n)) tNil)) g tt tel vs σ H1 Q) : tLc (iRng1 (tCons te tNil)) g tt tel vs σ H Q := h H hb _ fun n H1 hn e b1 => k n H1 hn e b1
def sp_law_bad_grid : Sp := fun vs H Q _ => ∃ (b g : Addr) (p : Int) (G : List (List Int)), vs = [.ref b, .int p, .ref g] ∧ Bx H b ∧ GdB b H g G ∧ (1 ≤ p ∧ p ≤ 12) ∧ Wd p.toNat G ∧ (1 ≤ G.length ∧ G.length ≤ 4) ∧ ∀ g' G' H', ExB b H H' → Bx H' b → GdB b H' g' G' → Sm G' → isTb G' p = false → Q (.ref g') H'
theorem ok_law_bad_grid (T : Tx K mg w) : OkD P w K mg base 2 d_law_bad_grid ps_law_bad_grid sp_law_bad_grid := by
  refine (h_law_bad_grid T).ok sc_law_bad_grid (fun vs H Q E h => ?_) (fun cdv A outer s H vs Q E hr h => ⟨_,
      (pss_cons (ps_set (i := 3) sc_law_bad_grid.nd rfl (Or.inl rfl) (pe_call (ok_law_copy (P := P) (w := w) (base := base) T) (hr.mono (by decide)) (by rfl) (m_law_copy T) (k_law_copy T) (b_law_copy T) .nil passN (pa_cons (pv 2) pa_nil)))
      (pss_cons (ps_set (i := 4) sc_law_bad_grid.nd rfl (Or.inl rfl) (pe_call (ok_law_take (P := P) (w := w) (base := base) T) (hr.mono (by decide)) (by rfl) (m_law_take T) (k_law_take T) (b_law_take T) .nil passN (pa_cons (pv 0) (pa_cons pe_int pa_nil))))
      (pss_cons (ps_set (i := 5) sc_law_bad_grid.nd rfl (Or.inl rfl) (pe_call (ok_law_take (P := P) (w := w) (base := base) T) (hr.mono (by decide)) (by rfl) (m_law_take T) (k_law_take T) (b_law_take T) .nil passN (pa_cons (pv 0) (pa_cons (pe_callB call_len (by rfl) (m_len T) (by decide +kernel) (pa_cons (pv 2) pa_nil)) pa_nil))))
      (pss_cons (ps_if (pt_cmpR op_eq (pv 4) pe_int (nomark _)) (pss_one (ps_ret (pe_lst pa_nil))) pss_nil)
      (pss_cons (ps_if (pt_cmpR op_eq (pv 4) pe_int (nomark _)) (pss_one (ps_ret (pe_lc (own := [("k", 6)]) (g := gName 6) rfl sc_law_bad_grid.nd (pi_range1 rfl (m_range T) (pa_cons (pe_op op_add pe_int (pe_call (ok_law_take (P := P) (w := w) (base := base) T) (hr.mono (by decide)) (by rfl) (m_law_take T) (k_law_take T) (b_law_take T) .nil passN (pa_cons (pv 0) (pa_cons pe_int pa_nil)))) pa_nil)) (blkOk_by (own := [("k", 6)]) (N := ns_law_bad_grid) (sc := (defScope st_law_bad_grid)) (by decide +kernel)) (fun _ _ _ _ _ => pg_name (i := 6) sc_law_bad_grid.nd rfl (Or.inl rfl)) (fun _ _ _ _ _ => pts_nil) (fun _ _ _ _ _ => (pe_callTy (show CallR _ (.type "list") (rListOf K) from call_list_of) (by rfl) (m_list T) (by decide +kernel) (pa_cons (pe_ix (show IxR _ (rIxL K) from ix_list) (pv 2) (pe_op op_mod (pe_callTy call_int1 (by rfl) (m_int T) (by decide +kernel) (pa_cons (pv 6) pa_nil)) (pe_callB (show CallR _ _ (rLen K) from call_len) (by rfl) (m_len T) (by decide +kernel) (pa_cons (pv 2) pa_nil))) (fun _ _ => rfl)) pa_nil)))))) pss_nil)
      (pss_cons (ps_if (pt_cmpR op_eq (pv 4) pe_int (nomark _)) (pss_one (ps_asg (pe_op op_cat (pe_ix ix_list (pv 3) (pv 5) (fun _ _ => rfl)) (pe_lst (pa_cons (pe_call (ok_law_take (P := P) (w := w) (base := base) T) (hr.mono (by decide)) (by rfl) (m_law_take T) (k_law_take T) (b_law_take T) .nil passN (pa_cons (pv 0) (pa_cons pe_int pa_nil))) pa_nil))) (pg_sub (pv 3) (pv 5) set_list))) pss_nil)
      (pss_cons (ps_if (pt_cmpR op_eq (pv 4) pe_int (nomark _)) (pss_one (ps_asg (pe_slice sl_list (pe_ix ix_list (pv 3) (pv 5) (fun _ _ => rfl)) po_none (po_some (pe_op op_sub (pv 1) pe_int))) (pg_sub (pv 3) (pv 5) set_list))) pss_nil)
      (pss_cons (ps_if (pt_cmpR op_eq (pv 4) pe_int (nomark _)) (pss_one (ps_setLc (i := 3) (own := [("entries", 7)]) (g := gName 7) rfl sc_law_bad_grid.nd rfl rfl (sw_true rfl rfl rfl (by decide +kernel)) (pi_list (pv 3)) (blkOk_by (own := [("entries", 7)]) (N := ns_law_bad_grid) (sc := (defScope st_law_bad_grid)) (by decide +kernel)) (fun _ _ _ _ _ => pg_name (i := 7) sc_law_bad_grid.nd rfl (Or.inl rfl)) (fun _ _ _ _ _ => pts_nil) (fun _ _ _ _ _ => (pe_op op_cat (pv 7) (pe_lst (pa_cons pe_int pa_nil)))))) pss_nil)
      (pss_cons (ps_if (pt_cmpR op_eq (pv 4) pe_int (nomark _)) (pss_one (ps_asg (pe_lst pa_nil) (pg_sub (pv 3) (pv 5) set_list))) pss_nil)
      (pss_one (ps_ret (pv 3)))))))))))), ?_⟩)
  · obtain ⟨b, g, p, G, rfl, _⟩ := h
    rfl
  · obtain ⟨b, g, p, G, rfl, hb, hg, hp, hw, hl, q⟩ := h
    have hsm : Sm G := ⟨by omega, fun row hr => by have := hw row hr; omega⟩
    refine q_first ?_
    refine cons_fst ⟨_, rfl, ?_⟩
    refine ⟨g, G, rfl, hg.gd, by omega, fun c rs H1 hc e1 h1 hr1 hf1 hnd => ?_⟩
    have hcb : c ≠ b := bx_ne hb hc
    have hrb : ∀ r ∈ rs, r ≠ b := fun r hr => bx_ne hb (hf1 r hr)
    dsimp only [gName]
    refine q_asgI (ei_take (many := 6) rfl (fun H => ev_c) (by decide) (by decide)) (hb.ex e1) fun d H2 hd e2 b2 => ?_
    have hg2 : GdB b H2 g G := (hg.ex e1).exB e2
    have hlen : ∀ H3, ExB b H2 H3 → Ev (tCB (fun xs H Q => ∃ x n, xs = [x] ∧ LenV K x H n ∧ Q (.int n) H) (tCons (tVar 2) tNil)) [some (.ref b), some (.int p), some (.ref g), some (.ref c), some (.int d), none, none, none] H3 (.int (G.length : Int)) := fun H3 e3 => by
      obtain ⟨gs, k1, k2⟩ := (hg2.exB e3).gd
      have l2 := rc_lenL (K := K) (sq_of (K := K) k1)
      rw [List.length_map, k2.len] at l2
      exact ev_cb (ea_cons (ev_var rfl) ea_nil) l2
    refine q_first ?_
    refine sp_take_then (b := b) (i := 0) (many := (G.length : Int)) rfl b2 (hlen H2 (ExB.refl H2)) (by omega) (Nat.lt_of_le_of_lt (show (G.length : Int).natAbs ≤ 4 by omega) (by decide)) fun pl H3 p0 p1 e3 b3 => ?_
    have x3 : ExB b H H3 := ((ExB.of e1).trans e2).trans e3
    have hg3 : GdB b H3 g G := hg2.exB e3
    have h3 : H3 c = some (.lst (rs.map V.ref)) := (e2.trans e3) _ _ hcb h1
    have hr3 : Rw .lst H3 rs G := hr1.exB (e2.trans e3) hrb
    have hcr : c ∉ rs := (List.nodup_cons.mp hnd).1
    obtain ⟨j, rfl⟩ : ∃ j : Nat, pl = (j : Int) := ⟨pl.toNat, by omega⟩
    have hj : j < G.length := by omega
    have hjr : j < rs.length := by rw [hr3.len]; exact hj
    have lw := hw.at_ hj
    -- fault 0
    refine q_when (b := decide (d = 0)) (by first | ((with_reducible apply et_test); (repeat' (first | ((with_reducible refine ev_pow10 ?_ ?_ ?_) <;> first | rfl | decide) | (with_reducible refine fun (_ : _ = true) => ?_) | (with_reducible refine fun (_ : _ = false) => ?_) | (with_reducible exact ev_c) | ((with_reducible apply ev_var); rfl) | (with_reducible apply ev_op) | (with_reducible apply ev_un) | (with_reducible apply ev_cb) | (with_reducible apply ea_cons) | (with_reducible apply ev_andV) | (with_reducible apply ev_orV) | (with_reducible apply ev_notV) | (with_reducible apply ev_if) | (with_reducible apply eo_some) | (with_reducible apply el_lst) | (with_reducible exact ea_nil) | (with_reducible exact rv_I0) | (with_reducible exact ru_neg) | (with_reducible exact rv_ltS) | (with_reducible exact rv_inC) | (with_reducible exact rv_notInC) | (with_reducible exact rc_intI) | (with_reducible exact rc_intB) | (with_reducible exact rc_min2) | (with_reducible exact rc_isStr) | (with_reducible exact eo_none) | (with_reducible exact rv_inSS) | (with_reducible exact rv_notInSS) | (with_reducible exact rv_ltSS) | (with_reducible exact rv_eqSS) | (with_reducible exact rv_eqII) | (with_reducible exact rv_neII) | (with_reducible exact rv_neSS) | ((with_reducible refine rc_lenSS ?_); (first | assumption | omega | decide | (simp only [S_len] at *; omega))) | ((with_reducible refine rc_lenStr ?_); (first | assumption | omega | decide | (simp only [S_len] at *; omega))) | ((with_reducible refine rv_catSS ?_); (first | assumption | omega | decide | (simp only [S_len] at *; omega))) | (with_reducible exact rv_eq rfl) | (with_reducible exact rv_ne rfl) | ((with_reducible refine rc_lenS ?_); (first | assumption | omega | decide | (simp only [S_len] at *; omega))) | ((with_reducible refine rc_lenL ?_); assumption) | ((with_reducible apply rv_ixL); assumption; rfl) | ((with_reducible refine rv_catS ?_); (first | assumption | omega | decide | (simp only [S_len] at *; omega))) | ((with_reducible refine rv_I ?_); (first | (show (0 : Int) < _; (first | assumption | omega | decide | (simp only [S_len] at *; omega))) | exact .inr ⟨by decide, by decide⟩ | exact .inl ⟨by (first | assumption | omega | decide | (simp only [S_len] at *; omega)), by (first | assumption | omega | decide | (simp only [S_len] at *; omega))⟩ | exact .inr ⟨by (first | assumption | omega | decide | (simp only [S_len] at *; omega)), by (first | assumption | omega | decide | (simp only [S_len] at *; omega))⟩ | exact ⟨by decide, by decide, by decide⟩ | exact wide_div (b := 128) (by (first | assumption | omega | decide | (simp only [S_len] at *; omega))) (by (first | assumption | omega | decide | (simp only [S_len] at *; omega))) (by decide) (by decide)))))) | ((with_reducible apply et_B); (repeat' (first | ((with_reducible refine ev_pow10 ?_ ?_ ?_) <;> first | rfl | decide) | (with_reducible refine fun (_ : _ = true) => ?_) | (with_reducible refine fun (_ : _ = false) => ?_) | (with_reducible exact ev_c) | ((with_reducible apply ev_var); rfl) | (with_reducible apply ev_op) | (with_reducible apply ev_un) | (with_reducible apply ev_cb) | (with_reducible apply ea_cons) | (with_reducible apply ev_andV) | (with_reducible apply ev_orV) | (with_reducible apply ev_notV) | (with_reducible apply ev_if) | (with_reducible apply eo_some) | (with_reducible apply el_lst) | (with_reducible exact ea_nil) | (with_reducible exact rv_I0) | (with_reducible exact ru_neg) | (with_reducible exact rv_ltS) | (with_reducible exact rv_inC) | (with_reducible exact rv_notInC) | (with_reducible exact rc_intI) | (with_reducible exact rc_intB) | (with_reducible exact rc_min2) | (with_reducible exact rc_isStr) | (with_reducible exact eo_none) | (with_reducible exact rv_inSS) | (with_reducible exact rv_notInSS) | (with_reducible exact rv_ltSS) | (with_reducible exact rv_eqSS) | (with_reducible exact rv_eqII) | (with_reducible exact rv_neII) | (with_reducible exact rv_neSS) | ((with_reducible refine rc_lenSS ?_); (first | assumption | omega | decide | (simp only [S_len] at *; omega))) | ((with_reducible refine rc_lenStr ?_); (first | assumption | omega | decide | (simp only [S_len] at *; omega))) | ((with_reducible refine rv_catSS ?_); (first | assumption | omega | decide | (simp only [S_len] at *; omega))) | (with_reducible exact rv_eq rfl) | (with_reducible exact rv_ne rfl) | ((with_reducible refine rc_lenS ?_); (first | assumption | omega | decide | (simp only [S_len] at *; omega))) | ((with_reducible refine rc_lenL ?_); assumption) | ((with_reducible apply rv_ixL); assumption; rfl) | ((with_reducible refine rv_catS ?_); (first | assumption | omega | decide | (simp only [S_len] at *; omega))) | ((with_reducible refine rv_I ?_); (first | (show (0 : Int) < _; (first | assumption | omega | decide | (simp only [S_len] at *; omega))) | exact .inr ⟨by decide, by decide⟩ | exact .inl ⟨by (first | assumption | omega | decide | (simp only [S_len] at *; omega)), by (first | assumption | omega | decide | (simp only [S_len] at *; omega))⟩ | exact .inr ⟨by (first | assumption | omega | decide | (simp only [S_len] at *; omega)), by (first | assumption | omega | decide | (simp only [S_len] at *; omega))⟩ | exact ⟨by decide, by decide, by decide⟩ | exact wide_div (b := 128) (by (first | assumption | omega | decide | (simp only [S_len] at *; omega))) (by (first | assumption | omega | decide | (simp only [S_len] at *; omega))) (by decide) (by decide))))))) (fun hc H4 e4 => ?_) (fun hc0 H4 e4 => ?_)
    · refine s_retL (el_lst ea_nil (by simp)) fun m H5 hm e5 h5 => ?_
      exact q m [] H5 (x3.trans (ExB.of (e4.trans e5))) (b3.ex (e4.trans e5)) ⟨[], h5, ⟨rfl, fun k hk => absurd hk (Nat.not_lt_zero _)⟩, bx_ne (b3.ex e4) hm, by simp⟩ ⟨by simp, by simp⟩ (isTb_len (.inl rfl))
    have hd0 : d ≠ 0 := of_decide_eq_false hc0
    -- fault 1
    refine q_when (b := decide (d = 1)) (by first | ((with_reducible apply et_test); (repeat' (first | ((with_reducible refine ev_pow10 ?_ ?_ ?_) <;> first | rfl | decide) | (with_reducible refine fun (_ : _ = true) => ?_) | (with_reducible refine fun (_ : _ = false) => ?_) | (with_reducible exact ev_c) | ((with_reducible apply ev_var); rfl) | (with_reducible apply ev_op) | (with_reducible apply ev_un) | (with_reducible apply ev_cb) | (with_reducible apply ea_cons) | (with_reducible apply ev_andV) | (with_reducible apply ev_orV) | (with_reducible apply ev_notV) | (with_reducible apply ev_if) | (with_reducible apply eo_some) | (with_reducible apply el_lst) | (with_reducible exact ea_nil) | (with_reducible exact rv_I0) | (with_reducible exact ru_neg) | (with_reducible exact rv_ltS) | (with_reducible exact rv_inC) | (with_reducible exact rv_notInC) | (with_reducible exact rc_intI) | (with_reducible exact rc_intB) | (with_reducible exact rc_min2) | (with_reducible exact rc_isStr) | (with_reducible exact eo_none) | (with_reducible exact rv_inSS) | (with_reducible exact rv_notInSS) | (with_reducible exact rv_ltSS) | (with_reducible exact rv_eqSS) | (with_reducible exact rv_eqII) | (with_reducible exact rv_neII) | (with_reducible exact rv_neSS) | ((with_reducible refine rc_lenSS ?_); (first | assumption | omega | decide | (simp only [S_len] at *; omega))) | ((with_reducible refine rc_lenStr ?_); (first | assumption | omega | decide | (simp only [S_len] at *; omega))) | ((with_reducible refine rv_catSS ?_); (first | assumption | omega | decide | (simp only [S_len] at *; omega))) | (with_reducible exact rv_eq rfl) | (with_reducible exact rv_ne rfl) | ((with_reducible refine rc_lenS ?_); (first | assumption | omega | decide | (simp only [S_len] at *; omega))) | ((with_reducible refine rc_lenL ?_); assumption) | ((with_reducible apply rv_ixL); assumption; rfl) | ((with_reducible refine rv_catS ?_); (first | assumption | omega | decide | (simp only [S_len] at *; omega))) | ((with_reducible refine rv_I ?_); (first | (show (0 : Int) < _; (first | assumption | omega | decide | (simp only [S_len] at *; omega))) | exact .inr ⟨by decide, by decide⟩ | exact .inl ⟨by (first | assumption | omega | decide | (simp only [S_len] at *; omega)), by (first | assumption | omega | decide | (simp only [S_len] at *; omega))⟩ | exact .inr ⟨by (first | assumption | omega | decide | (simp only [S_len] at *; omega)), by (first | assumption | omega | decide | (simp only [S_len] at *; omega))⟩ | exact ⟨by decide, by decide, by decide⟩ | exact wide_div (b := 128) (by (first | assumption | omega | decide | (simp only [S_len] at *; omega))) (by (first | assumption | omega | decide | (simp only [S_len] at *; omega))) (by decide) (by decide)))))) | ((with_reducible apply et_B); (repeat' (first | ((with_reducible refine ev_pow10 ?_ ?_ ?_) <;> first | rfl | decide) | (with_reducible refine fun (_ : _ = true) => ?_) | (with_reducible refine fun (_ : _ = false) => ?_) | (with_reducible exact ev_c) | ((with_reducible apply ev_var); rfl) | (with_reducible apply ev_op) | (with_reducible apply ev_un) | (with_reducible apply ev_cb) | (with_reducible apply ea_cons) | (with_reducible apply ev_andV) | (with_reducible apply ev_orV) | (with_reducible apply ev_notV) | (with_reducible apply ev_if) | (with_reducible apply eo_some) | (with_reducible apply el_lst) | (with_reducible exact ea_nil) | (with_reducible exact rv_I0) | (with_reducible exact ru_neg) | (with_reducible exact rv_ltS) | (with_reducible exact rv_inC) | (with_reducible exact rv_notInC) | (with_reducible exact rc_intI) | (with_reducible exact rc_intB) | (with_reducible exact rc_min2) | (with_reducible exact rc_isStr) | (with_reducible exact eo_none) | (with_reducible exact rv_inSS) | (with_reducible exact rv_notInSS) | (with_reducible exact rv_ltSS) | (with_reducible exact rv_eqSS) | (with_reducible exact rv_eqII) | (with_reducible exact rv_neII) | (with_reducible exact rv_neSS) | ((with_reducible refine rc_lenSS ?_); (first | assumption | omega | decide | (simp only [S_len] at *; omega))) | ((with_reducible refine rc_lenStr ?_); (first | assumption | omega | decide | (simp only [S_len] at *; omega))) | ((with_reducible refine rv_catSS ?_); (first | assumption | omega | decide | (simp only [S_len] at *; omega))) | (with_reducible exact rv_eq rfl) | (with_reducible exact rv_ne rfl) | ((with_reducible refine rc_lenS ?_); (first | assumption | omega | decide | (simp only [S_len] at *; omega))) | ((with_reducible refine rc_lenL ?_); assumption) | ((with_reducible apply rv_ixL); assumption; rfl) | ((with_reducible refine rv_catS ?_); (first | assumption | omega | decide | (simp only [S_len] at *; omega))) | ((with_reducible refine rv_I ?_); (first | (show (0 : Int) < _; (first | assumption | omega | decide | (simp only [S_len] at *; omega))) | exact .inr ⟨by decide, by decide⟩ | exact .inl ⟨by (first | assumption | omega | decide | (simp only [S_len] at *; omega)), by (first | assumption | omega | decide | (simp only [S_len] at *; omega))⟩ | exact .inr ⟨by (first | assumption | omega | decide | (simp only [S_len] at *; omega)), by (first | assumption | omega | decide | (simp only [S_len] at *; omega))⟩ | exact ⟨by decide, by decide, by decide⟩ | exact wide_div (b := 128) (by (first | assumption | omega | decide | (simp only [S_len] at *; omega))) (by (first | assumption | omega | decide | (simp only [S_len] at *; omega))) (by decide) (by decide))))))) (fun hc H5 e5 => ?_) (fun hc1 H5 e5 => ?_)
    · refine ret_fst ?_
      have e45 := e4.trans e5
      refine lc_rngI (b := b) (Pd := fun n => 5 ≤ n ∧ n < 8) (ei_op ei_c (ei_take (many := 3) rfl (fun H => ev_c) (by decide) (by decide)) fun x y hx hy => by subst hx; omega) (b3.ex e45) fun n H6 hn e6 b6 => ?_
      have hg6 : GdB b H6 g G := (hg3.ex e45).exB e6
      obtain ⟨gs, k1, k2, k3, k4⟩ := hg6
      have hGl : ((List.range n.toNat).map fun i : Nat => G.getD (((i : Int) % (G.length : Int)).toNat) []).length = n.toNat := by rw [List.length_map, List.length_range]
      refine eg_R1 (c := .lst) (G := (List.range n.toNat).map fun i : Nat => G.getD (((i : Int) % (G.length : Int)).toNat) []) (by rw [hGl, Int.toNat_of_nonneg (by omega)]; exact ea_cons ev_c ea_nil) (by rw [hGl]; omega) (fun x => rfl) (fun i H7 e7 hi => ?_) H6 (Ex.refl H6) _ fun m ms H7 hm e7 h7 hr7 hf7 hnd7 => ?_
      · have b1 := Int.emod_nonneg ((i : Int)) (show ((G.length : Int)) ≠ 0 by omega)
        have b2' := Int.emod_lt_of_pos ((i : Int)) (show (0 : Int) < (G.length : Int) by omega)
        have hrow := rv_row (K := K) (i := (i : Int) % (G.length : Int)) (e7 _ _ k1) (k2.ex e7) b1 b2'
        have l2 := rc_lenL (K := K) (sq_of (K := K) (e7 _ _ k1))
        rw [List.length_map, k2.len] at l2
        have e0 : ((List.range n.toNat).map fun i : Nat => G.getD (((i : Int) % (G.length : Int)).toNat) []).getD i [] = G.getD (((i : Int) % (G.length : Int)).toNat) [] := by
          rw [hGl] at hi
          rw [List.getD_eq_getElem?_getD, List.getElem?_map, List.getElem?_range hi]
          rfl
        rw [e0]
        exact el_listOf (ev_op (ev_var rfl) (ev_op (ev_cb (ea_cons (ev_var rfl) ea_nil) rc_intI) (ev_cb (ea_cons (ev_var rfl) ea_nil) l2) (rv_I (show (0 : Int) < (G.length : Int) by omega))) hrow) (.inl (sq_of ((k2.ex e7).row _ (by omega))))
      · refine q m _ H7 ((x3.trans (ExB.of e45)).trans (e6.trans (ExB.of e7))) (b6.ex e7) (gdB_new b6 hm h7 hr7 hf7) ⟨by rw [hGl]; omega, fun row hr => ?_⟩ (isTb_len (.inr (by rw [hGl]; omega)))
        obtain ⟨i, _, rfl⟩ := List.mem_map.mp hr
        have b1 := Int.emod_nonneg ((i : Int)) (show ((G.length : Int)) ≠ 0 by omega)
        have b2' := Int.emod_lt_of_pos ((i : Int)) (show (0 : Int) < (G.length : Int) by omega)
        exact hsm.2 _ (row_mem (by omega))
    have hd1 : d ≠ 1 := of_decide_eq_false hc1
    have e45 := e4.trans e5
    have h5 := e45 _ _ h3
    have hr5 := hr3.ex e45
    have b5 := b3.ex e45
    have x5 := x3.trans (ExB.of e45)
    -- what a changed row leaves
    have fin : ∀ (m : Addr) (row : List Int) (HH : Hp), H5 m = none → ExB b H5 HH → Bx HH b → HH m = some (.lst (row.map V.int)) → row.length ≤ 1000 → (row.length : Int) ≠ p → ∀ X, Ex (upd HH c (.lst ((rs.set j m).map V.ref))) X → Q (.ref c) X := fun m row HH hm e b' hh hz hn X x => by
      have hmc : m ≠ c := fun z => by rw [z, h5] at hm; cases hm
      refine q c (G.set j row) X (((x5.trans e).mut hc).trans (ExB.of x)) ((b'.put2 hcb).ex x) ⟨rs.set j m, x _ _ upd_same, (rw_set (hr5.exB e hrb) hh hmc hcr hj).ex x, hcb, fun r hr => ?_⟩ (sm_set hsm hz) (isTb_row (set_mem hj) hn)
      rcases List.mem_or_eq_of_mem_set hr with h1 | h1
      · exact hrb r h1
      · rw [h1]
        exact bx_ne b5 hm
    have hat : atI (rs.map V.ref) (j : Int) = some (.ref (rs.getD j 0)) := by
      have := atI_ref (rs := rs) (i := (j : Int)) (by omega) (by omega)
      rwa [Int.toNat_natCast] at this
    -- fault 2
    refine q_when (b := decide (d = 2)) (by first | ((with_reducible apply et_test); (repeat' (first | ((with_reducible refine ev_pow10 ?_ ?_ ?_) <;> first | rfl | decide) | (with_reducible refine fun (_ : _ = true) => ?_) | (with_reducible refine fun (_ : _ = false) => ?_) | (with_reducible exact ev_c) | ((with_reducible apply ev_var); rfl) | (with_reducible apply ev_op) | (with_reducible apply ev_un) | (with_reducible apply ev_cb) | (with_reducible apply ea_cons) | (with_reducible apply ev_andV) | (with_reducible apply ev_orV) | (with_reducible apply ev_notV) | (with_reducible apply ev_if) | (with_reducible apply eo_some) | (with_reducible apply el_lst) | (with_reducible exact ea_nil) | (with_reducible exact rv_I0) | (with_reducible exact ru_neg) | (with_reducible exact rv_ltS) | (with_reducible exact rv_inC) | (with_reducible exact rv_notInC) | (with_reducible exact rc_intI) | (with_reducible exact rc_intB) | (with_reducible exact rc_min2) | (with_reducible exact rc_isStr) | (with_reducible exact eo_none) | (with_reducible exact rv_inSS) | (with_reducible exact rv_notInSS) | (with_reducible exact rv_ltSS) | (with_reducible exact rv_eqSS) | (with_reducible exact rv_eqII) | (with_reducible exact rv_neII) | (with_reducible exact rv_neSS) | ((with_reducible refine rc_lenSS ?_); (first | assumption | omega | decide | (simp only [S_len] at *; omega))) | ((with_reducible refine rc_lenStr ?_); (first | assumption | omega | decide | (simp only [S_len] at *; omega))) | ((with_reducible refine rv_catSS ?_); (first | assumption | omega | decide | (simp only [S_len] at *; omega))) | (with_reducible exact rv_eq rfl) | (with_reducible exact rv_ne rfl) | ((with_reducible refine rc_lenS ?_); (first | assumption | omega | decide | (simp only [S_len] at *; omega))) | ((with_reducible refine rc_lenL ?_); assumption) | ((with_reducible apply rv_ixL); assumption; rfl) | ((with_reducible refine rv_catS ?_); (first | assumption | omega | decide | (simp only [S_len] at *; omega))) | ((with_reducible refine rv_I ?_); (first | (show (0 : Int) < _; (first | assumption | omega | decide | (simp only [S_len] at *; omega))) | exact .inr ⟨by decide, by decide⟩ | exact .inl ⟨by (first | assumption | omega | decide | (simp only [S_len] at *; omega)), by (first | assumption | omega | decide | (simp only [S_len] at *; omega))⟩ | exact .inr ⟨by (first | assumption | omega | decide | (simp only [S_len] at *; omega)), by (first | assumption | omega | decide | (simp only [S_len] at *; omega))⟩ | exact ⟨by decide, by decide, by decide⟩ | exact wide_div (b := 128) (by (first | assumption | omega | decide | (simp only [S_len] at *; omega))) (by (first | assumption | omega | decide | (simp only [S_len] at *; omega))) (by decide) (by decide)))))) | ((with_reducible apply et_B); (repeat' (first | ((with_reducible refine ev_pow10 ?_ ?_ ?_) <;> first | rfl | decide) | (with_reducible refine fun (_ : _ = true) => ?_) | (with_reducible refine fun (_ : _ = false) => ?_) | (with_reducible exact ev_c) | ((with_reducible apply ev_var); rfl) | (with_reducible apply ev_op) | (with_reducible apply ev_un) | (with_reducible apply ev_cb) | (with_reducible apply ea_cons) | (with_reducible apply ev_andV) | (with_reducible apply ev_orV) | (with_reducible apply ev_notV) | (with_reducible apply ev_if) | (with_reducible apply eo_some) | (with_reducible apply el_lst) | (with_reducible exact ea_nil) | (with_reducible exact rv_I0) | (with_reducible exact ru_neg) | (with_reducible exact rv_ltS) | (with_reducible exact rv_inC) | (with_reducible exact rv_notInC) | (with_reducible exact rc_intI) | (with_reducible exact rc_intB) | (with_reducible exact rc_min2) | (with_reducible exact rc_isStr) | (with_reducible exact eo_none) | (with_reducible exact rv_inSS) | (with_reducible exact rv_notInSS) | (with_reducible exact rv_ltSS) | (with_reducible exact rv_eqSS) | (with_reducible exact rv_eqII) | (with_reducible exact rv_neII) | (with_reducible exact rv_neSS) | ((with_reducible refine rc_lenSS ?_); (first | assumption | omega | decide | (simp only [S_len] at *; omega))) | ((with_reducible refine rc_lenStr ?_); (first | assumption | omega | decide | (simp only [S_len] at *; omega))) | ((with_reducible refine rv_catSS ?_); (first | assumption | omega | decide | (simp only [S_len] at *; omega))) | (with_reducible exact rv_eq rfl) | (with_reducible exact rv_ne rfl) | ((with_reducible refine rc_lenS ?_); (first | assumption | omega | decide | (simp only [S_len] at *; omega))) | ((with_reducible refine rc_lenL ?_); assumption) | ((with_reducible apply rv_ixL); assumption; rfl) | ((with_reducible refine rv_catS ?_); (first | assumption | omega | decide | (simp only [S_len] at *; omega))) | ((with_reducible refine rv_I ?_); (first | (show (0 : Int) < _; (first | assumption | omega | decide | (simp only [S_len] at *; omega))) | exact .inr ⟨by decide, by decide⟩ | exact .inl ⟨by (first | assumption | omega | decide | (simp only [S_len] at *; omega)), by (first | assumption | omega | decide | (simp only [S_len] at *; omega))⟩ | exact .inr ⟨by (first | assumption | omega | decide | (simp only [S_len] at *; omega)), by (first | assumption | omega | decide | (simp only [S_len] at *; omega))⟩ | exact ⟨by decide, by decide, by decide⟩ | exact wide_div (b := 128) (by (first | assumption | omega | decide | (simp only [S_len] at *; omega))) (by (first | assumption | omega | decide | (simp only [S_len] at *; omega))) (by decide) (by decide))))))) (fun hc H6 e6 => ?_) (fun hc2 H6 e6 => ?_)
    · have hd2 : d = 2 := of_decide_eq_true hc
      refine s_setRB (b := b) (l := c) (rs := rs) (j := j) (Pr := fun row => row.length ≤ 1000 ∧ (row.length : Int) ≠ p) (b5.ex e6) (e6 _ _ h5) hcb (fun H7 e7 b7 Q7 q7 => ?_) (fun H => ev_var rfl) (fun H => ev_var rfl) hjr fun m row H7 hm e7 b7 h7 hrow => ?_
      · have h7' : H7 c = some (.lst (rs.map V.ref)) := e7 _ _ hcb (e6 _ _ h5)
        have hr7 := ((hr5.ex e6).exB e7 hrb).row j hj
        refine op_fst (ev_op (ev_var rfl) (ev_var rfl) (rv_ixL (K := K) (sq_of h7') hat) H7 (Ex.refl H7) _ fun H8 e8 => ?_)
        refine ei_take (many := 9) rfl (fun H => ev_c) (by decide) (by decide) H8 (b7.ex e8) _ fun z H9 hz e9 b9 => ?_
        refine ⟨sz_of (by simp), fun m hm => ?_⟩
        have hrj : rs.getD j 0 ≠ b := hrb _ (getD_mem hjr)
        refine ⟨_, m, (G.getD j []).map V.int, [.int z], rfl, rfl, (Ex.new hm) _ _ (e9 _ _ hrj (e8 _ _ hr7)), upd_same, sz_of (by rw [List.length_map, lw]; simp; omega), fun l hl => ?_⟩
        have hl9 : H9 l = none := fresh_back (Ex.new hm) hl
        refine q7 l (G.getD j [] ++ [z]) _ (fresh_back e8 (fresh_b e9 b9 hl9)) (((ExB.of e8).trans e9).trans (ExB.of ((Ex.new hm).trans (Ex.new hl)))) (b9.ex ((Ex.new hm).trans (Ex.new hl))) (by rw [upd_same, List.map_append]; rfl) ⟨by rw [List.length_append, lw]; simp; omega, by rw [List.length_append, lw]; simp; omega⟩
      · dsimp only
        refine q_when (b := decide (d = 3)) (by first | ((with_reducible apply et_test); (repeat' (first | ((with_reducible refine ev_pow10 ?_ ?_ ?_) <;> first | rfl | decide) | (with_reducible refine fun (_ : _ = true) => ?_) | (with_reducible refine fun (_ : _ = false) => ?_) | (with_reducible exact ev_c) | ((with_reducible apply ev_var); rfl) | (with_reducible apply ev_op) | (with_reducible apply ev_un) | (with_reducible apply ev_cb) | (with_reducible apply ea_cons) | (with_reducible apply ev_andV) | (with_reducible apply ev_orV) | (with_reducible apply ev_notV) | (with_reducible apply ev_if) | (with_reducible apply eo_some) | (with_reducible apply el_lst) | (with_reducible exact ea_nil) | (with_reducible exact rv_I0) | (with_reducible exact ru_neg) | (with_reducible exact rv_ltS) | (with_reducible exact rv_inC) | (with_reducible exact rv_notInC) | (with_reducible exact rc_intI) | (with_reducible exact rc_intB) | (with_reducible exact rc_min2) | (with_reducible exact rc_isStr) | (with_reducible exact eo_none) | (with_reducible exact rv_inSS) | (with_reducible exact rv_notInSS) | (with_reducible exact rv_ltSS) | (with_reducible exact rv_eqSS) | (with_reducible exact rv_eqII) | (with_reducible exact rv_neII) | (with_reducible exact rv_neSS) | ((with_reducible refine rc_lenSS ?_); (first | assumption | omega | decide | (simp only [S_len] at *; omega))) | ((with_reducible refine rc_lenStr ?_); (first | assumption | omega | decide | (simp only [S_len] at *; omega))) | ((with_reducible refine rv_catSS ?_); (first | assumption | omega | decide | (simp only [S_len] at *; omega))) | (with_reducible exact rv_eq rfl) | (with_reducible exact rv_ne rfl) | ((with_reducible refine rc_lenS ?_); (first | assumption | omega | decide | (simp only [S_len] at *; omega))) | ((with_reducible refine rc_lenL ?_); assumption) | ((with_reducible apply rv_ixL); assumption; rfl) | ((with_reducible refine rv_catS ?_); (first | assumption | omega | decide | (simp only [S_len] at *; omega))) | ((with_reducible refine rv_I ?_); (first | (show (0 : Int) < _; (first | assumption | omega | decide | (simp only [S_len] at *; omega))) | exact .inr ⟨by decide, by decide⟩ | exact .inl ⟨by (first | assumption | omega | decide | (simp only [S_len] at *; omega)), by (first | assumption | omega | decide | (simp only [S_len] at *; omega))⟩ | exact .inr ⟨by (first | assumption | omega | decide | (simp only [S_len] at *; omega)), by (first | assumption | omega | decide | (simp only [S_len] at *; omega))⟩ | exact ⟨by decide, by decide, by decide⟩ | exact wide_div (b := 128) (by (first | assumption | omega | decide | (simp only [S_len] at *; omega))) (by (first | assumption | omega | decide | (simp only [S_len] at *; omega))) (by decide) (by decide)))))) | ((with_reducible apply et_B); (repeat' (first | ((with_reducible refine ev_pow10 ?_ ?_ ?_) <;> first | rfl | decide) | (with_reducible refine fun (_ : _ = true) => ?_) | (with_reducible refine fun (_ : _ = false) => ?_) | (with_reducible exact ev_c) | ((with_reducible apply ev_var); rfl) | (with_reducible apply ev_op) | (with_reducible apply ev_un) | (with_reducible apply ev_cb) | (with_reducible apply ea_cons) | (with_reducible apply ev_andV) | (with_reducible apply ev_orV) | (with_reducible apply ev_notV) | (with_reducible apply ev_if) | (with_reducible apply eo_some) | (with_reducible apply el_lst) | (with_reducible exact ea_nil) | (with_reducible exact rv_I0) | (with_reducible exact ru_neg) | (with_reducible exact rv_ltS) | (with_reducible exact rv_inC) | (with_reducible exact rv_notInC) | (with_reducible exact rc_intI) | (with_reducible exact rc_intB) | (with_reducible exact rc_min2) | (with_reducible exact rc_isStr) | (with_reducible exact eo_none) | (with_reducible exact rv_inSS) | (with_reducible exact rv_notInSS) | (with_reducible exact rv_ltSS) | (with_reducible exact rv_eqSS) | (with_reducible exact rv_eqII) | (with_reducible exact rv_neII) | (with_reducible exact rv_neSS) | ((with_reducible refine rc_lenSS ?_); (first | assumption | omega | decide | (simp only [S_len] at *; omega))) | ((with_reducible refine rc_lenStr ?_); (first | assumption | omega | decide | (simp only [S_len] at *; omega))) | ((with_reducible refine rv_catSS ?_); (first | assumption | omega | decide | (simp only [S_len] at *; omega))) | (with_reducible exact rv_eq rfl) | (with_reducible exact rv_ne rfl) | ((with_reducible refine rc_lenS ?_); (first | assumption | omega | decide | (simp only [S_len] at *; omega))) | ((with_reducible refine rc_lenL ?_); assumption) | ((with_reducible apply rv_ixL); assumption; rfl) | ((with_reducible refine rv_catS ?_); (first | assumption | omega | decide | (simp only [S_len] at *; omega))) | ((with_reducible refine rv_I ?_); (first | (show (0 : Int) < _; (first | assumption | omega | decide | (simp only [S_len] at *; omega))) | exact .inr ⟨by decide, by decide⟩ | exact .inl ⟨by (first | assumption | omega | decide | (simp only [S_len] at *; omega)), by (first | assumption | omega | decide | (simp only [S_len] at *; omega))⟩ | exact .inr ⟨by (first | assumption | omega | decide | (simp only [S_len] at *; omega)), by (first | assumption | omega | decide | (simp only [S_len] at *; omega))⟩ | exact ⟨by decide, by decide, by decide⟩ | exact wide_div (b := 128) (by (first | assumption | omega | decide | (simp only [S_len] at *; omega))) (by (first | assumption | omega | decide | (simp only [S_len] at *; omega))) (by decide) (by decide))))))) (fun hc _ _ => absurd (of_decide_eq_true hc) (by omega)) (fun _ X3 x3' => ?_)
        refine q_when (b := decide (d = 4)) (by first | ((with_reducible apply et_test); (repeat' (first | ((with_reducible refine ev_pow10 ?_ ?_ ?_) <;> first | rfl | decide) | (with_reducible refine fun (_ : _ = true) => ?_) | (with_reducible refine fun (_ : _ = false) => ?_) | (with_reducible exact ev_c) | ((with_reducible apply ev_var); rfl) | (with_reducible apply ev_op) | (with_reducible apply ev_un) | (with_reducible apply ev_cb) | (with_reducible apply ea_cons) | (with_reducible apply ev_andV) | (with_reducible apply ev_orV) | (with_reducible apply ev_notV) | (with_reducible apply ev_if) | (with_reducible apply eo_some) | (with_reducible apply el_lst) | (with_reducible exact ea_nil) | (with_reducible exact rv_I0) | (with_reducible exact ru_neg) | (with_reducible exact rv_ltS) | (with_reducible exact rv_inC) | (with_reducible exact rv_notInC) | (with_reducible exact rc_intI) | (with_reducible exact rc_intB) | (with_reducible exact rc_min2) | (with_reducible exact rc_isStr) | (with_reducible exact eo_none) | (with_reducible exact rv_inSS) | (with_reducible exact rv_notInSS) | (with_reducible exact rv_ltSS) | (with_reducible exact rv_eqSS) | (with_reducible exact rv_eqII) | (with_reducible exact rv_neII) | (with_reducible exact rv_neSS) | ((with_reducible refine rc_lenSS ?_); (first | assumption | omega | decide | (simp only [S_len] at *; omega))) | ((with_reducible refine rc_lenStr ?_); (first | assumption | omega | decide | (simp only [S_len] at *; omega))) | ((with_reducible refine rv_catSS ?_); (first | assumption | omega | decide | (simp only [S_len] at *; omega))) | (with_reducible exact rv_eq rfl) | (with_reducible exact rv_ne rfl) | ((with_reducible refine rc_lenS ?_); (first | assumption | omega | decide | (simp only [S_len] at *; omega))) | ((with_reducible refine rc_lenL ?_); assumption) | ((with_reducible apply rv_ixL); assumption; rfl) | ((with_reducible refine rv_catS ?_); (first | assumption | omega | decide | (simp only [S_len] at *; omega))) | ((with_reducible refine rv_I ?_); (first | (show (0 : Int) < _; (first | assumption | omega | decide | (simp only [S_len] at *; omega))) | exact .inr ⟨by decide, by decide⟩ | exact .inl ⟨by (first | assumption | omega | decide | (simp only [S_len] at *; omega)), by (first | assumption | omega | decide | (simp only [S_len] at *; omega))⟩ | exact .inr ⟨by (first | assumption | omega | decide | (simp only [S_len] at *; omega)), by (first | assumption | omega | decide | (simp only [S_len] at *; omega))⟩ | exact ⟨by decide, by decide, by decide⟩ | exact wide_div (b := 128) (by (first | assumption | omega | decide | (simp only [S_len] at *; omega))) (by (first | assumption | omega | decide | (simp only [S_len] at *; omega))) (by decide) (by decide)))))) | ((with_reducible apply et_B); (repeat' (first | ((with_reducible refine ev_pow10 ?_ ?_ ?_) <;> first | rfl | decide) | (with_reducible refine fun (_ : _ = true) => ?_) | (with_reducible refine fun (_ : _ = false) => ?_) | (with_reducible exact ev_c) | ((with_reducible apply ev_var); rfl) | (with_reducible apply ev_op) | (with_reducible apply ev_un) | (with_reducible apply ev_cb) | (with_reducible apply ea_cons) | (with_reducible apply ev_andV) | (with_reducible apply ev_orV) | (with_reducible apply ev_notV) | (with_reducible apply ev_if) | (with_reducible apply eo_some) | (with_reducible apply el_lst) | (with_reducible exact ea_nil) | (with_reducible exact rv_I0) | (with_reducible exact ru_neg) | (with_reducible exact rv_ltS) | (with_reducible exact rv_inC) | (with_reducible exact rv_notInC) | (with_reducible exact rc_intI) | (with_reducible exact rc_intB) | (with_reducible exact rc_min2) | (with_reducible exact rc_isStr) | (with_reducible exact eo_none) | (with_reducible exact rv_inSS) | (with_reducible exact rv_notInSS) | (with_reducible exact rv_ltSS) | (with_reducible exact rv_eqSS) | (with_reducible exact rv_eqII) | (with_reducible exact rv_neII) | (with_reducible exact rv_neSS) | ((with_reducible refine rc_lenSS ?_); (first | assumption | omega | decide | (simp only [S_len] at *; omega))) | ((with_reducible refine rc_lenStr ?_); (first | assumption | omega | decide | (simp only [S_len] at *; omega))) | ((with_reducible refine rv_catSS ?_); (first | assumption | omega | decide | (simp only [S_len] at *; omega))) | (with_reducible exact rv_eq rfl) | (with_reducible exact rv_ne rfl) | ((with_reducible refine rc_lenS ?_); (first | assumption | omega | decide | (simp only [S_len] at *; omega))) | ((with_reducible refine rc_lenL ?_); assumption) | ((with_reducible apply rv_ixL); assumption; rfl) | ((with_reducible refine rv_catS ?_); (first | assumption | omega | decide | (simp only [S_len] at *; omega))) | ((with_reducible refine rv_I ?_); (first | (show (0 : Int) < _; (first | assumption | omega | decide | (simp only [S_len] at *; omega))) | exact .inr ⟨by decide, by decide⟩ | exact .inl ⟨by (first | assumption | omega | decide | (simp only [S_len] at *; omega)), by (first | assumption | omega | decide | (simp only [S_len] at *; omega))⟩ | exact .inr ⟨by (first | assumption | omega | decide | (simp only [S_len] at *; omega)), by (first | assumption | omega | decide | (simp only [S_len] at *; omega))⟩ | exact ⟨by decide, by decide, by decide⟩ | exact wide_div (b := 128) (by (first | assumption | omega | decide | (simp only [S_len] at *; omega))) (by (first | assumption | omega | decide | (simp only [S_len] at *; omega))) (by decide) (by decide))))))) (fun hc _ _ => absurd (of_decide_eq_true hc) (by omega)) (fun _ X4 x4' => ?_)
        refine q_when (b := decide (d = 5)) (by first | ((with_reducible apply et_test); (repeat' (first | ((with_reducible refine ev_pow10 ?_ ?_ ?_) <;> first | rfl | decide) | (with_reducible refine fun (_ : _ = true) => ?_) | (with_reducible refine fun (_ : _ = false) => ?_) | (with_reducible exact ev_c) | ((with_reducible apply ev_var); rfl) | (with_reducible apply ev_op) | (with_reducible apply ev_un) | (with_reducible apply ev_cb) | (with_reducible apply ea_cons) | (with_reducible apply ev_andV) | (with_reducible apply ev_orV) | (with_reducible apply ev_notV) | (with_reducible apply ev_if) | (with_reducible apply eo_some) | (with_reducible apply el_lst) | (with_reducible exact ea_nil) | (with_reducible exact rv_I0) | (with_reducible exact ru_neg) | (with_reducible exact rv_ltS) | (with_reducible exact rv_inC) | (with_reducible exact rv_notInC) | (with_reducible exact rc_intI) | (with_reducible exact rc_intB) | (with_reducible exact rc_min2) | (with_reducible exact rc_isStr) | (with_reducible exact eo_none) | (with_reducible exact rv_inSS) | (with_reducible exact rv_notInSS) | (with_reducible exact rv_ltSS) | (with_reducible exact rv_eqSS) | (with_reducible exact rv_eqII) | (with_reducible exact rv_neII) | (with_reducible exact rv_neSS) | ((with_reducible refine rc_lenSS ?_); (first | assumption | omega | decide | (simp only [S_len] at *; omega))) | ((with_reducible refine rc_lenStr ?_); (first | assumption | omega | decide | (simp only [S_len] at *; omega))) | ((with_reducible refine rv_catSS ?_); (first | assumption | omega | decide | (simp only [S_len] at *; omega))) | (with_reducible exact rv_eq rfl) | (with_reducible exact rv_ne rfl) | ((with_reducible refine rc_lenS ?_); (first | assumption | omega | decide | (simp only [S_len] at *; omega))) | ((with_reducible refine rc_lenL ?_); assumption) | ((with_reducible apply rv_ixL); assumption; rfl) | ((with_reducible refine rv_catS ?_); (first | assumption | omega | decide | (simp only [S_len] at *; omega))) | ((with_reducible refine rv_I ?_); (first | (show (0 : Int) < _; (first | assumption | omega | decide | (simp only [S_len] at *; omega))) | exact .inr ⟨by decide, by decide⟩ | exact .inl ⟨by (first | assumption | omega | decide | (simp only [S_len] at *; omega)), by (first | assumption | omega | decide | (simp only [S_len] at *; omega))⟩ | exact .inr ⟨by (first | assumption | omega | decide | (simp only [S_len] at *; omega)), by (first | assumption | omega | decide | (simp only [S_len] at *; omega))⟩ | exact ⟨by decide, by decide, by decide⟩ | exact wide_div (b := 128) (by (first | assumption | omega | decide | (simp only [S_len] at *; omega))) (by (first | assumption | omega | decide | (simp only [S_len] at *; omega))) (by decide) (by decide)))))) | ((with_reducible apply et_B); (repeat' (first | ((with_reducible refine ev_pow10 ?_ ?_ ?_) <;> first | rfl | decide) | (with_reducible refine fun (_ : _ = true) => ?_) | (with_reducible refine fun (_ : _ = false) => ?_) | (with_reducible exact ev_c) | ((with_reducible apply ev_var); rfl) | (with_reducible apply ev_op) | (with_reducible apply ev_un) | (with_reducible apply ev_cb) | (with_reducible apply ea_cons) | (with_reducible apply ev_andV) | (with_reducible apply ev_orV) | (with_reducible apply ev_notV) | (with_reducible apply ev_if) | (with_reducible apply eo_some) | (with_reducible apply el_lst) | (with_reducible exact ea_nil) | (with_reducible exact rv_I0) | (with_reducible exact ru_neg) | (with_reducible exact rv_ltS) | (with_reducible exact rv_inC) | (with_reducible exact rv_notInC) | (with_reducible exact rc_intI) | (with_reducible exact rc_intB) | (with_reducible exact rc_min2) | (with_reducible exact rc_isStr) | (with_reducible exact eo_none) | (with_reducible exact rv_inSS) | (with_reducible exact rv_notInSS) | (with_reducible exact rv_ltSS) | (with_reducible exact rv_eqSS) | (with_reducible exact rv_eqII) | (with_reducible exact rv_neII) | (with_reducible exact rv_neSS) | ((with_reducible refine rc_lenSS ?_); (first | assumption | omega | decide | (simp only [S_len] at *; omega))) | ((with_reducible refine rc_lenStr ?_); (first | assumption | omega | decide | (simp only [S_len] at *; omega))) | ((with_reducible refine rv_catSS ?_); (first | assumption | omega | decide | (simp only [S_len] at *; omega))) | (with_reducible exact rv_eq rfl) | (with_reducible exact rv_ne rfl) | ((with_reducible refine rc_lenS ?_); (first | assumption | omega | decide | (simp only [S_len] at *; omega))) | ((with_reducible refine rc_lenL ?_); assumption) | ((with_reducible apply rv_ixL); assumption; rfl) | ((with_reducible refine rv_catS ?_); (first | assumption | omega | decide | (simp only [S_len] at *; omega))) | ((with_reducible refine rv_I ?_); (first | (show (0 : Int) < _; (first | assumption | omega | decide | (simp only [S_len] at *; omega))) | exact .inr ⟨by decide, by decide⟩ | exact .inl ⟨by (first | assumption | omega | decide | (simp only [S_len] at *; omega)), by (first | assumption | omega | decide | (simp only [S_len] at *; omega))⟩ | exact .inr ⟨by (first | assumption | omega | decide | (simp only [S_len] at *; omega)), by (first | assumption | omega | decide | (simp only [S_len] at *; omega))⟩ | exact ⟨by decide, by decide, by decide⟩ | exact wide_div (b := 128) (by (first | assumption | omega | decide | (simp only [S_len] at *; omega))) (by (first | assumption | omega | decide | (simp only [S_len] at *; omega))) (by decide) (by decide))))))) (fun hc _ _ => absurd (of_decide_eq_true hc) (by omega)) (fun _ X5 x5' => ?_)
        exact s_ret (ev_var rfl) fun X9 x9 => fin m row H7 (fresh_back e6 hm) ((ExB.of e6).trans e7) b7 h7 hrow.1 hrow.2 X9 ((((x3').trans x4').trans x5').trans x9)
    have hd2 : d ≠ 2 := of_decide_eq_false hc2
    -- fault 3
    refine q_when (b := decide (d = 3)) (by first | ((with_reducible apply et_test); (repeat' (first | ((with_reducible refine ev_pow10 ?_ ?_ ?_) <;> first | rfl | decide) | (with_reducible refine fun (_ : _ = true) => ?_) | (with_reducible refine fun (_ : _ = false) => ?_) | (with_reducible exact ev_c) | ((with_reducible apply ev_var); rfl) | (with_reducible apply ev_op) | (with_reducible apply ev_un) | (with_reducible apply ev_cb) | (with_reducible apply ea_cons) | (with_reducible apply ev_andV) | (with_reducible apply ev_orV) | (with_reducible apply ev_notV) | (with_reducible apply ev_if) | (with_reducible apply eo_some) | (with_reducible apply el_lst) | (with_reducible exact ea_nil) | (with_reducible exact rv_I0) | (with_reducible exact ru_neg) | (with_reducible exact rv_ltS) | (with_reducible exact rv_inC) | (with_reducible exact rv_notInC) | (with_reducible exact rc_intI) | (with_reducible exact rc_intB) | (with_reducible exact rc_min2) | (with_reducible exact rc_isStr) | (with_reducible exact eo_none) | (with_reducible exact rv_inSS) | (with_reducible exact rv_notInSS) | (with_reducible exact rv_ltSS) | (with_reducible exact rv_eqSS) | (with_reducible exact rv_eqII) | (with_reducible exact rv_neII) | (with_reducible exact rv_neSS) | ((with_reducible refine rc_lenSS ?_); (first | assumption | omega | decide | (simp only [S_len] at *; omega))) | ((with_reducible refine rc_lenStr ?_); (first | assumption | omega | decide | (simp only [S_len] at *; omega))) | ((with_reducible refine rv_catSS ?_); (first | assumption | omega | decide | (simp only [S_len] at *; omega))) | (with_reducible exact rv_eq rfl) | (with_reducible exact rv_ne rfl) | ((with_reducible refine rc_lenS ?_); (first | assumption | omega | decide | (simp only [S_len] at *; omega))) | ((with_reducible refine rc_lenL ?_); assumption) | ((with_reducible apply rv_ixL); assumption; rfl) | ((with_reducible refine rv_catS ?_); (first | assumption | omega | decide | (simp only [S_len] at *; omega))) | ((with_reducible refine rv_I ?_); (first | (show (0 : Int) < _; (first | assumption | omega | decide | (simp only [S_len] at *; omega))) | exact .inr ⟨by decide, by decide⟩ | exact .inl ⟨by (first | assumption | omega | decide | (simp only [S_len] at *; omega)), by (first | assumption | omega | decide | (simp only [S_len] at *; omega))⟩ | exact .inr ⟨by (first | assumption | omega | decide | (simp only [S_len] at *; omega)), by (first | assumption | omega | decide | (simp only [S_len] at *; omega))⟩ | exact ⟨by decide, by decide, by decide⟩ | exact wide_div (b := 128) (by (first | assumption | omega | decide | (simp only [S_len] at *; omega))) (by (first | assumption | omega | decide | (simp only [S_len] at *; omega))) (by decide) (by decide)))))) | ((with_reducible apply et_B); (repeat' (first | ((with_reducible refine ev_pow10 ?_ ?_ ?_) <;> first | rfl | decide) | (with_reducible refine fun (_ : _ = true) => ?_) | (with_reducible refine fun (_ : _ = false) => ?_) | (with_reducible exact ev_c) | ((with_reducible apply ev_var); rfl) | (with_reducible apply ev_op) | (with_reducible apply ev_un) | (with_reducible apply ev_cb) | (with_reducible apply ea_cons) | (with_reducible apply ev_andV) | (with_reducible apply ev_orV) | (with_reducible apply ev_notV) | (with_reducible apply ev_if) | (with_reducible apply eo_some) | (with_reducible apply el_lst) | (with_reducible exact ea_nil) | (with_reducible exact rv_I0) | (with_reducible exact ru_neg) | (with_reducible exact rv_ltS) | (with_reducible exact rv_inC) | (with_reducible exact rv_notInC) | (with_reducible exact rc_intI) | (with_reducible exact rc_intB) | (with_reducible exact rc_min2) | (with_reducible exact rc_isStr) | (with_reducible exact eo_none) | (with_reducible exact rv_inSS) | (with_reducible exact rv_notInSS) | (with_reducible exact rv_ltSS) | (with_reducible exact rv_eqSS) | (with_reducible exact rv_eqII) | (with_reducible exact rv_neII) | (with_reducible exact rv_neSS) | ((with_reducible refine rc_lenSS ?_); (first | assumption | omega | decide | (simp only [S_len] at *; omega))) | ((with_reducible refine rc_lenStr ?_); (first | assumption | omega | decide | (simp only [S_len] at *; omega))) | ((with_reducible refine rv_catSS ?_); (first | assumption | omega | decide | (simp only [S_len] at *; omega))) | (with_reducible exact rv_eq rfl) | (with_reducible exact rv_ne rfl) | ((with_reducible refine rc_lenS ?_); (first | assumption | omega | decide | (simp only [S_len] at *; omega))) | ((with_reducible refine rc_lenL ?_); assumption) | ((with_reducible apply rv_ixL); assumption; rfl) | ((with_reducible refine rv_catS ?_); (first | assumption | omega | decide | (simp only [S_len] at *; omega))) | ((with_reducible refine rv_I ?_); (first | (show (0 : Int) < _; (first | assumption | omega | decide | (simp only [S_len] at *; omega))) | exact .inr ⟨by decide, by decide⟩ | exact .inl ⟨by (first | assumption | omega | decide | (simp only [S_len] at *; omega)), by (first | assumption | omega | decide | (simp only [S_len] at *; omega))⟩ | exact .inr ⟨by (first | assumption | omega | decide | (simp only [S_len] at *; omega)), by (first | assumption | omega | decide | (simp only [S_len] at *; omega))⟩ | exact ⟨by decide, by decide, by decide⟩ | exact wide_div (b := 128) (by (first | assumption | omega | decide | (simp only [S_len] at *; omega))) (by (first | assumption | omega | decide | (simp only [S_len] at *; omega))) (by decide) (by decide))))))) (fun hc H7 e7 => ?_) (fun hc3 H7 e7 => ?_)
    · have hd3 : d = 3 := of_decide_eq_true hc
      have e67 := e6.trans e7
      refine s_setRB (b := b) (l := c) (rs := rs) (j := j) (Pr := fun row => row.length ≤ 1000 ∧ (row.length : Int) ≠ p) (b5.ex e67) (e67 _ _ h5) hcb (rb_of (row := (G.getD j []).take (p - 1).toNat) (fun H8 e8 => ?_) ⟨by rw [List.length_take, lw]; omega, by rw [List.length_take, lw]; omega⟩) (fun H => ev_var rfl) (fun H => ev_var rfl) hjr fun m row H8 hm e8 b8 h8 hrow => ?_
      · have h8' : H8 c = some (.lst (rs.map V.ref)) := e8 _ _ hcb (e67 _ _ h5)
        have hr8 := ((hr5.ex e67).exB e8 hrb).row j hj
        have h := el_sl (K := K) (σ := [some (.ref b), some (.int p), some (.ref g), some (.ref c), some (.int d), some (.int (j : Int)), none, none]) (H := H8) (te := tOp (rIxL K) (tVar 3) (tVar 5)) (tl := tNoPart) (th := tPart (tOp (rI0 fun i j => V.int (i - j)) (tVar 1) (tC (V.int 1)))) (lo := none) (hi := some (p - 1)) (xs := (G.getD j []).map V.int) (ev_op (ev_var rfl) (ev_var rfl) (rv_ixL (K := K) (sq_of h8') hat)) eo_none (eo_some (ev_op (ev_var rfl) ev_c rv_I0)) (sq_of hr8)
        rw [show p - 1 = (((p - 1).toNat : Nat) : Int) by omega, cutV_to, ← List.map_take] at h
        exact h
      · dsimp only
        refine q_when (b := decide (d = 4)) (by first | ((with_reducible apply et_test); (repeat' (first | ((with_reducible refine ev_pow10 ?_ ?_ ?_) <;> first | rfl | decide) | (with_reducible refine fun (_ : _ = true) => ?_) | (with_reducible refine fun (_ : _ = false) => ?_) | (with_reducible exact ev_c) | ((with_reducible apply ev_var); rfl) | (with_reducible apply ev_op) | (with_reducible apply ev_un) | (with_reducible apply ev_cb) | (with_reducible apply ea_cons) | (with_reducible apply ev_andV) | (with_reducible apply ev_orV) | (with_reducible apply ev_notV) | (with_reducible apply ev_if) | (with_reducible apply eo_some) | (with_reducible apply el_lst) | (with_reducible exact ea_nil) | (with_reducible exact rv_I0) | (with_reducible exact ru_neg) | (with_reducible exact rv_ltS) | (with_reducible exact rv_inC) | (with_reducible exact rv_notInC) | (with_reducible exact rc_intI) | (with_reducible exact rc_intB) | (with_reducible exact rc_min2) | (with_reducible exact rc_isStr) | (with_reducible exact eo_none) | (with_reducible exact rv_inSS) | (with_reducible exact rv_notInSS) | (with_reducible exact rv_ltSS) | (with_reducible exact rv_eqSS) | (with_reducible exact rv_eqII) | (with_reducible exact rv_neII) | (with_reducible exact rv_neSS) | ((with_reducible refine rc_lenSS ?_); (first | assumption | omega | decide | (simp only [S_len] at *; omega))) | ((with_reducible refine rc_lenStr ?_); (first | assumption | omega | decide | (simp only [S_len] at *; omega))) | ((with_reducible refine rv_catSS ?_); (first | assumption | omega | decide | (simp only [S_len] at *; omega))) | (with_reducible exact rv_eq rfl) | (with_reducible exact rv_ne rfl) | ((with_reducible refine rc_lenS ?_); (first | assumption | omega | decide | (simp only [S_len] at *; omega))) | ((with_reducible refine rc_lenL ?_); assumption) | ((with_reducible apply rv_ixL); assumption; rfl) | ((with_reducible refine rv_catS ?_); (first | assumption | omega | decide | (simp only [S_len] at *; omega))) | ((with_reducible refine rv_I ?_); (first | (show (0 : Int) < _; (first | assumption | omega | decide | (simp only [S_len] at *; omega))) | exact .inr ⟨by decide, by decide⟩ | exact .inl ⟨by (first | assumption | omega | decide | (simp only [S_len] at *; omega)), by (first | assumption | omega | decide | (simp only [S_len] at *; omega))⟩ | exact .inr ⟨by (first | assumption | omega | decide | (simp only [S_len] at *; omega)), by (first | assumption | omega | decide | (simp only [S_len] at *; omega))⟩ | exact ⟨by decide, by decide, by decide⟩ | exact wide_div (b := 128) (by (first | assumption | omega | decide | (simp only [S_len] at *; omega))) (by (first | assumption | omega | decide | (simp only [S_len] at *; omega))) (by decide) (by decide)))))) | ((with_reducible apply et_B); (repeat' (first | ((with_reducible refine ev_pow10 ?_ ?_ ?_) <;> first | rfl | decide) | (with_reducible refine fun (_ : _ = true) => ?_) | (with_reducible refine fun (_ : _ = false) => ?_) | (with_reducible exact ev_c) | ((with_reducible apply ev_var); rfl) | (with_reducible apply ev_op) | (with_reducible apply ev_un) | (with_reducible apply ev_cb) | (with_reducible apply ea_cons) | (with_reducible apply ev_andV) | (with_reducible apply ev_orV) | (with_reducible apply ev_notV) | (with_reducible apply ev_if) | (with_reducible apply eo_some) | (with_reducible apply el_lst) | (with_reducible exact ea_nil) | (with_reducible exact rv_I0) | (with_reducible exact ru_neg) | (with_reducible exact rv_ltS) | (with_reducible exact rv_inC) | (with_reducible exact rv_notInC) | (with_reducible exact rc_intI) | (with_reducible exact rc_intB) | (with_reducible exact rc_min2) | (with_reducible exact rc_isStr) | (with_reducible exact eo_none) | (with_reducible exact rv_inSS) | (with_reducible exact rv_notInSS) | (with_reducible exact rv_ltSS) | (with_reducible exact rv_eqSS) | (with_reducible exact rv_eqII) | (with_reducible exact rv_neII) | (with_reducible exact rv_neSS) | ((with_reducible refine rc_lenSS ?_); (first | assumption | omega | decide | (simp only [S_len] at *; omega))) | ((with_reducible refine rc_lenStr ?_); (first | assumption | omega | decide | (simp only [S_len] at *; omega))) | ((with_reducible refine rv_catSS ?_); (first | assumption | omega | decide | (simp only [S_len] at *; omega))) | (with_reducible exact rv_eq rfl) | (with_reducible exact rv_ne rfl) | ((with_reducible refine rc_lenS ?_); (first | assumption | omega | decide | (simp only [S_len] at *; omega))) | ((with_reducible refine rc_lenL ?_); assumption) | ((with_reducible apply rv_ixL); assumption; rfl) | ((with_reducible refine rv_catS ?_); (first | assumption | omega | decide | (simp only [S_len] at *; omega))) | ((with_reducible refine rv_I ?_); (first | (show (0 : Int) < _; (first | assumption | omega | decide | (simp only [S_len] at *; omega))) | exact .inr ⟨by decide, by decide⟩ | exact .inl ⟨by (first | assumption | omega | decide | (simp only [S_len] at *; omega)), by (first | assumption | omega | decide | (simp only [S_len] at *; omega))⟩ | exact .inr ⟨by (first | assumption | omega | decide | (simp only [S_len] at *; omega)), by (first | assumption | omega | decide | (simp only [S_len] at *; omega))⟩ | exact ⟨by decide, by decide, by decide⟩ | exact wide_div (b := 128) (by (first | assumption | omega | decide | (simp only [S_len] at *; omega))) (by (first | assumption | omega | decide | (simp only [S_len] at *; omega))) (by decide) (by decide))))))) (fun hc _ _ => absurd (of_decide_eq_true hc) (by omega)) (fun _ X4 x4' => ?_)
        refine q_when (b := decide (d = 5)) (by first | ((with_reducible apply et_test); (repeat' (first | ((with_reducible refine ev_pow10 ?_ ?_ ?_) <;> first | rfl | decide) | (with_reducible refine fun (_ : _ = true) => ?_) | (with_reducible refine fun (_ : _ = false) => ?_) | (with_reducible exact ev_c) | ((with_reducible apply ev_var); rfl) | (with_reducible apply ev_op) | (with_reducible apply ev_un) | (with_reducible apply ev_cb) | (with_reducible apply ea_cons) | (with_reducible apply ev_andV) | (with_reducible apply ev_orV) | (with_reducible apply ev_notV) | (with_reducible apply ev_if) | (with_reducible apply eo_some) | (with_reducible apply el_lst) | (with_reducible exact ea_nil) | (with_reducible exact rv_I0) | (with_reducible exact ru_neg) | (with_reducible exact rv_ltS) | (with_reducible exact rv_inC) | (with_reducible exact rv_notInC) | (with_reducible exact rc_intI) | (with_reducible exact rc_intB) | (with_reducible exact rc_min2) | (with_reducible exact rc_isStr) | (with_reducible exact eo_none) | (with_reducible exact rv_inSS) | (with_reducible exact rv_notInSS) | (with_reducible exact rv_ltSS) | (with_reducible exact rv_eqSS) | (with_reducible exact rv_eqII) | (with_reducible exact rv_neII) | (with_reducible exact rv_neSS) | ((with_reducible refine rc_lenSS ?_); (first | assumption | omega | decide | (simp only [S_len] at *; omega))) | ((with_reducible refine rc_lenStr ?_); (first | assumption | omega | decide | (simp only [S_len] at *; omega))) | ((with_reducible refine rv_catSS ?_); (first | assumption | omega | decide | (simp only [S_len] at *; omega))) | (with_reducible exact rv_eq rfl) | (with_reducible exact rv_ne rfl) | ((with_reducible refine rc_lenS ?_); (first | assumption | omega | decide | (simp only [S_len] at *; omega))) | ((with_reducible refine rc_lenL ?_); assumption) | ((with_reducible apply rv_ixL); assumption; rfl) | ((with_reducible refine rv_catS ?_); (first | assumption | omega | decide | (simp only [S_len] at *; omega))) | ((with_reducible refine rv_I ?_); (first | (show (0 : Int) < _; (first | assumption | omega | decide | (simp only [S_len] at *; omega))) | exact .inr ⟨by decide, by decide⟩ | exact .inl ⟨by (first | assumption | omega | decide | (simp only [S_len] at *; omega)), by (first | assumption | omega | decide | (simp only [S_len] at *; omega))⟩ | exact .inr ⟨by (first | assumption | omega | decide | (simp only [S_len] at *; omega)), by (first | assumption | omega | decide | (simp only [S_len] at *; omega))⟩ | exact ⟨by decide, by decide, by decide⟩ | exact wide_div (b := 128) (by (first | assumption | omega | decide | (simp only [S_len] at *; omega))) (by (first | assumption | omega | decide | (simp only [S_len] at *; omega))) (by decide) (by decide)))))) | ((with_reducible apply et_B); (repeat' (first | ((with_reducible refine ev_pow10 ?_ ?_ ?_) <;> first | rfl | decide) | (with_reducible refine fun (_ : _ = true) => ?_) | (with_reducible refine fun (_ : _ = false) => ?_) | (with_reducible exact ev_c) | ((with_reducible apply ev_var); rfl) | (with_reducible apply ev_op) | (with_reducible apply ev_un) | (with_reducible apply ev_cb) | (with_reducible apply ea_cons) | (with_reducible apply ev_andV) | (with_reducible apply ev_orV) | (with_reducible apply ev_notV) | (with_reducible apply ev_if) | (with_reducible apply eo_some) | (with_reducible apply el_lst) | (with_reducible exact ea_nil) | (with_reducible exact rv_I0) | (with_reducible exact ru_neg) | (with_reducible exact rv_ltS) | (with_reducible exact rv_inC) | (with_reducible exact rv_notInC) | (with_reducible exact rc_intI) | (with_reducible exact rc_intB) | (with_reducible exact rc_min2) | (with_reducible exact rc_isStr) | (with_reducible exact eo_none) | (with_reducible exact rv_inSS) | (with_reducible exact rv_notInSS) | (with_reducible exact rv_ltSS) | (with_reducible exact rv_eqSS) | (with_reducible exact rv_eqII) | (with_reducible exact rv_neII) | (with_reducible exact rv_neSS) | ((with_reducible refine rc_lenSS ?_); (first | assumption | omega | decide | (simp only [S_len] at *; omega))) | ((with_reducible refine rc_lenStr ?_); (first | assumption | omega | decide | (simp only [S_len] at *; omega))) | ((with_reducible refine rv_catSS ?_); (first | assumption | omega | decide | (simp only [S_len] at *; omega))) | (with_reducible exact rv_eq rfl) | (with_reducible exact rv_ne rfl) | ((with_reducible refine rc_lenS ?_); (first | assumption | omega | decide | (simp only [S_len] at *; omega))) | ((with_reducible refine rc_lenL ?_); assumption) | ((with_reducible apply rv_ixL); assumption; rfl) | ((with_reducible refine rv_catS ?_); (first | assumption | omega | decide | (simp only [S_len] at *; omega))) | ((with_reducible refine rv_I ?_); (first | (show (0 : Int) < _; (first | assumption | omega | decide | (simp only [S_len] at *; omega))) | exact .inr ⟨by decide, by decide⟩ | exact .inl ⟨by (first | assumption | omega | decide | (simp only [S_len] at *; omega)), by (first | assumption | omega | decide | (simp only [S_len] at *; omega))⟩ | exact .inr ⟨by (first | assumption | omega | decide | (simp only [S_len] at *; omega)), by (first | assumption | omega | decide | (simp only [S_len] at *; omega))⟩ | exact ⟨by decide, by decide, by decide⟩ | exact wide_div (b := 128) (by (first | assumption | omega | decide | (simp only [S_len] at *; omega))) (by (first | assumption | omega | decide | (simp only [S_len] at *; omega))) (by decide) (by decide))))))) (fun hc _ _ => absurd (of_decide_eq_true hc) (by omega)) (fun _ X5 x5' => ?_)
        exact s_ret (ev_var rfl) fun X9 x9 => fin m row H8 (fresh_back e67 hm) ((ExB.of e67).trans e8) b8 h8 hrow.1 hrow.2 X9 ((x4'.trans x5').trans x9)
    have hd3 : d ≠ 3 := of_decide_eq_false hc3
    have e67 := e6.trans e7
    -- fault 4
    refine q_when (b := decide (d = 4)) (by first | ((with_reducible apply et_test); (repeat' (first | ((with_reducible refine ev_pow10 ?_ ?_ ?_) <;> first | rfl | decide) | (with_reducible refine fun (_ : _ = true) => ?_) | (with_reducible refine fun (_ : _ = false) => ?_) | (with_reducible exact ev_c) | ((with_reducible apply ev_var); rfl) | (with_reducible apply ev_op) | (with_reducible apply ev_un) | (with_reducible apply ev_cb) | (with_reducible apply ea_cons) | (with_reducible apply ev_andV) | (with_reducible apply ev_orV) | (with_reducible apply ev_notV) | (with_reducible apply ev_if) | (with_reducible apply eo_some) | (with_reducible apply el_lst) | (with_reducible exact ea_nil) | (with_reducible exact rv_I0) | (with_reducible exact ru_neg) | (with_reducible exact rv_ltS) | (with_reducible exact rv_inC) | (with_reducible exact rv_notInC) | (with_reducible exact rc_intI) | (with_reducible exact rc_intB) | (with_reducible exact rc_min2) | (with_reducible exact rc_isStr) | (with_reducible exact eo_none) | (with_reducible exact rv_inSS) | (with_reducible exact rv_notInSS) | (with_reducible exact rv_ltSS) | (with_reducible exact rv_eqSS) | (with_reducible exact rv_eqII) | (with_reducible exact rv_neII) | (with_reducible exact rv_neSS) | ((with_reducible refine rc_lenSS ?_); (first | assumption | omega | decide | (simp only [S_len] at *; omega))) | ((with_reducible refine rc_lenStr ?_); (first | assumption | omega | decide | (simp only [S_len] at *; omega))) | ((with_reducible refine rv_catSS ?_); (first | assumption | omega | decide | (simp only [S_len] at *; omega))) | (with_reducible exact rv_eq rfl) | (with_reducible exact rv_ne rfl) | ((with_reducible refine rc_lenS ?_); (first | assumption | omega | decide | (simp only [S_len] at *; omega))) | ((with_reducible refine rc_lenL ?_); assumption) | ((with_reducible apply rv_ixL); assumption; rfl) | ((with_reducible refine rv_catS ?_); (first | assumption | omega | decide | (simp only [S_len] at *; omega))) | ((with_reducible refine rv_I ?_); (first | (show (0 : Int) < _; (first | assumption | omega | decide | (simp only [S_len] at *; omega))) | exact .inr ⟨by decide, by decide⟩ | exact .inl ⟨by (first | assumption | omega | decide | (simp only [S_len] at *; omega)), by (first | assumption | omega | decide | (simp only [S_len] at *; omega))⟩ | exact .inr ⟨by (first | assumption | omega | decide | (simp only [S_len] at *; omega)), by (first | assumption | omega | decide | (simp only [S_len] at *; omega))⟩ | exact ⟨by decide, by decide, by decide⟩ | exact wide_div (b := 128) (by (first | assumption | omega | decide | (simp only [S_len] at *; omega))) (by (first | assumption | omega | decide | (simp only [S_len] at *; omega))) (by decide) (by decide)))))) | ((with_reducible apply et_B); (repeat' (first | ((with_reducible refine ev_pow10 ?_ ?_ ?_) <;> first | rfl | decide) | (with_reducible refine fun (_ : _ = true) => ?_) | (with_reducible refine fun (_ : _ = false) => ?_) | (with_reducible exact ev_c) | ((with_reducible apply ev_var); rfl) | (with_reducible apply ev_op) | (with_reducible apply ev_un) | (with_reducible apply ev_cb) | (with_reducible apply ea_cons) | (with_reducible apply ev_andV) | (with_reducible apply ev_orV) | (with_reducible apply ev_notV) | (with_reducible apply ev_if) | (with_reducible apply eo_some) | (with_reducible apply el_lst) | (with_reducible exact ea_nil) | (with_reducible exact rv_I0) | (with_reducible exact ru_neg) | (with_reducible exact rv_ltS) | (with_reducible exact rv_inC) | (with_reducible exact rv_notInC) | (with_reducible exact rc_intI) | (with_reducible exact rc_intB) | (with_reducible exact rc_min2) | (with_reducible exact rc_isStr) | (with_reducible exact eo_none) | (with_reducible exact rv_inSS) | (with_reducible exact rv_notInSS) | (with_reducible exact rv_ltSS) | (with_reducible exact rv_eqSS) | (with_reducible exact rv_eqII) | (with_reducible exact rv_neII) | (with_reducible exact rv_neSS) | ((with_reducible refine rc_lenSS ?_); (first | assumption | omega | decide | (simp only [S_len] at *; omega))) | ((with_reducible refine rc_lenStr ?_); (first | assumption | omega | decide | (simp only [S_len] at *; omega))) | ((with_reducible refine rv_catSS ?_); (first | assumption | omega | decide | (simp only [S_len] at *; omega))) | (with_reducible exact rv_eq rfl) | (with_reducible exact rv_ne rfl) | ((with_reducible refine rc_lenS ?_); (first | assumption | omega | decide | (simp only [S_len] at *; omega))) | ((with_reducible refine rc_lenL ?_); assumption) | ((with_reducible apply rv_ixL); assumption; rfl) | ((with_reducible refine rv_catS ?_); (first | assumption | omega | decide | (simp only [S_len] at *; omega))) | ((with_reducible refine rv_I ?_); (first | (show (0 : Int) < _; (first | assumption | omega | decide | (simp only [S_len] at *; omega))) | exact .inr ⟨by decide, by decide⟩ | exact .inl ⟨by (first | assumption | omega | decide | (simp only [S_len] at *; omega)), by (first | assumption | omega | decide | (simp only [S_len] at *; omega))⟩ | exact .inr ⟨by (first | assumption | omega | decide | (simp only [S_len] at *; omega)), by (first | assumption | omega | decide | (simp only [S_len] at *; omega))⟩ | exact ⟨by decide, by decide, by decide⟩ | exact wide_div (b := 128) (by (first | assumption | omega | decide | (simp only [S_len] at *; omega))) (by (first | assumption | omega | decide | (simp only [S_len] at *; omega))) (by decide) (by decide))))))) (fun hc H8 e8 => ?_) (fun hc4 H8 e8 => ?_)
    · have hd4 : d = 4 := of_decide_eq_true hc
      have e68 := e67.trans e8
      have hGm : (G.map fun row => row ++ [(1 : Int)]).length = G.length := List.length_map _
      refine asg_fst ?_
      refine eg_L (K := K) (c := .lst) (G := G.map fun row => row ++ [(1 : Int)]) (a := c) (xs := rs.map V.ref) (by exact ev_var rfl) (sq_of (e68 _ _ h5)) (by rw [List.length_map, hr5.len, hGm]) (by rw [hGm]; omega) (fun x => rfl) (fun i x H9 e9 hi => ?_) H8 (Ex.refl H8) _ fun m ms H9 hm e9 h9 hr9 hf9 _ => ?_
      · obtain ⟨hk, rfl, hrow⟩ := (hr5.ex e68).at_ hi
        rw [row_map (f := fun row => row ++ [(1 : Int)]) hk]
        unfold EvN
        rw [List.map_append]
        exact el_catL (ev_var rfl) (e9 _ _ hrow) (el_lst (ea_cons ev_c ea_nil) (by simp)) (by rw [List.length_map, hw.at_ hk]; simp; omega)
      · dsimp only
        refine q_when (b := decide (d = 5)) (by first | ((with_reducible apply et_test); (repeat' (first | ((with_reducible refine ev_pow10 ?_ ?_ ?_) <;> first | rfl | decide) | (with_reducible refine fun (_ : _ = true) => ?_) | (with_reducible refine fun (_ : _ = false) => ?_) | (with_reducible exact ev_c) | ((with_reducible apply ev_var); rfl) | (with_reducible apply ev_op) | (with_reducible apply ev_un) | (with_reducible apply ev_cb) | (with_reducible apply ea_cons) | (with_reducible apply ev_andV) | (with_reducible apply ev_orV) | (with_reducible apply ev_notV) | (with_reducible apply ev_if) | (with_reducible apply eo_some) | (with_reducible apply el_lst) | (with_reducible exact ea_nil) | (with_reducible exact rv_I0) | (with_reducible exact ru_neg) | (with_reducible exact rv_ltS) | (with_reducible exact rv_inC) | (with_reducible exact rv_notInC) | (with_reducible exact rc_intI) | (with_reducible exact rc_intB) | (with_reducible exact rc_min2) | (with_reducible exact rc_isStr) | (with_reducible exact eo_none) | (with_reducible exact rv_inSS) | (with_reducible exact rv_notInSS) | (with_reducible exact rv_ltSS) | (with_reducible exact rv_eqSS) | (with_reducible exact rv_eqII) | (with_reducible exact rv_neII) | (with_reducible exact rv_neSS) | ((with_reducible refine rc_lenSS ?_); (first | assumption | omega | decide | (simp only [S_len] at *; omega))) | ((with_reducible refine rc_lenStr ?_); (first | assumption | omega | decide | (simp only [S_len] at *; omega))) | ((with_reducible refine rv_catSS ?_); (first | assumption | omega | decide | (simp only [S_len] at *; omega))) | (with_reducible exact rv_eq rfl) | (with_reducible exact rv_ne rfl) | ((with_reducible refine rc_lenS ?_); (first | assumption | omega | decide | (simp only [S_len] at *; omega))) | ((with_reducible refine rc_lenL ?_); assumption) | ((with_reducible apply rv_ixL); assumption; rfl) | ((with_reducible refine rv_catS ?_); (first | assumption | omega | decide | (simp only [S_len] at *; omega))) | ((with_reducible refine rv_I ?_); (first | (show (0 : Int) < _; (first | assumption | omega | decide | (simp only [S_len] at *; omega))) | exact .inr ⟨by decide, by decide⟩ | exact .inl ⟨by (first | assumption | omega | decide | (simp only [S_len] at *; omega)), by (first | assumption | omega | decide | (simp only [S_len] at *; omega))⟩ | exact .inr ⟨by (first | assumption | omega | decide | (simp only [S_len] at *; omega)), by (first | assumption | omega | decide | (simp only [S_len] at *; omega))⟩ | exact ⟨by decide, by decide, by decide⟩ | exact wide_div (b := 128) (by (first | assumption | omega | decide | (simp only [S_len] at *; omega))) (by (first | assumption | omega | decide | (simp only [S_len] at *; omega))) (by decide) (by decide)))))) | ((with_reducible apply et_B); (repeat' (first | ((with_reducible refine ev_pow10 ?_ ?_ ?_) <;> first | rfl | decide) | (with_reducible refine fun (_ : _ = true) => ?_) | (with_reducible refine fun (_ : _ = false) => ?_) | (with_reducible exact ev_c) | ((with_reducible apply ev_var); rfl) | (with_reducible apply ev_op) | (with_reducible apply ev_un) | (with_reducible apply ev_cb) | (with_reducible apply ea_cons) | (with_reducible apply ev_andV) | (with_reducible apply ev_orV) | (with_reducible apply ev_notV) | (with_reducible apply ev_if) | (with_reducible apply eo_some) | (with_reducible apply el_lst) | (with_reducible exact ea_nil) | (with_reducible exact rv_I0) | (with_reducible exact ru_neg) | (with_reducible exact rv_ltS) | (with_reducible exact rv_inC) | (with_reducible exact rv_notInC) | (with_reducible exact rc_intI) | (with_reducible exact rc_intB) | (with_reducible exact rc_min2) | (with_reducible exact rc_isStr) | (with_reducible exact eo_none) | (with_reducible exact rv_inSS) | (with_reducible exact rv_notInSS) | (with_reducible exact rv_ltSS) | (with_reducible exact rv_eqSS) | (with_reducible exact rv_eqII) | (with_reducible exact rv_neII) | (with_reducible exact rv_neSS) | ((with_reducible refine rc_lenSS ?_); (first | assumption | omega | decide | (simp only [S_len] at *; omega))) | ((with_reducible refine rc_lenStr ?_); (first | assumption | omega | decide | (simp only [S_len] at *; omega))) | ((with_reducible refine rv_catSS ?_); (first | assumption | omega | decide | (simp only [S_len] at *; omega))) | (with_reducible exact rv_eq rfl) | (with_reducible exact rv_ne rfl) | ((with_reducible refine rc_lenS ?_); (first | assumption | omega | decide | (simp only [S_len] at *; omega))) | ((with_reducible refine rc_lenL ?_); assumption) | ((with_reducible apply rv_ixL); assumption; rfl) | ((with_reducible refine rv_catS ?_); (first | assumption | omega | decide | (simp only [S_len] at *; omega))) | ((with_reducible refine rv_I ?_); (first | (show (0 : Int) < _; (first | assumption | omega | decide | (simp only [S_len] at *; omega))) | exact .inr ⟨by decide, by decide⟩ | exact .inl ⟨by (first | assumption | omega | decide | (simp only [S_len] at *; omega)), by (first | assumption | omega | decide | (simp only [S_len] at *; omega))⟩ | exact .inr ⟨by (first | assumption | omega | decide | (simp only [S_len] at *; omega)), by (first | assumption | omega | decide | (simp only [S_len] at *; omega))⟩ | exact ⟨by decide, by decide, by decide⟩ | exact wide_div (b := 128) (by (first | assumption | omega | decide | (simp only [S_len] at *; omega))) (by (first | assumption | omega | decide | (simp only [S_len] at *; omega))) (by decide) (by decide))))))) (fun hc _ _ => absurd (of_decide_eq_true hc) (by omega)) (fun _ X5 x5' => ?_)
        refine s_ret (ev_var rfl) fun X9 x9 => ?_
        have x := x5'.trans x9
        have hmem : (G.getD j [] ++ [(1 : Int)]) ∈ G.map fun row => row ++ [(1 : Int)] := List.mem_map.mpr ⟨_, row_mem hj, rfl⟩
        refine q m _ X9 ((x5.trans (ExB.of e68)).trans (ExB.of (e9.trans x))) ((b5.ex e68).ex (e9.trans x)) ((gdB_new (b5.ex e68) hm h9 hr9 hf9).ex x) ⟨by rw [hGm]; omega, fun row hr => ?_⟩ (isTb_row hmem (by rw [List.length_append, lw]; simp; omega))
        obtain ⟨r0, hr0, rfl⟩ := List.mem_map.mp hr
        rw [List.length_append, hw r0 hr0]
        simp
        omega
    have hd4 : d ≠ 4 := of_decide_eq_false hc4
    have hd5 : d = 5 := by omega
    have e68 := e67.trans e8
    refine q_when (b := decide (d = 5)) (by first | ((with_reducible apply et_test); (repeat' (first | ((with_reducible refine ev_pow10 ?_ ?_ ?_) <;> first | rfl | decide) | (with_reducible refine fun (_ : _ = true) => ?_) | (with_reducible refine fun (_ : _ = false) => ?_) | (with_reducible exact ev_c) | ((with_reducible apply ev_var); rfl) | (with_reducible apply ev_op) | (with_reducible apply ev_un) | (with_reducible apply ev_cb) | (with_reducible apply ea_cons) | (with_reducible apply ev_andV) | (with_reducible apply ev_orV) | (with_reducible apply ev_notV) | (with_reducible apply ev_if) | (with_reducible apply eo_some) | (with_reducible apply el_lst) | (with_reducible exact ea_nil) | (with_reducible exact rv_I0) | (with_reducible exact ru_neg) | (with_reducible exact rv_ltS) | (with_reducible exact rv_inC) | (with_reducible exact rv_notInC) | (with_reducible exact rc_intI) | (with_reducible exact rc_intB) | (with_reducible exact rc_min2) | (with_reducible exact rc_isStr) | (with_reducible exact eo_none) | (with_reducible exact rv_inSS) | (with_reducible exact rv_notInSS) | (with_reducible exact rv_ltSS) | (with_reducible exact rv_eqSS) | (with_reducible exact rv_eqII) | (with_reducible exact rv_neII) | (with_reducible exact rv_neSS) | ((with_reducible refine rc_lenSS ?_); (first | assumption | omega | decide | (simp only [S_len] at *; omega))) | ((with_reducible refine rc_lenStr ?_); (first | assumption | omega | decide | (simp only [S_len] at *; omega))) | ((with_reducible refine rv_catSS ?_); (first | assumption | omega | decide | (simp only [S_len] at *; omega))) | (with_reducible exact rv_eq rfl) | (with_reducible exact rv_ne rfl) | ((with_reducible refine rc_lenS ?_); (first | assumption | omega | decide | (simp only [S_len] at *; omega))) | ((with_reducible refine rc_lenL ?_); assumption) | ((with_reducible apply rv_ixL); assumption; rfl) | ((with_reducible refine rv_catS ?_); (first | assumption | omega | decide | (simp only [S_len] at *; omega))) | ((with_reducible refine rv_I ?_); (first | (show (0 : Int) < _; (first | assumption | omega | decide | (simp only [S_len] at *; omega))) | exact .inr ⟨by decide, by decide⟩ | exact .inl ⟨by (first | assumption | omega | decide | (simp only [S_len] at *; omega)), by (first | assumption | omega | decide | (simp only [S_len] at *; omega))⟩ | exact .inr ⟨by (first | assumption | omega | decide | (simp only [S_len] at *; omega)), by (first | assumption | omega | decide | (simp only [S_len] at *; omega))⟩ | exact ⟨by decide, by decide, by decide⟩ | exact wide_div (b := 128) (by (first | assumption | omega | decide | (simp only [S_len] at *; omega))) (by (first | assumption | omega | decide | (simp only [S_len] at *; omega))) (by decide) (by decide)))))) | ((with_reducible apply et_B); (repeat' (first | ((with_reducible refine ev_pow10 ?_ ?_ ?_) <;> first | rfl | decide) | (with_reducible refine fun (_ : _ = true) => ?_) | (with_reducible refine fun (_ : _ = false) => ?_) | (with_reducible exact ev_c) | ((with_reducible apply ev_var); rfl) | (with_reducible apply ev_op) | (with_reducible apply ev_un) | (with_reducible apply ev_cb) | (with_reducible apply ea_cons) | (with_reducible apply ev_andV) | (with_reducible apply ev_orV) | (with_reducible apply ev_notV) | (with_reducible apply ev_if) | (with_reducible apply eo_some) | (with_reducible apply el_lst) | (with_reducible exact ea_nil) | (with_reducible exact rv_I0) | (with_reducible exact ru_neg) | (with_reducible exact rv_ltS) | (with_reducible exact rv_inC) | (with_reducible exact rv_notInC) | (with_reducible exact rc_intI) | (with_reducible exact rc_intB) | (with_reducible exact rc_min2) | (with_reducible exact rc_isStr) | (with_reducible exact eo_none) | (with_reducible exact rv_inSS) | (with_reducible exact rv_notInSS) | (with_reducible exact rv_ltSS) | (with_reducible exact rv_eqSS) | (with_reducible exact rv_eqII) | (with_reducible exact rv_neII) | (with_reducible exact rv_neSS) | ((with_reducible refine rc_lenSS ?_); (first | assumption | omega | decide | (simp only [S_len] at *; omega))) | ((with_reducible refine rc_lenStr ?_); (first | assumption | omega | decide | (simp only [S_len] at *; omega))) | ((with_reducible refine rv_catSS ?_); (first | assumption | omega | decide | (simp only [S_len] at *; omega))) | (with_reducible exact rv_eq rfl) | (with_reducible exact rv_ne rfl) | ((with_reducible refine rc_lenS ?_); (first | assumption | omega | decide | (simp only [S_len] at *; omega))) | ((with_reducible refine rc_lenL ?_); assumption) | ((with_reducible apply rv_ixL); assumption; rfl) | ((with_reducible refine rv_catS ?_); (first | assumption | omega | decide | (simp only [S_len] at *; omega))) | ((with_reducible refine rv_I ?_); (first | (show (0 : Int) < _; (first | assumption | omega | decide | (simp only [S_len] at *; omega))) | exact .inr ⟨by decide, by decide⟩ | exact .inl ⟨by (first | assumption | omega | decide | (simp only [S_len] at *; omega)), by (first | assumption | omega | decide | (simp only [S_len] at *; omega))⟩ | exact .inr ⟨by (first | assumption | omega | decide | (simp only [S_len] at *; omega)), by (first | assumption | omega | decide | (simp only [S_len] at *; omega))⟩ | exact ⟨by decide, by decide, by decide⟩ | exact wide_div (b := 128) (by (first | assumption | omega | decide | (simp only [S_len] at *; omega))) (by (first | assumption | omega | decide | (simp only [S_len] at *; omega))) (by decide) (by decide))))))) (fun hc H9 e9 => ?_) (fun hc5 _ _ => absurd hd5 (of_decide_eq_false hc5))
    have e69 := e68.trans e9
    refine s_setRB (b := b) (l := c) (rs := rs) (j := j) (Pr := fun row => row.length ≤ 1000 ∧ (row.length : Int) ≠ p) (b5.ex e69) (e69 _ _ h5) hcb (rb_of (row := []) (fun H10 e10 => el_lst ea_nil (by simp)) ⟨by simp, by simp; omega⟩) (fun H => ev_var rfl) (fun H => ev_var rfl) hjr fun m row H10 hm e10 b10 h10 hrow => ?_
    dsimp only
    exact s_ret (ev_var rfl) fun X9 x9 => fin m row H10 (fresh_back e69 hm) ((ExB.of e69).trans e10) b10 h10 hrow.1 hrow.2 X9 x9
end
end K54
namespace K54
open PySem PySem.Spec PyProof.Rows L2 Lc Evl
section
variable {P : Program} {w : World} {K : PySem.W.Frag} {mg : Str → Option Value} {base : Heap}
/-! ### lists of drawn numbers -/
def EvAI (b : Addr) (ta : TA) (σ : L2.St) (Pd : Int → Prop) (n : Nat) : Prop := ∀ H1, Bx H1 b → ∀ Q : List V → Hp → Prop, (∀ (ds : List Int) H2, ds.length = n → (∀ d ∈ ds, Pd d) → ExB b H1 H2 → Bx H2 b → Q (ds.map V.int) H2) → ta σ H1 Q
theorem eai_nil {b : Addr} {σ : L2.St} {Pd : Int → Prop} : EvAI b tNil σ Pd 0 := fun H1 hb Q q => q [] H1 rfl (by simp) (ExB.refl H1) hb
theorem eai_cons {b : Addr} {σ : L2.St} {te : TE} {tr : TA} {Pa Pd : Int → Prop} {n : Nat} (h : EvI b te σ Pa) (hp : ∀ d, Pa d → Pd d) (hr : EvAI b tr σ Pd n) : EvAI b (tCons te tr) σ Pd (n + 1) := fun H1 hb Q q =>
  h H1 hb _ fun d H2 hd e2 b2 => hr H2 b2 _ fun ds H3 hl hds e3 b3 => q (d :: ds) H3 (by simp [hl]) (fun x hx => by
    rcases List.mem_cons.mp hx with rfl | hx
    · exact hp _ hd
    · exact hds x hx) (e2.trans e3) b3
theorem q_asgIL {σ : L2.St} {H : Hp} {b : Addr} {ta : TA} {Pd : Int → Prop} {n i : Nat} {D : Ends} {tz : TS} (h : EvAI b ta σ Pd n) (hn : n ≤ 1000) (hb : Bx H b) (k : ∀ p (ds : List Int) H2, H p = none → ds.length = n → (∀ d ∈ ds, Pd d) → ExB b H H2 → Bx H2 b → H2 p = some (.lst (ds.map V.int)) → tz D (σ.set i (some (.ref p))) H2) : tSeq (tAsg (tLst ta) (gName i)) tz D σ H :=
  h H hb _ fun ds H2 hl hd e2 b2 => ⟨sz_of (by rw [List.length_map]; omega), fun p hp => k p ds _ (fresh_b e2 b2 hp) hl hd (e2.trans (ExB.of (Ex.new hp))) (b2.ex (Ex.new hp)) upd_same⟩
def sp_law_bad_arguments (K : PySem.W.Frag) : Sp := fun vs H Q _ => ∃ (b g : Addr) (p m : Int) (G : List (List Int)), vs = [.ref b, .int p, .int m, .ref g] ∧ Bx H b ∧ GdB b H g G ∧ part p m G = none ∧ ∀ H', ExB b H H' → Bx H' b → Q (.bl true) H'
theorem ok_law_bad_arguments (T : Tx K mg w) : OkD P w K mg base 7 d_law_bad_arguments ps_law_bad_arguments (sp_law_bad_arguments K) := by
  refine (h_law_bad_arguments T).ok sc_law_bad_arguments (fun vs H Q E h => ?_) (fun cdv A outer s H vs Q E hr h => ⟨_,
      (pss_cons (ps_set (i := 4) sc_law_bad_arguments.nd rfl (Or.inl rfl) (pe_op op_add pe_int (pe_call (ok_law_take (P := P) (w := w) (base := base) T) (hr.mono (by decide)) (by rfl) (m_law_take T) (k_law_take T) (b_law_take T) .nil passN (pa_cons (pv 0) (pa_cons pe_int pa_nil)))))
      (pss_cons (ps_set (i := 5) sc_law_bad_arguments.nd rfl (Or.inl rfl) pe_str)
      (Evl.pss_cut (ps_if (pt_cmpR op_eq (pe_op op_fdivW (pv 4) pe_int) pe_int (nomark _)) (pss_one (ps_set (i := 3) sc_law_bad_arguments.nd rfl (Or.inl rfl) (pe_call (ok_law_bad_grid (P := P) (w := w) (base := base) T) (hr.mono (by decide)) (by rfl) (m_law_bad_grid T) (k_law_bad_grid T) (b_law_bad_grid T) .nil passN (pa_cons (pv 0) (pa_cons (pv 1) (pa_cons (pv 3) pa_nil)))))) pss_nil)
      (Evl.pss_cut (ps_if (pt_cmpR op_eq (pe_op op_mod (pe_callTy call_int1 (by rfl) (m_int T) (by decide +kernel) (pa_cons (pe_op op_fdivW (pv 4) pe_int) pa_nil)) pe_int) pe_int (nomark _)) (pss_cons (ps_set (i := 7) sc_law_bad_arguments.nd rfl (Or.inl rfl) (pe_lst (pa_cons pe_int (pa_cons (pe_un un_neg pe_int) (pa_cons pe_int (pa_cons (pe_op op_add pe_int (pe_call (ok_law_take (P := P) (w := w) (base := base) T) (hr.mono (by decide)) (by rfl) (m_law_take T) (k_law_take T) (b_law_take T) .nil passN (pa_cons (pv 0) (pa_cons (pe_op op_pow pe_int pe_int) pa_nil)))) (pa_cons (pe_op op_sub (pe_un un_neg pe_int) (pe_call (ok_law_take (P := P) (w := w) (base := base) T) (hr.mono (by decide)) (by rfl) (m_law_take T) (k_law_take T) (b_law_take T) .nil passN (pa_cons (pv 0) (pa_cons pe_int pa_nil)))) (pa_cons (pe_op op_mul pe_int pe_int) pa_nil))))))))
      (pss_cons (ps_set (i := 2) sc_law_bad_arguments.nd rfl (Or.inl rfl) (pe_ix ix_list (pv 7) (pe_call (ok_law_take (P := P) (w := w) (base := base) T) (hr.mono (by decide)) (by rfl) (m_law_take T) (k_law_take T) (b_law_take T) .nil passN (pa_cons (pv 0) (pa_cons pe_int pa_nil))) (fun _ _ => rfl)))
      (pss_one (ps_set (i := 5) sc_law_bad_arguments.nd rfl (Or.inl rfl) pe_str)))) pss_nil)
      (Evl.pss_cut (ps_if (pt_cmpR op_eq (pe_op op_mod (pe_callTy call_int1 (by rfl) (m_int T) (by decide +kernel) (pa_cons (pv 4) pa_nil)) pe_int) pe_int (nomark _)) (pss_cons (ps_set (i := 7) sc_law_bad_arguments.nd rfl (Or.inl rfl) (pe_lst (pa_cons pe_int (pa_cons pe_int (pa_cons (pe_un un_neg pe_int) (pa_cons (pe_op op_add pe_int (pv 1)) (pa_cons (pe_op op_add pe_int (pe_call (ok_law_take (P := P) (w := w) (base := base) T) (hr.mono (by decide)) (by rfl) (m_law_take T) (k_law_take T) (b_law_take T) .nil passN (pa_cons (pv 0) (pa_cons (pe_op op_pow pe_int pe_int) pa_nil)))) (pa_cons (pe_op op_sub (pe_un un_neg pe_int) (pe_call (ok_law_take (P := P) (w := w) (base := base) T) (hr.mono (by decide)) (by rfl) (m_law_take T) (k_law_take T) (b_law_take T) .nil passN (pa_cons (pv 0) (pa_cons (pe_op op_pow pe_int pe_int) pa_nil)))) (pa_cons (pe_op op_pow pe_int pe_int) pa_nil)))))))))
      (pss_cons (ps_set (i := 1) sc_law_bad_arguments.nd rfl (Or.inl rfl) (pe_ix ix_list (pv 7) (pe_call (ok_law_take (P := P) (w := w) (base := base) T) (hr.mono (by decide)) (by rfl) (m_law_take T) (k_law_take T) (b_law_take T) .nil passN (pa_cons (pv 0) (pa_cons pe_int pa_nil))) (fun _ _ => rfl)))
      (pss_one (ps_set (i := 5) sc_law_bad_arguments.nd rfl (Or.inl rfl) pe_str)))) pss_nil)
      (pss_cons (ps_set (i := 6) sc_law_bad_arguments.nd rfl (Or.inl rfl) (pe_call (ok_law_copy (P := P) (w := w) (base := base) T) (hr.mono (by decide)) (by rfl) (m_law_copy T) (k_law_copy T) (b_law_copy T) .nil passN (pa_cons (pv 3) pa_nil)))
      (pss_one (ps_ret (pe_and (pe_call (ok_law_refuses (P := P) (w := w) (base := base) T) (hr.mono (by decide)) (by rfl) (m_law_refuses T) (k_law_refuses T) (b_law_refuses T) .nil passN (pa_cons (pv 1) (pa_cons (pv 2) (pa_cons (pv 3) (pa_cons (pv 5) pa_nil))))) (pe_one (pe_cmpR (op_eqD hr.units) (pv 3) (pv 6) (nomark _)))))))))))), ?_⟩)
  · obtain ⟨b, g, p, m, G, rfl, _⟩ := h
    rfl
  · obtain ⟨b, g, p, m, G, rfl, hb, hg, hpn, q⟩ := h
    obtain ⟨w1, w2, w3, w4, w5⟩ := part_w hpn
    have hsm := sm_of hpn
    refine q_asgI (Pd := fun f => 1 ≤ f ∧ f < 8) (ei_op ei_c (ei_take (many := 7) rfl (fun H => ev_c) (by decide) (by decide)) fun x y hx hy => by subst hx; omega) hb fun fl H1 hfl e1 b1 => ?_
    refine q_asg ev_c fun H2 e2 => ?_
    have x2 := e1.trans (ExB.of e2)
    have b2 := b1.ex e2
    refine q_cut (M := fun σ' H' => ∃ (g' : Addr) (G' : List (List Int)), σ' = [some (.ref b), some (.int p), some (.int m), some (.ref g'), some (.int fl), some (.str "table"), none, none] ∧ ExB b H H' ∧ Bx H' b ∧ GdB b H' g' G' ∧ Sm G' ∧ (fl / 4 = 1 → isTb G' p = false)) ?_ ?_
    · refine s_when (b := decide (fl / 4 = 1)) (by first | ((with_reducible apply et_test); (repeat' (first | ((with_reducible refine ev_pow10 ?_ ?_ ?_) <;> first | rfl | decide) | (with_reducible refine fun (_ : _ = true) => ?_) | (with_reducible refine fun (_ : _ = false) => ?_) | (with_reducible exact ev_c) | ((with_reducible apply ev_var); rfl) | (with_reducible apply ev_op) | (with_reducible apply ev_un) | (with_reducible apply ev_cb) | (with_reducible apply ea_cons) | (with_reducible apply ev_andV) | (with_reducible apply ev_orV) | (with_reducible apply ev_notV) | (with_reducible apply ev_if) | (with_reducible apply eo_some) | (with_reducible apply el_lst) | (with_reducible exact ea_nil) | (with_reducible exact rv_I0) | (with_reducible exact ru_neg) | (with_reducible exact rv_ltS) | (with_reducible exact rv_inC) | (with_reducible exact rv_notInC) | (with_reducible exact rc_intI) | (with_reducible exact rc_intB) | (with_reducible exact rc_min2) | (with_reducible exact rc_isStr) | (with_reducible exact eo_none) | (with_reducible exact rv_inSS) | (with_reducible exact rv_notInSS) | (with_reducible exact rv_ltSS) | (with_reducible exact rv_eqSS) | (with_reducible exact rv_eqII) | (with_reducible exact rv_neII) | (with_reducible exact rv_neSS) | ((with_reducible refine rc_lenSS ?_); (first | assumption | omega | decide | (simp only [S_len] at *; omega))) | ((with_reducible refine rc_lenStr ?_); (first | assumption | omega | decide | (simp only [S_len] at *; omega))) | ((with_reducible refine rv_catSS ?_); (first | assumption | omega | decide | (simp only [S_len] at *; omega))) | (with_reducible exact rv_eq rfl) | (with_reducible exact rv_ne rfl) | ((with_reducible refine rc_lenS ?_); (first | assumption | omega | decide | (simp only [S_len] at *; omega))) | ((with_reducible refine rc_lenL ?_); assumption) | ((with_reducible apply rv_ixL); assumption; rfl) | ((with_reducible refine rv_catS ?_); (first | assumption | omega | decide | (simp only [S_len] at *; omega))) | ((with_reducible refine rv_I ?_); (first | (show (0 : Int) < _; (first | assumption | omega | decide | (simp only [S_len] at *; omega))) | exact .inr ⟨by decide, by decide⟩ | exact .inl ⟨by (first | assumption | omega | decide | (simp only [S_len] at *; omega)), by (first | assumption | omega | decide | (simp only [S_len] at *; omega))⟩ | exact .inr ⟨by (first | assumption | omega | decide | (simp only [S_len] at *; omega)), by (first | assumption | omega | decide | (simp only [S_len] at *; omega))⟩ | exact ⟨by decide, by decide, by decide⟩ | exact wide_div (b := 128) (by (first | assumption | omega | decide | (simp only [S_len] at *; omega))) (by (first | assumption | omega | decide | (simp only [S_len] at *; omega))) (by decide) (by decide)))))) | ((with_reducible apply et_B); (repeat' (first | ((with_reducible refine ev_pow10 ?_ ?_ ?_) <;> first | rfl | decide) | (with_reducible refine fun (_ : _ = true) => ?_) | (with_reducible refine fun (_ : _ = false) => ?_) | (with_reducible exact ev_c) | ((with_reducible apply ev_var); rfl) | (with_reducible apply ev_op) | (with_reducible apply ev_un) | (with_reducible apply ev_cb) | (with_reducible apply ea_cons) | (with_reducible apply ev_andV) | (with_reducible apply ev_orV) | (with_reducible apply ev_notV) | (with_reducible apply ev_if) | (with_reducible apply eo_some) | (with_reducible apply el_lst) | (with_reducible exact ea_nil) | (with_reducible exact rv_I0) | (with_reducible exact ru_neg) | (with_reducible exact rv_ltS) | (with_reducible exact rv_inC) | (with_reducible exact rv_notInC) | (with_reducible exact rc_intI) | (with_reducible exact rc_intB) | (with_reducible exact rc_min2) | (with_reducible exact rc_isStr) | (with_reducible exact eo_none) | (with_reducible exact rv_inSS) | (with_reducible exact rv_notInSS) | (with_reducible exact rv_ltSS) | (with_reducible exact rv_eqSS) | (with_reducible exact rv_eqII) | (with_reducible exact rv_neII) | (with_reducible exact rv_neSS) | ((with_reducible refine rc_lenSS ?_); (first | assumption | omega | decide | (simp only [S_len] at *; omega))) | ((with_reducible refine rc_lenStr ?_); (first | assumption | omega | decide | (simp only [S_len] at *; omega))) | ((with_reducible refine rv_catSS ?_); (first | assumption | omega | decide | (simp only [S_len] at *; omega))) | (with_reducible exact rv_eq rfl) | (with_reducible exact rv_ne rfl) | ((with_reducible refine rc_lenS ?_); (first | assumption | omega | decide | (simp only [S_len] at *; omega))) | ((with_reducible refine rc_lenL ?_); assumption) | ((with_reducible apply rv_ixL); assumption; rfl) | ((with_reducible refine rv_catS ?_); (first | assumption | omega | decide | (simp only [S_len] at *; omega))) | ((with_reducible refine rv_I ?_); (first | (show (0 : Int) < _; (first | assumption | omega | decide | (simp only [S_len] at *; omega))) | exact .inr ⟨by decide, by decide⟩ | exact .inl ⟨by (first | assumption | omega | decide | (simp only [S_len] at *; omega)), by (first | assumption | omega | decide | (simp only [S_len] at *; omega))⟩ | exact .inr ⟨by (first | assumption | omega | decide | (simp only [S_len] at *; omega)), by (first | assumption | omega | decide | (simp only [S_len] at *; omega))⟩ | exact ⟨by decide, by decide, by decide⟩ | exact wide_div (b := 128) (by (first | assumption | omega | decide | (simp only [S_len] at *; omega))) (by (first | assumption | omega | decide | (simp only [S_len] at *; omega))) (by decide) (by decide))))))) (fun hc H3 e3 => ?_) (fun hc H3 e3 => ?_)
      · refine asg_fst ?_
        refine cons_fst ⟨_, rfl, ?_⟩
        refine ⟨_, rfl, _, rfl, b, g, p, G, rfl, b2.ex e3, (hg.exB x2).ex e3, w4, w3, ⟨w1, w2⟩, fun g' G' H4 e4 b4 hg4 hs4 ht4 => ?_⟩
        exact ⟨g', G', rfl, (x2.trans (ExB.of e3)).trans e4, b4, hg4, hs4, fun _ => ht4⟩
      · exact ⟨g, G, rfl, x2.trans (ExB.of e3), b2.ex e3, (hg.exB x2).ex e3, hsm, fun z => absurd z (of_decide_eq_false hc)⟩
    rintro σ' H' ⟨g', G', rfl, x3, b3, hg3, hs3, ht3⟩
    refine q_cut (M := fun σ' H' => ∃ (m' : Int) (z : Str) (v6 : Option V), σ' = [some (.ref b), some (.int p), some (.int m'), some (.ref g'), some (.int fl), some (.str z), none, v6] ∧ ExB b H H' ∧ Bx H' b ∧ GdB b H' g' G' ∧ (fl / 2 % 2 = 1 → z = ("modulus" : Str) ∧ ¬ (m' = 0 ∨ (2 ≤ m' ∧ m' ≤ 97))) ∧ (¬ fl / 2 % 2 = 1 → z = ("table" : Str) ∧ m' = m)) ?_ ?_
    · refine s_when (b := decide (fl / 2 % 2 = 1)) (by first | ((with_reducible apply et_test); (repeat' (first | ((with_reducible refine ev_pow10 ?_ ?_ ?_) <;> first | rfl | decide) | (with_reducible refine fun (_ : _ = true) => ?_) | (with_reducible refine fun (_ : _ = false) => ?_) | (with_reducible exact ev_c) | ((with_reducible apply ev_var); rfl) | (with_reducible apply ev_op) | (with_reducible apply ev_un) | (with_reducible apply ev_cb) | (with_reducible apply ea_cons) | (with_reducible apply ev_andV) | (with_reducible apply ev_orV) | (with_reducible apply ev_notV) | (with_reducible apply ev_if) | (with_reducible apply eo_some) | (with_reducible apply el_lst) | (with_reducible exact ea_nil) | (with_reducible exact rv_I0) | (with_reducible exact ru_neg) | (with_reducible exact rv_ltS) | (with_reducible exact rv_inC) | (with_reducible exact rv_notInC) | (with_reducible exact rc_intI) | (with_reducible exact rc_intB) | (with_reducible exact rc_min2) | (with_reducible exact rc_isStr) | (with_reducible exact eo_none) | (with_reducible exact rv_inSS) | (with_reducible exact rv_notInSS) | (with_reducible exact rv_ltSS) | (with_reducible exact rv_eqSS) | (with_reducible exact rv_eqII) | (with_reducible exact rv_neII) | (with_reducible exact rv_neSS) | ((with_reducible refine rc_lenSS ?_); (first | assumption | omega | decide | (simp only [S_len] at *; omega))) | ((with_reducible refine rc_lenStr ?_); (first | assumption | omega | decide | (simp only [S_len] at *; omega))) | ((with_reducible refine rv_catSS ?_); (first | assumption | omega | decide | (simp only [S_len] at *; omega))) | (with_reducible exact rv_eq rfl) | (with_reducible exact rv_ne rfl) | ((with_reducible refine rc_lenS ?_); (first | assumption | omega | decide | (simp only [S_len] at *; omega))) | ((with_reducible refine rc_lenL ?_); assumption) | ((with_reducible apply rv_ixL); assumption; rfl) | ((with_reducible refine rv_catS ?_); (first | assumption | omega | decide | (simp only [S_len] at *; omega))) | ((with_reducible refine rv_I ?_); (first | (show (0 : Int) < _; (first | assumption | omega | decide | (simp only [S_len] at *; omega))) | exact .inr ⟨by decide, by decide⟩ | exact .inl ⟨by (first | assumption | omega | decide | (simp only [S_len] at *; omega)), by (first | assumption | omega | decide | (simp only [S_len] at *; omega))⟩ | exact .inr ⟨by (first | assumption | omega | decide | (simp only [S_len] at *; omega)), by (first | assumption | omega | decide | (simp only [S_len] at *; omega))⟩ | exact ⟨by decide, by decide, by decide⟩ | exact wide_div (b := 128) (by (first | assumption | omega | decide | (simp only [S_len] at *; omega))) (by (first | assumption | omega | decide | (simp only [S_len] at *; omega))) (by decide) (by decide)))))) | ((with_reducible apply et_B); (repeat' (first | ((with_reducible refine ev_pow10 ?_ ?_ ?_) <;> first | rfl | decide) | (with_reducible refine fun (_ : _ = true) => ?_) | (with_reducible refine fun (_ : _ = false) => ?_) | (with_reducible exact ev_c) | ((with_reducible apply ev_var); rfl) | (with_reducible apply ev_op) | (with_reducible apply ev_un) | (with_reducible apply ev_cb) | (with_reducible apply ea_cons) | (with_reducible apply ev_andV) | (with_reducible apply ev_orV) | (with_reducible apply ev_notV) | (with_reducible apply ev_if) | (with_reducible apply eo_some) | (with_reducible apply el_lst) | (with_reducible exact ea_nil) | (with_reducible exact rv_I0) | (with_reducible exact ru_neg) | (with_reducible exact rv_ltS) | (with_reducible exact rv_inC) | (with_reducible exact rv_notInC) | (with_reducible exact rc_intI) | (with_reducible exact rc_intB) | (with_reducible exact rc_min2) | (with_reducible exact rc_isStr) | (with_reducible exact eo_none) | (with_reducible exact rv_inSS) | (with_reducible exact rv_notInSS) | (with_reducible exact rv_ltSS) | (with_reducible exact rv_eqSS) | (with_reducible exact rv_eqII) | (with_reducible exact rv_neII) | (with_reducible exact rv_neSS) | ((with_reducible refine rc_lenSS ?_); (first | assumption | omega | decide | (simp only [S_len] at *; omega))) | ((with_reducible refine rc_lenStr ?_); (first | assumption | omega | decide | (simp only [S_len] at *; omega))) | ((with_reducible refine rv_catSS ?_); (first | assumption | omega | decide | (simp only [S_len] at *; omega))) | (with_reducible exact rv_eq rfl) | (with_reducible exact rv_ne rfl) | ((with_reducible refine rc_lenS ?_); (first | assumption | omega | decide | (simp only [S_len] at *; omega))) | ((with_reducible refine rc_lenL ?_); assumption) | ((with_reducible apply rv_ixL); assumption; rfl) | ((with_reducible refine rv_catS ?_); (first | assumption | omega | decide | (simp only [S_len] at *; omega))) | ((with_reducible refine rv_I ?_); (first | (show (0 : Int) < _; (first | assumption | omega | decide | (simp only [S_len] at *; omega))) | exact .inr ⟨by decide, by decide⟩ | exact .inl ⟨by (first | assumption | omega | decide | (simp only [S_len] at *; omega)), by (first | assumption | omega | decide | (simp only [S_len] at *; omega))⟩ | exact .inr ⟨by (first | assumption | omega | decide | (simp only [S_len] at *; omega)), by (first | assumption | omega | decide | (simp only [S_len] at *; omega))⟩ | exact ⟨by decide, by decide, by decide⟩ | exact wide_div (b := 128) (by (first | assumption | omega | decide | (simp only [S_len] at *; omega))) (by (first | assumption | omega | decide | (simp only [S_len] at *; omega))) (by decide) (by decide))))))) (fun hc H4 e4 => ?_) (fun hc H4 e4 => ?_)
      · refine q_asgIL (n := 6) (Pd := fun x => ¬ (x = 0 ∨ (2 ≤ x ∧ x ≤ 97))) (eai_cons ei_c (fun d hd => by subst hd; omega) (eai_cons (ei_is (n := -1) fun H => ev_un ev_c ru_neg) (fun d hd => by subst hd; omega) (eai_cons ei_c (fun d hd => by subst hd; omega) (eai_cons (Pa := fun x => 99 ≤ x) (ei_op ei_c (ei_take (many := 1000000) rfl (fun H => ev_pow10 (by decide) (by decide) (by decide)) (by decide) (by decide)) fun x y hx hy => by subst hx; omega) (fun d hd => by omega) (eai_cons (Pa := fun x => x ≤ -2) (ei_op (ei_is (n := -2) fun H => ev_un ev_c ru_neg) (ei_take (many := 97) rfl (fun H => ev_c) (by decide) (by decide)) fun x y hx hy => by subst hx; omega) (fun d hd => by omega) (eai_cons (Pa := (· = 194)) (ei_opC ei_c ei_c (fun x y hx hy => by subst hx; exact .inl ⟨by decide, by decide⟩) fun x y hx hy => by subst hx hy; decide) (fun d hd => by subst hd; omega) eai_nil)))))) (by decide) (b3.ex e4) fun wp ds H5 hwp hdl hds e5 b5 h5 => ?_
        have hwb : wp ≠ b := bx_ne (b3.ex e4) hwp
        refine q_first ?_
        refine op_fst ⟨_, rfl, ?_⟩
        refine sp_take_then (b := b) (many := 6) rfl b5 ev_c (by decide) (by decide) fun i H6 i0 i1 e6 b6 => ?_
        have hi : i.toNat < ds.length := by omega
        refine ⟨wp, ds.map V.int, i, .int (ds.getD i.toNat 0), rfl, rfl, sq_of (e6 _ _ hwb h5), atI_int i0 (by omega), ?_⟩
        dsimp only [gName]
        have x6 := (x3.trans (ExB.of e4)).trans (e5.trans e6)
        have hx := hds (ds.getD i.toNat 0) (by rw [List.getD_eq_getElem?_getD, List.getElem?_eq_getElem hi]; exact List.getElem_mem hi)
        refine s_asg ev_c fun H7 e7 => ?_
        exact ⟨_, _, _, rfl, x6.trans (ExB.of e7), b6.ex e7, (((hg3.ex e4).exB (e5.trans e6)).ex e7), fun _ => ⟨rfl, hx⟩, fun z => absurd (of_decide_eq_true hc) z⟩
      · exact ⟨m, _, none, rfl, x3.trans (ExB.of e4), b3.ex e4, hg3.ex e4, fun z => absurd z (of_decide_eq_false hc), fun _ => ⟨rfl, rfl⟩⟩
    rintro σ' H4 ⟨m', z, v6, rfl, x4, b4, hg4, hm1, hm2⟩
    refine q_cut (M := fun σ' H' => ∃ (p' : Int) (z' : Str) (v6 : Option V), σ' = [some (.ref b), some (.int p'), some (.int m'), some (.ref g'), some (.int fl), some (.str z'), none, v6] ∧ ExB b H H' ∧ Bx H' b ∧ GdB b H' g' G' ∧ part p' m' G' = some z') ?_ ?_
    · refine s_when (b := decide (fl % 2 = 1)) (by first | ((with_reducible apply et_test); (repeat' (first | ((with_reducible refine ev_pow10 ?_ ?_ ?_) <;> first | rfl | decide) | (with_reducible refine fun (_ : _ = true) => ?_) | (with_reducible refine fun (_ : _ = false) => ?_) | (with_reducible exact ev_c) | ((with_reducible apply ev_var); rfl) | (with_reducible apply ev_op) | (with_reducible apply ev_un) | (with_reducible apply ev_cb) | (with_reducible apply ea_cons) | (with_reducible apply ev_andV) | (with_reducible apply ev_orV) | (with_reducible apply ev_notV) | (with_reducible apply ev_if) | (with_reducible apply eo_some) | (with_reducible apply el_lst) | (with_reducible exact ea_nil) | (with_reducible exact rv_I0) | (with_reducible exact ru_neg) | (with_reducible exact rv_ltS) | (with_reducible exact rv_inC) | (with_reducible exact rv_notInC) | (with_reducible exact rc_intI) | (with_reducible exact rc_intB) | (with_reducible exact rc_min2) | (with_reducible exact rc_isStr) | (with_reducible exact eo_none) | (with_reducible exact rv_inSS) | (with_reducible exact rv_notInSS) | (with_reducible exact rv_ltSS) | (with_reducible exact rv_eqSS) | (with_reducible exact rv_eqII) | (with_reducible exact rv_neII) | (with_reducible exact rv_neSS) | ((with_reducible refine rc_lenSS ?_); (first | assumption | omega | decide | (simp only [S_len] at *; omega))) | ((with_reducible refine rc_lenStr ?_); (first | assumption | omega | decide | (simp only [S_len] at *; omega))) | ((with_reducible refine rv_catSS ?_); (first | assumption | omega | decide | (simp only [S_len] at *; omega))) | (with_reducible exact rv_eq rfl) | (with_reducible exact rv_ne rfl) | ((with_reducible refine rc_lenS ?_); (first | assumption | omega | decide | (simp only [S_len] at *; omega))) | ((with_reducible refine rc_lenL ?_); assumption) | ((with_reducible apply rv_ixL); assumption; rfl) | ((with_reducible refine rv_catS ?_); (first | assumption | omega | decide | (simp only [S_len] at *; omega))) | ((with_reducible refine rv_I ?_); (first | (show (0 : Int) < _; (first | assumption | omega | decide | (simp only [S_len] at *; omega))) | exact .inr ⟨by decide, by decide⟩ | exact .inl ⟨by (first | assumption | omega | decide | (simp only [S_len] at *; omega)), by (first | assumption | omega | decide | (simp only [S_len] at *; omega))⟩ | exact .inr ⟨by (first | assumption | omega | decide | (simp only [S_len] at *; omega)), by (first | assumption | omega | decide | (simp only [S_len] at *; omega))⟩ | exact ⟨by decide, by decide, by decide⟩ | exact wide_div (b := 128) (by (first | assumption | omega | decide | (simp only [S_len] at *; omega))) (by (first | assumption | omega | decide | (simp only [S_len] at *; omega))) (by decide) (by decide)))))) | ((with_reducible apply et_B); (repeat' (first | ((with_reducible refine ev_pow10 ?_ ?_ ?_) <;> first | rfl | decide) | (with_reducible refine fun (_ : _ = true) => ?_) | (with_reducible refine fun (_ : _ = false) => ?_) | (with_reducible exact ev_c) | ((with_reducible apply ev_var); rfl) | (with_reducible apply ev_op) | (with_reducible apply ev_un) | (with_reducible apply ev_cb) | (with_reducible apply ea_cons) | (with_reducible apply ev_andV) | (with_reducible apply ev_orV) | (with_reducible apply ev_notV) | (with_reducible apply ev_if) | (with_reducible apply eo_some) | (with_reducible apply el_lst) | (with_reducible exact ea_nil) | (with_reducible exact rv_I0) | (with_reducible exact ru_neg) | (with_reducible exact rv_ltS) | (with_reducible exact rv_inC) | (with_reducible exact rv_notInC) | (with_reducible exact rc_intI) | (with_reducible exact rc_intB) | (with_reducible exact rc_min2) | (with_reducible exact rc_isStr) | (with_reducible exact eo_none) | (with_reducible exact rv_inSS) | (with_reducible exact rv_notInSS) | (with_reducible exact rv_ltSS) | (with_reducible exact rv_eqSS) | (with_reducible exact rv_eqII) | (with_reducible exact rv_neII) | (with_reducible exact rv_neSS) | ((with_reducible refine rc_lenSS ?_); (first | assumption | omega | decide | (simp only [S_len] at *; omega))) | ((with_reducible refine rc_lenStr ?_); (first | assumption | omega | decide | (simp only [S_len] at *; omega))) | ((with_reducible refine rv_catSS ?_); (first | assumption | omega | decide | (simp only [S_len] at *; omega))) | (with_reducible exact rv_eq rfl) | (with_reducible exact rv_ne rfl) | ((with_reducible refine rc_lenS ?_); (first | assumption | omega | decide | (simp only [S_len] at *; omega))) | ((with_reducible refine rc_lenL ?_); assumption) | ((with_reducible apply rv_ixL); assumption; rfl) | ((with_reducible refine rv_catS ?_); (first | assumption | omega | decide | (simp only [S_len] at *; omega))) | ((with_reducible refine rv_I ?_); (first | (show (0 : Int) < _; (first | assumption | omega | decide | (simp only [S_len] at *; omega))) | exact .inr ⟨by decide, by decide⟩ | exact .inl ⟨by (first | assumption | omega | decide | (simp only [S_len] at *; omega)), by (first | assumption | omega | decide | (simp only [S_len] at *; omega))⟩ | exact .inr ⟨by (first | assumption | omega | decide | (simp only [S_len] at *; omega)), by (first | assumption | omega | decide | (simp only [S_len] at *; omega))⟩ | exact ⟨by decide, by decide, by decide⟩ | exact wide_div (b := 128) (by (first | assumption | omega | decide | (simp only [S_len] at *; omega))) (by (first | assumption | omega | decide | (simp only [S_len] at *; omega))) (by decide) (by decide))))))) (fun hc H5 e5 => ?_) (fun hc H5 e5 => ?_)
      · refine q_asgIL (n := 7) (Pd := fun x => ¬ (1 ≤ x ∧ x ≤ 12)) (eai_cons ei_c (fun d hd => by subst hd; omega) (eai_cons ei_c (fun d hd => by subst hd; omega) (eai_cons (ei_is (n := -1) fun H => ev_un ev_c ru_neg) (fun d hd => by subst hd; omega) (eai_cons (Pa := fun x => 13 ≤ x) (ei_op ei_c (ei_var rfl) fun x y hx hy => by subst hx hy; omega) (fun d hd => by omega) (eai_cons (Pa := fun x => 14 ≤ x) (ei_op ei_c (ei_take (many := 1000000) rfl (fun H => ev_pow10 (by decide) (by decide) (by decide)) (by decide) (by decide)) fun x y hx hy => by subst hx; omega) (fun d hd => by omega) (eai_cons (Pa := fun x => x ≤ -1) (ei_op (ei_is (n := -1) fun H => ev_un ev_c ru_neg) (ei_take (many := 1000000) rfl (fun H => ev_pow10 (by decide) (by decide) (by decide)) (by decide) (by decide)) fun x y hx hy => by subst hx; omega) (fun d hd => by omega) (eai_cons (Pa := (· = 100000000000000000000)) (ei_pow (by decide) (by decide) (by decide)) (fun d hd => by subst hd; omega) eai_nil))))))) (by decide) (b4.ex e5) fun wp ds H6 hwp hdl hds e6 b6 h6 => ?_
        have hwb : wp ≠ b := bx_ne (b4.ex e5) hwp
        refine q_first ?_
        refine op_fst ⟨_, rfl, ?_⟩
        refine sp_take_then (b := b) (many := 7) rfl b6 ev_c (by decide) (by decide) fun i H7 i0 i1 e7 b7 => ?_
        have hi : i.toNat < ds.length := by omega
        refine ⟨wp, ds.map V.int, i, .int (ds.getD i.toNat 0), rfl, rfl, sq_of (e7 _ _ hwb h6), atI_int i0 (by omega), ?_⟩
        dsimp only [gName]
        have x7 := (x4.trans (ExB.of e5)).trans (e6.trans e7)
        have hx := hds (ds.getD i.toNat 0) (by rw [List.getD_eq_getElem?_getD, List.getElem?_eq_getElem hi]; exact List.getElem_mem hi)
        refine s_asg ev_c fun H8 e8 => ?_
        exact ⟨_, _, _, rfl, x7.trans (ExB.of e8), b7.ex e8, (((hg4.ex e5).exB (e6.trans e7)).ex e8), part_p hx⟩
      · have h0 : ¬ fl % 2 = 1 := of_decide_eq_false hc
        refine ⟨p, z, v6, rfl, x4.trans (ExB.of e5), b4.ex e5, hg4.ex e5, ?_⟩
        by_cases h1 : fl / 2 % 2 = 1
        · obtain ⟨rfl, h2⟩ := hm1 h1
          exact part_m w4 h2
        · obtain ⟨rfl, rfl⟩ := hm2 h1
          exact part_t w4 w5 (ht3 (by omega))
    rintro σ' H5 ⟨p', z', v6', rfl, x5, b5, hg5, hp5⟩
    refine q_first ?_
    refine ⟨_, rfl, g', G', rfl, hg5.gd, hs3.1, fun c cs H6 hc e6 h6 hr6 hf6 _ => ?_⟩
    dsimp only [gName]
    obtain ⟨rs, k1, k2⟩ := (hg5.ex e6).gd
    refine s_ret (v := .bl (true && decide (G' = G'))) (ev_andV (ev_call (ea_cons (by exact ev_var rfl) (ea_cons (by exact ev_var rfl) (ea_cons (by exact ev_var rfl) (ea_cons (by exact ev_var rfl) ea_nil)))) fun H7 e7 Q7 q7 E7 => ⟨p', m', g', G', z', rfl, ((hg5.ex e6).ex e7).gd, hs3, hp5, q7⟩) fun _ => ev_op (by exact ev_var rfl) (by exact ev_var rfl) (rv_eqGL k1 k2 h6 hr6)) fun H7 e7 => ?_
    rw [decide_eq_true rfl]
    exact q H7 (x5.trans (ExB.of (e6.trans e7))) (b5.ex (e6.trans e7))
end
end K54
namespace K54
open PySem PySem.Spec PyProof.Rows L2 Lc Evl
section
variable {P : Program} {w : World} {K : PySem.W.Frag} {mg : Str → Option Value} {base : Heap}
/-! ### grids by their cells -/
def cl (F : List (List Int)) (k i : Nat) : Int := (F.getD k []).getD i 0
def gr (n m : Nat) (g : Nat → Nat → Int) : List (List Int) := (List.range n).map fun k => (List.range m).map fun i => g k i
theorem gr_len {n m : Nat} {g : Nat → Nat → Int} : (gr n m g).length = n := by simp [gr]
theorem gr_row {n m : Nat} {g : Nat → Nat → Int} {k : Nat} (hk : k < n) : (gr n m g).getD k [] = (List.range m).map fun i => g k i := by
  unfold gr
  rw [List.getD_eq_getElem?_getD, List.getElem?_map, List.getElem?_range hk]
  rfl
theorem gr_wd {n m : Nat} {g : Nat → Nat → Int} : Wd m (gr n m g) := fun row hr => by
  obtain ⟨k, _, rfl⟩ := List.mem_map.mp hr
  rw [List.length_map, List.length_range]
theorem gr_cl {n m : Nat} {g : Nat → Nat → Int} {k i : Nat} (hk : k < n) (hi : i < m) : cl (gr n m g) k i = g k i := by
  unfold cl
  rw [gr_row hk, List.getD_eq_getElem?_getD, List.getElem?_map, List.getElem?_range hi]
  rfl
theorem gr_congr {n m : Nat} {g g' : Nat → Nat → Int} (h : ∀ k i, k < n → i < m → g k i = g' k i) : gr n m g = gr n m g' := by
  unfold gr
  refine List.map_congr_left fun k hk => List.map_congr_left fun i hi => h k i (List.mem_range.mp hk) (List.mem_range.mp hi)
theorem gr_self {m : Nat} {F : List (List Int)} (h : Wd m F) : F = gr F.length m (cl F) := by
  apply List.ext_getElem
  · rw [gr_len]
  · intro k h1 h2
    have e := gr_row (n := F.length) (m := m) (g := cl F) h1
    rw [List.getD_eq_getElem?_getD, List.getElem?_eq_getElem h2] at e
    rw [show (gr F.length m (cl F))[k] = _ from e]
    have hl : F[k].length = m := h _ (List.getElem_mem h1)
    apply List.ext_getElem
    · rw [List.length_map, List.length_range, hl]
    · intro i h3 h4
      rw [List.getElem_map, List.getElem_range]
      unfold cl
      rw [List.getD_eq_getElem?_getD, List.getD_eq_getElem?_getD, List.getElem?_eq_getElem h1]
      show _ = (F[k][i]?).getD 0
      rw [List.getElem?_eq_getElem h3]
      rfl
theorem gr_red {n m : Nat} {b : Int} {g : Nat → Nat → Int} : red b (gr n m g) = gr n m fun k i => rem b (g k i) := by
  unfold red gr
  rw [List.map_map]
  refine List.map_congr_left fun k _ => ?_
  show ((List.range m).map fun i => g k i).map (rem b) = _
  rw [List.map_map]
  rfl
theorem red_len {b : Int} {F : List (List Int)} : (red b F).length = F.length := List.length_map _
theorem rem0 {b : Int} : rem b 0 = 0 := by
  unfold rem
  split
  · rfl
  · exact Int.zero_emod b
theorem cl_red {b : Int} {F : List (List Int)} {k i : Nat} : cl (red b F) k i = rem b (cl F k i) := by
  unfold cl red
  rw [List.getD_eq_getElem?_getD, List.getD_eq_getElem?_getD, List.getD_eq_getElem?_getD, List.getD_eq_getElem?_getD, List.getElem?_map]
  cases F[k]? with
  | none => exact rem0.symm
  | some row =>
    show ((row.map (rem b))[i]?).getD 0 = rem b ((row[i]?).getD 0)
    rw [List.getElem?_map]
    cases row[i]? with
    | none => exact rem0.symm
    | some x => rfl
theorem wd_red {m : Nat} {b : Int} {F : List (List Int)} (h : Wd m F) : Wd m (red b F) := fun row hr => by
  obtain ⟨r, h1, rfl⟩ := List.mem_map.mp hr
  rw [List.length_map]
  exact h r h1
theorem cmb_gr {m : Nat} {f : Int} {F G : List (List Int)} (h : Wd m F) : cmb f F G = gr F.length m fun k i => cl F k i + f * cl G k i := by
  unfold cmb gr
  refine List.map_congr_left fun k hk => ?_
  rw [h.at_ (List.mem_range.mp hk)]
  rfl
theorem mulG_gr {m : Nat} {f : Int} {F : List (List Int)} (h : Wd m F) : mulG f F = gr F.length m fun k i => f * cl F k i := by
  have e := gr_self h
  have h2 : mulG f (gr F.length m (cl F)) = gr F.length m fun k i => f * cl F k i := by
    unfold mulG gr
    rw [List.map_map]
    refine List.map_congr_left fun k _ => ?_
    show ((List.range m).map fun i => cl F k i).map (f * ·) = _
    rw [List.map_map]
    rfl
  rw [← h2, ← e]
/-! ### remainders -/
theorem rem_form (b x : Int) : ∃ k, rem b x = x + b * k := by
  unfold rem
  split
  · exact ⟨0, by omega⟩
  · refine ⟨-(x / b), ?_⟩
    have h := Int.emod_add_mul_ediv x b
    rw [Int.mul_neg]
    omega
theorem rem_eq {b u v k : Int} (h : u = v + b * k) : rem b u = rem b v := by
  subst h
  unfold rem
  split
  · rename_i h
    rw [h, Int.zero_mul, Int.add_zero]
  · exact Int.add_mul_emod_self_left v b k
theorem rem_add (b f x y : Int) : rem b (rem b x + f * rem b y) = rem b (x + f * y) := by
  obtain ⟨k, hk⟩ := rem_form b x
  obtain ⟨l, hl⟩ := rem_form b y
  refine rem_eq (k := k + f * l) ?_
  rw [hk, hl, Int.mul_add, Int.mul_add, Int.mul_left_comm f b l]
  omega
theorem rem_mul (b f x : Int) : rem b (f * rem b x) = rem b (f * x) := by
  obtain ⟨k, hk⟩ := rem_form b x
  refine rem_eq (k := f * k) ?_
  rw [hk, Int.mul_add, Int.mul_left_comm f b k]
theorem wS_form (b : Int) (G : List (List Int)) (m : Int) (l : List Nat) (st : Int) : ∀ n, ∃ k, wS (red b G) m l st n = wS G m l st n + b * k
  | 0 => ⟨0, by show (0 : Int) = 0 + b * 0; omega⟩
  | n + 1 => by
    obtain ⟨k, hk⟩ := wS_form b G m l st n
    show ∃ k, wS (red b G) m l st n + tm (red b G) m l st n = wS G m l st n + tm G m l st n + b * k
    unfold tm
    split
    · obtain ⟨j, hj⟩ := rem_form b (cl G (kd (l.getD n 0)).toNat ((st + (n : Int)) % m).toNat)
      have e := cl_red (b := b) (F := G) (k := (kd (l.getD n 0)).toNat) (i := ((st + (n : Int)) % m).toNat)
      refine ⟨k + j, ?_⟩
      show _ + cl (red b G) _ _ = _ + cl G _ _ + _
      rw [hk, e, hj, Int.mul_add]
      omega
    · exact ⟨k, by rw [hk]; omega⟩
theorem rem_wS (b : Int) (G : List (List Int)) (m : Int) (l : List Nat) (st : Int) (n : Nat) : rem b (wS (red b G) m l st n) = rem b (wS G m l st n) := by
  obtain ⟨k, hk⟩ := wS_form b G m l st n
  exact rem_eq hk
/-! ### tables joined -/
theorem cmb_red {m : Nat} {b f : Int} {F G : List (List Int)} (h : Wd m F) : red b (cmb f (red b F) (red b G)) = red b (gr F.length m fun k i => cl F k i + f * cl G k i) := by
  rw [cmb_gr (wd_red h), gr_red, gr_red, red_len]
  refine gr_congr fun k i _ _ => ?_
  rw [cl_red, cl_red]
  exact rem_add b f _ _
theorem mul_red {m : Nat} {b f : Int} {F : List (List Int)} (h : Wd m F) : red b (mulG f (red b F)) = red b (gr F.length m fun k i => f * cl F k i) := by
  rw [mulG_gr (wd_red h), gr_red, gr_red, red_len]
  refine gr_congr fun k i _ _ => ?_
  rw [cl_red]
  exact rem_mul b f _
theorem part_gr {p b : Int} {F G : List (List Int)} {m : Nat} (h1 : Wd m F) (h2 : Wd m G) (h : F.length = G.length) : part p b F = part p b G := by
  refine part_len ?_
  apply List.ext_getElem
  · rw [List.length_map, List.length_map, h]
  · intro k k1 k2
    rw [List.getElem_map, List.getElem_map, h1 _ (List.getElem_mem _), h2 _ (List.getElem_mem _)]
/-! ### what stays beside a box -/
theorem ex_new {H H1 H2 : Hp} {b : Addr} (hb : H b = none) (e : Ex H H1) (e2 : ExB b H1 H2) : Ex H H2 := fun a o ha => e2 a o (fun z => by rw [z, hb] at ha; cases ha) (e a o ha)
theorem Wt.exB {H H' : Hp} {b o : Addr} {p m : Int} {T : List (List Int)} (hb : Bx H b) (h : Wt K H o p m T) (e : ExB b H H') : Wt K H' o p m T := by
  obtain ⟨i, j, k, hb⟩ := hb
  obtain ⟨h0, dx, t, rs, h1, h2, h3⟩ := h
  refine ⟨h0, dx, t, rs, e _ _ (fun z => ?_) h1, e _ _ (fun z => ?_) h2, h3.len, fun k hk => e _ _ (fun z => ?_) (h3.row k hk)⟩
  · rw [z, hb] at h1
    cases h1
  · rw [z, hb] at h2
    cases h2
  · have := h3.row k hk
    rw [z, hb] at this
    cases this
/-! ### comprehensions over the cells -/
theorem ev_cellG {σ : L2.St} {H : Hp} {tg tk ti : TE} {g : Addr} {F : List (List Int)} {k i : Nat} (h1 : Ev tg σ H (.ref g)) (hg : Gd H g F) (h2 : Ev tk σ H (.int (k : Int))) (h3 : Ev ti σ H (.int (i : Int))) (hk : k < F.length) (hi : i < (F.getD k []).length) : Ev (tOp (rIxL K) (tOp (rIxL K) tg tk) ti) σ H (.int (cl F k i)) := by
  obtain ⟨rs, k1, k2⟩ := hg
  have r1 := rv_row (K := K) (i := (k : Int)) k1 k2 (by omega) (by omega)
  have r2 := rv_cellL (K := K) (i := (k : Int)) (j := (i : Int)) k2 (by omega) (by omega) (by omega) (by rw [Int.toNat_natCast]; omega)
  rw [Int.toNat_natCast, Int.toNat_natCast] at r2
  rw [Int.toNat_natCast] at r1
  exact ev_op (ev_op h1 h2 r1) h3 r2
theorem eg_gr {σ : L2.St} {H : Hp} {tn tm te : TE} {n m j j2 : Nat} {vs vs2 : List Nat} {g : Nat → Nat → Int} (hn : Ev tn σ H (.int (n : Int))) (hz : n ≤ 1000) (hz2 : m ≤ 1000) (hw : ∀ x, wipe ((wipe σ vs).set j (some x)) vs = wipe σ vs)
    (hm : ∀ (k : Nat) H1, Ex H H1 → k < n → Ev tm ((wipe σ vs).set j (some (.int (k : Int)))) H1 (.int (m : Int))) (hw2 : ∀ y x, wipe ((wipe ((wipe σ vs).set j (some y)) vs2).set j2 (some x)) vs2 = wipe ((wipe σ vs).set j (some y)) vs2)
    (he : ∀ (k i : Nat) H1, Ex H H1 → k < n → i < m → Ev te ((wipe ((wipe σ vs).set j (some (.int (k : Int)))) vs2).set j2 (some (.int (i : Int)))) H1 (.int (g k i))) :
    EvG .lst (tLc (iRng1 (tCons tn tNil)) (gName j) tYes (tLc (iRng1 (tCons tm tNil)) (gName j2) tYes te vs2) vs) σ H (gr n m g) := by
  refine eg_R1 (by rw [gr_len]; exact ea_cons hn ea_nil) (by rw [gr_len]; omega) hw fun k H1 e1 hk => ?_
  rw [gr_len] at hk
  have h := el_lcR1 (σ := (wipe σ vs).set j (some (.int (k : Int)))) (H := H1) (ta := tCons tm tNil) (j := j2) (vs := vs2) (n := (m : Int)) (t := tYes) (te := te) (fun _ => true) (fun i => .int (g k i)) (ea_cons (hm k H1 e1 hk) ea_nil) (by omega) (hw2 _) (fun i H2 _ _ => et_yes) (fun i H2 e2 hi _ => he k i H2 (e1.trans e2) hk (by omega))
  rw [given_all, Int.toNat_natCast] at h
  rw [gr_row hk]
  unfold EvN
  rw [List.map_map]
  exact h
end
end K54
namespace K54
open PySem PySem.Spec PyProof.Rows L2 Lc Evl
section
variable {P : Program} {w : World} {K : PySem.W.Frag} {mg : Str → Option Value} {base : Heap}
/-! ### expressions whose value is weights -/
theorem st_is {t : TS} {D : Ends} {σ σ' : L2.St} {H : Hp} (e : σ = σ') (h : t D σ' H) : t D σ H := e ▸ h
def EvW (K : PySem.W.Frag) (te : TE) (σ : L2.St) (H : Hp) (p b : Int) (T : List (List Int)) : Prop := ∀ H1, Ex H H1 → ∀ Q : VK, (∀ o H2, Ex H1 H2 → Wt K H2 o p b T → Q (.ref o) H2) → te σ H1 Q
theorem ew_var {σ : L2.St} {H : Hp} {i : Nat} {o : Addr} {p b : Int} {T : List (List Int)} (h : σ[i]? = some (some (.ref o))) (hw : Wt K H o p b T) : EvW K (tVar i) σ H p b T := fun H1 e Q q => ⟨_, h, q o H1 (Ex.refl H1) (hw.ex e)⟩
theorem ew_mk {σ : L2.St} {H : Hp} {ta : TA} {p b : Int} {G : List (List Int)} (ha : ∀ H1, Ex H H1 → ∀ Q' : List V → Hp → Prop, (∀ t H2, Ex H1 H2 → Tb H2 t G → Q' [.int p, .int b, .ref t] H2) → ta σ H1 Q') (hpn : part p b G = none) : EvW K (tMake (cW K) (sp_Weights_init K) [] E0 ta) σ H p b (red b G) := fun H1 e Q q =>
  ha H1 e _ fun t H2 e2 ht x dx hx hd hne => mk_W (Q := Q) hx hd hne ht (sm_of hpn) (fun _ H3 e3 hw => q x H3 (e2.trans e3) hw) fun z hz => by rw [hpn] at hz; cases hz
theorem unl_no {p b : Int} {F G : List (List Int)} (h : F.length = G.length) : unl p b p b F G = none := by
  unfold unl
  rw [if_neg (not_not_intro rfl), if_neg (not_not_intro rfl), if_neg (not_not_intro h)]
theorem Wt.ins {H : Hp} {o : Addr} {p b : Int} {T : List (List Int)} (h : Wt K H o p b T) : ∃ dx t, H o = some (.ins (cW K) dx (WF p b t)) := by
  obtain ⟨_, dx, t, rs, h, _⟩ := h
  exact ⟨dx, t, h⟩
theorem ew_add {σ : L2.St} {H : Hp} {ta tb : TE} {p b : Int} {m : Nat} {F G : List (List Int)} (ha : EvW K ta σ H p b (red b F)) (hb : EvW K tb σ H p b (red b G)) (hm : Wd m F) (hl : F.length = G.length) :
    EvW K (tOp (rBinOwn (cW K) (sp_Weights_add K) E0) ta tb) σ H p b (red b (gr F.length m fun k i => cl F k i + cl G k i)) := fun H1 e Q q =>
  ha H1 e _ fun o H2 e2 w1 => hb H2 (e.trans e2) _ fun o2 H3 e3 w2 => by
    obtain ⟨dx, t, i1⟩ := (w1.ex e3).ins
    obtain ⟨dy, t2, i2⟩ := w2.ins
    refine ⟨o, dx, _, o2, dy, _, rfl, i1, rfl, i2, o, o2, p, b, p, b, red b F, red b G, rfl, w1.ex e3, w2, fun _ x H4 hx e4 hw => ⟨⟨x, rfl⟩, ?_⟩, fun z hz => by rw [unl_no (by rw [red_len, red_len, hl])] at hz; cases hz⟩
    rw [cmb_red hm] at hw
    refine q x H4 ((e2.trans e3).trans e4) ?_
    have e5 : (gr F.length m fun k i => cl F k i + 1 * cl G k i) = gr F.length m fun k i => cl F k i + cl G k i := gr_congr fun k i _ _ => by omega
    rw [e5] at hw
    exact hw
theorem ew_sub {σ : L2.St} {H : Hp} {ta tb : TE} {p b : Int} {m : Nat} {F G : List (List Int)} (ha : EvW K ta σ H p b (red b F)) (hb : EvW K tb σ H p b (red b G)) (hm : Wd m F) (hl : F.length = G.length) :
    EvW K (tOp (rBinOwn (cW K) (sp_Weights_sub K) E0) ta tb) σ H p b (red b (gr F.length m fun k i => cl F k i - cl G k i)) := fun H1 e Q q =>
  ha H1 e _ fun o H2 e2 w1 => hb H2 (e.trans e2) _ fun o2 H3 e3 w2 => by
    obtain ⟨dx, t, i1⟩ := (w1.ex e3).ins
    obtain ⟨dy, t2, i2⟩ := w2.ins
    refine ⟨o, dx, _, o2, dy, _, rfl, i1, rfl, i2, o, o2, p, b, p, b, red b F, red b G, rfl, w1.ex e3, w2, fun _ x H4 hx e4 hw => ⟨⟨x, rfl⟩, ?_⟩, fun z hz => by rw [unl_no (by rw [red_len, red_len, hl])] at hz; cases hz⟩
    rw [cmb_red hm] at hw
    refine q x H4 ((e2.trans e3).trans e4) ?_
    have e5 : (gr F.length m fun k i => cl F k i + -1 * cl G k i) = gr F.length m fun k i => cl F k i - cl G k i := gr_congr fun k i _ _ => by omega
    rw [e5] at hw
    exact hw
theorem ew_neg {σ : L2.St} {H : Hp} {ta : TE} {p b : Int} {m : Nat} {F : List (List Int)} (ha : EvW K ta σ H p b (red b F)) (hm : Wd m F) :
    EvW K (tUn (rUnOwn (cW K) (sp_Weights_neg K) E0) ta) σ H p b (red b (gr F.length m fun k i => -cl F k i)) := fun H1 e Q q =>
  ha H1 e _ fun o H2 e2 w1 => by
    obtain ⟨dx, t, i1⟩ := w1.ins
    refine ⟨o, dx, _, rfl, i1, o, p, b, red b F, rfl, w1, fun x H4 hx e4 hw => ?_⟩
    rw [mul_red hm] at hw
    refine q x H4 (e2.trans e4) ?_
    have e5 : (gr F.length m fun k i => -1 * cl F k i) = gr F.length m fun k i => -cl F k i := gr_congr fun k i _ _ => by omega
    rw [e5] at hw
    exact hw
theorem ew_mul {σ : L2.St} {H : Hp} {ta tb : TE} {p b f : Int} {m : Nat} {F : List (List Int)} (ha : EvW K ta σ H p b (red b F)) (hb : ∀ H1, Ev tb σ H1 (.int f)) (f0 : -(2 ^ 60) < f) (f1 : f < 2 ^ 60) (hm : Wd m F) :
    EvW K (tOp (rBinInt (cW K) (sp_Weights_mul K) E0) ta tb) σ H p b (red b (gr F.length m fun k i => cl F k i * f)) := fun H1 e Q q =>
  ha H1 e _ fun o H2 e2 w1 => hb H2 H2 (Ex.refl H2) _ fun H3 e3 => by
    obtain ⟨dx, t, i1⟩ := (w1.ex e3).ins
    refine ⟨o, dx, _, f, rfl, i1, rfl, o, p, b, f, red b F, rfl, w1.ex e3, f0, f1, fun x H4 hx e4 hw => ⟨⟨x, rfl⟩, ?_⟩⟩
    rw [mul_red hm] at hw
    refine q x H4 ((e2.trans e3).trans e4) ?_
    have e5 : (gr F.length m fun k i => f * cl F k i) = gr F.length m fun k i => cl F k i * f := gr_congr fun k i _ _ => Int.mul_comm _ _
    rw [e5] at hw
    exact hw
theorem ev_eqW {σ : L2.St} {H : Hp} {ta tb : TE} {p b p2 b2 : Int} {F G : List (List Int)} (ha : EvW K ta σ H p b F) (hb : EvW K tb σ H p2 b2 G) : Ev (tOp (rEqOwn (cW K) (sp_Weights_eq K) E0) ta tb) σ H (.bl (decide (p = p2) && (decide (b = b2) && decide (F = G)))) := fun H1 e Q q =>
  ha H1 e _ fun o H2 e2 w1 => hb H2 (e.trans e2) _ fun o2 H3 e3 w2 => by
    obtain ⟨dx, t, i1⟩ := (w1.ex e3).ins
    obtain ⟨dy, t2, i2⟩ := w2.ins
    exact ⟨o, dx, _, o2, dy, _, rfl, i1, rfl, i2, o, o2, p, b, p2, b2, F, G, rfl, w1.ex e3, w2, fun H4 e4 => ⟨_, rfl, q H4 ((e2.trans e3).trans e4)⟩⟩
theorem ev_isW {σ : L2.St} {H : Hp} {te tp tb tg : TE} {g : Addr} {p b : Int} {F : List (List Int)} (h : EvW K te σ H p b (red b F)) (hp : ∀ H1, Ev tp σ H1 (.int p)) (hb : ∀ H1, Ev tb σ H1 (.int b)) (hg : ∀ H1, Ex H H1 → Ev tg σ H1 (.ref g)) (hd : Gd H g F) : Ev (tCall (sp_law_is_weights K) [] E0 (tCons te (tCons tp (tCons tb (tCons tg tNil))))) σ H (.bl true) := fun H1 e Q q =>
  h H1 e _ fun o H2 e2 w1 => hp H2 H2 (Ex.refl H2) _ fun H3 e3 => hb H3 H3 (Ex.refl H3) _ fun H4 e4 => hg H4 (((e.trans e2).trans e3).trans e4) H4 (Ex.refl H4) _ fun H5 e5 =>
    ⟨o, g, p, b, F, rfl, w1.ex ((e3.trans e4).trans e5), hd.ex ((((e.trans e2).trans e3).trans e4).trans e5), fun H6 e6 => q H6 ((((e2.trans e3).trans e4).trans e5).trans e6)⟩
theorem ev_val {σ : L2.St} {H : Hp} {ta tl : TE} {p b : Int} {T : List (List Int)} {l : List Nat} (h : EvW K ta σ H p b T) (hl : ∀ H1, Ev tl σ H1 (.str (S l))) (hr : Row l) (ho : OkS T.length l) : Ev (tMeth (cW K) "value" (sp_Weights_value K) [] E0 ta (tCons tl tNil)) σ H (.int (rem b (wS T p l 0 l.length))) := fun H1 e Q q =>
  h H1 e _ fun o H2 e2 w1 => by
    obtain ⟨dx, t, i1⟩ := w1.ins
    exact ⟨o, dx, _, rfl, i1, rfl, hl H2 H2 (Ex.refl H2) _ fun H3 e3 => ⟨o, p, b, T, l, rfl, w1.ex e3, hr, fun _ H4 e4 => q H4 ((e2.trans e3).trans e4), fun z => absurd ho z⟩⟩
/-! ### the signs of a table -/
def kU : List Nat := [65, 66, 67, 68]
def sgn (n : Nat) : List Nat := [35, 46, 58] ++ kU.take n ++ kL.take n
theorem sgn_ok : ∀ n, n ≤ 4 → ∀ c ∈ sgn n, c ∈ SG ∧ kd c < (n : Int) ∧ c < 128
  | 0, _ => by decide
  | 1, _ => by decide
  | 2, _ => by decide
  | 3, _ => by decide
  | 4, _ => by decide
  | n + 5, h => by omega
theorem sgn_len (n : Nat) : 3 ≤ (sgn n).length ∧ (sgn n).length ≤ 11 := by
  unfold sgn kU kL
  simp
  omega
theorem ev_sgn {σ : L2.St} {H : Hp} {tn tn2 : TE} {n : Nat} (h : Ev tn σ H (.int (n : Int))) (h2 : Ev tn2 σ H (.int (n : Int))) : Ev (tOp (fun x y H Q => ∃ i j, x = .str i ∧ y = .str j ∧ i.length + j.length ≤ sizeLine ∧ Q (.str (i ++ j)) H) (tOp (fun x y H Q => ∃ i j, x = .str i ∧ y = .str j ∧ i.length + j.length ≤ sizeLine ∧ Q (.str (i ++ j)) H) (tC (.str (S [35, 46, 58]))) (tSl rSlS (tC (.str (S kU))) tNoPart (tPart tn))) (tSl rSlS (tC (.str (S kL))) tNoPart (tPart tn2))) σ H (.str (S (sgn n))) :=
  ev_op (ev_op ev_c (ev_to ev_c h (by decide)) (rv_catSS (by rw [List.length_take]; simp only [kU, List.length_cons, List.length_nil]; omega))) (ev_to ev_c h2 (by decide)) (rv_catSS (by have := sgn_len n; unfold sgn at this; rw [List.length_append] at this; omega))
theorem ei_entry {σ : L2.St} {b : Addr} {i : Nat} {te : TE} {Pd : Int → Prop} {E : XK} (hv : σ[i]? = some (some (.ref b))) (h : EvI b te σ Pd) : EvI b (tCall sp_law_entry [] E (tCons (tVar i) (tCons te tNil))) σ fun d => -(2 ^ 60) < d ∧ d < 2 ^ 60 := fun H1 b1 Q q =>
  ⟨_, hv, h H1 b1 _ fun d H2 hd e2 b2 => ⟨b, d, rfl, b2, fun z H3 z0 z1 e3 b3 => q z H3 ⟨z0, z1⟩ (e2.trans e3) b3⟩⟩
/-- world: the period, the modulus, the table -/
def Wl (H : Hp) (wd g : Addr) (p b : Int) : Prop := H wd = some (.lst [.int p, .int b, .ref g])
theorem ev_w0 {σ : L2.St} {H : Hp} {te : TE} {wd g : Addr} {p b : Int} (h : Ev te σ H (.ref wd)) (hw : Wl H wd g p b) : Ev (tOp (rIxL K) te (tC (.int 0))) σ H (.int p) := ev_op h ev_c (rv_ixL (sq_of hw) rfl)
theorem ev_w1 {σ : L2.St} {H : Hp} {te : TE} {wd g : Addr} {p b : Int} (h : Ev te σ H (.ref wd)) (hw : Wl H wd g p b) : Ev (tOp (rIxL K) te (tC (.int 1))) σ H (.int b) := ev_op h ev_c (rv_ixL (sq_of hw) rfl)
theorem ev_w2 {σ : L2.St} {H : Hp} {te : TE} {wd g : Addr} {p b : Int} (h : Ev te σ H (.ref wd)) (hw : Wl H wd g p b) : Ev (tOp (rIxL K) te (tC (.int 2))) σ H (.ref g) := ev_op h ev_c (rv_ixL (sq_of hw) rfl)
theorem ev_lenG {σ : L2.St} {H : Hp} {te : TE} {g : Addr} {F : List (List Int)} (h : Ev te σ H (.ref g)) (hg : Gd H g F) : Ev (tCB (fun xs H Q => ∃ x n, xs = [x] ∧ LenV K x H n ∧ Q (.int n) H) (tCons te tNil)) σ H (.int (F.length : Int)) := by
  obtain ⟨rs, k1, k2⟩ := hg
  have l := rc_lenL (K := K) (sq_of (K := K) k1)
  rw [List.length_map, k2.len] at l
  exact ev_cb (ea_cons h ea_nil) l
end
end K54
namespace K54
open PySem PySem.Spec PyProof.Rows L2 Lc Evl
section
variable {P : Program} {w : World} {K : PySem.W.Frag} {mg : Str → Option Value} {base : Heap}
/-! ### weights joined -/
def sp_law_joined (K : PySem.W.Frag) : Sp := fun vs H Q _ => ∃ (a o wd g g2 : Addr) (ns : List Int) (p : Nat) (b : Int) (F G : List (List Int)), vs = [.ref a, .ref o, .ref wd, .ref g2] ∧ SqL K H a (ns.map V.int) ∧ Wt K H o p b (red b F) ∧ Wl H wd g p b ∧ Gd H g F ∧ Gd H g2 G ∧ Wd p F ∧ Wd p G ∧ G.length = F.length ∧ RetV (.bl true) H Q
theorem ok_law_joined (T : Tx K mg w) : OkD P w K mg base 8 d_law_joined ps_law_joined (sp_law_joined K) := by
  refine (h_law_joined T).ok sc_law_joined (fun vs H Q E h => ?_) (fun cdv A outer s H vs Q E hr h => ⟨_,
      (pss_cons (ps_set (i := 4) sc_law_joined.nd rfl (Or.inl rfl) (pe_call (ok_law_box (P := P) (w := w) (base := base) T) (hr.mono (by decide)) (by rfl) (m_law_box T) (k_law_box T) (b_law_box T) .nil passN (pa_cons (pv 0) (pa_cons pe_int pa_nil))))
      (pss_cons (ps_set (i := 5) sc_law_joined.nd rfl (Or.inr rfl) (pe_ix ix_list (pv 2) pe_int (fun _ _ => rfl)))
      (pss_cons (ps_set (i := 6) sc_law_joined.nd rfl (Or.inl rfl) (pe_ix ix_list (pv 2) pe_int (fun _ _ => rfl)))
      (pss_cons (ps_set (i := 7) sc_law_joined.nd rfl (Or.inl rfl) (pe_callB call_len (by rfl) (m_len T) (by decide +kernel) (pa_cons (pe_ix ix_list (pv 2) pe_int (fun _ _ => rfl)) pa_nil)))
      (pss_cons (ps_set (i := 8) sc_law_joined.nd rfl (Or.inl rfl) (pe_make (mk_Weights T) (ok_Weights_init (P := P) (w := w) (base := base) T) (hr.mono (by decide)) (by rfl) (m_Weights T) (b_Weights_init T) .nil passN (pa_cons (pv 5) (pa_cons (pv 6) (pa_cons (pe_call (ok_law_copy (P := P) (w := w) (base := base) T) (hr.mono (by decide)) (by rfl) (m_law_copy T) (k_law_copy T) (b_law_copy T) .nil passN (pa_cons (pv 3) pa_nil)) pa_nil)))))
      (pss_cons (ps_set (i := 9) sc_law_joined.nd rfl (Or.inr rfl) (pe_call (ok_law_entry (P := P) (w := w) (base := base) T) (hr.mono (by decide)) (by rfl) (m_law_entry T) (k_law_entry T) (b_law_entry T) .nil passN (pa_cons (pv 4) (pa_cons (pe_call (ok_law_take (P := P) (w := w) (base := base) T) (hr.mono (by decide)) (by rfl) (m_law_take T) (k_law_take T) (b_law_take T) .nil passN (pa_cons (pv 4) (pa_cons pe_int pa_nil))) pa_nil))))
      (pss_cons (ps_setLc (i := 10) (own := [("k", 17)]) (g := gName 17) rfl sc_law_joined.nd rfl rfl (sw_true rfl rfl rfl (by decide +kernel)) (pi_range1 rfl (m_range T) (pa_cons (pv 7) pa_nil)) (blkOk_by (own := [("k", 17)]) (N := ns_law_joined) (sc := (defScope st_law_joined)) (by decide +kernel)) (fun _ _ _ _ _ => pg_name (i := 17) sc_law_joined.nd rfl (Or.inr rfl)) (fun _ _ _ _ _ => pts_nil) (fun _ _ _ _ _ => (pe_lc (own := [("i", 18)]) (g := gName 18) rfl sc_law_joined.nd (pi_range1 rfl (m_range T) (pa_cons (pv 5) pa_nil)) (blkOk_by (own := [("i", 18)]) (N := ns_law_joined) (sc := (relS _ (defScope st_law_joined))) (by decide +kernel)) (fun _ _ _ _ _ => pg_name (i := 18) sc_law_joined.nd rfl (Or.inl rfl)) (fun _ _ _ _ _ => pts_nil) (fun _ _ _ _ _ => (pe_op op_add (pe_ix (show IxR _ (rIxL K) from ix_list) (pe_ix (show IxR _ (rIxL K) from ix_list) (pe_ix (show IxR _ (rIxL K) from ix_list) (pv 2) pe_int (fun _ _ => rfl)) (pv 17) (fun _ _ => rfl)) (pv 18) (fun _ _ => rfl)) (pe_ix (show IxR _ (rIxL K) from ix_list) (pe_ix (show IxR _ (rIxL K) from ix_list) (pv 3) (pv 17) (fun _ _ => rfl)) (pv 18) (fun _ _ => rfl)))))))
      (pss_cons (ps_setLc (i := 11) (own := [("k", 17)]) (g := gName 17) rfl sc_law_joined.nd rfl rfl (sw_true rfl rfl rfl (by decide +kernel)) (pi_range1 rfl (m_range T) (pa_cons (pv 7) pa_nil)) (blkOk_by (own := [("k", 17)]) (N := ns_law_joined) (sc := (defScope st_law_joined)) (by decide +kernel)) (fun _ _ _ _ _ => pg_name (i := 17) sc_law_joined.nd rfl (Or.inr rfl)) (fun _ _ _ _ _ => pts_nil) (fun _ _ _ _ _ => (pe_lc (own := [("i", 18)]) (g := gName 18) rfl sc_law_joined.nd (pi_range1 rfl (m_range T) (pa_cons (pv 5) pa_nil)) (blkOk_by (own := [("i", 18)]) (N := ns_law_joined) (sc := (relS _ (defScope st_law_joined))) (by decide +kernel)) (fun _ _ _ _ _ => pg_name (i := 18) sc_law_joined.nd rfl (Or.inl rfl)) (fun _ _ _ _ _ => pts_nil) (fun _ _ _ _ _ => (pe_op op_sub (pe_ix (show IxR _ (rIxL K) from ix_list) (pe_ix (show IxR _ (rIxL K) from ix_list) (pe_ix (show IxR _ (rIxL K) from ix_list) (pv 2) pe_int (fun _ _ => rfl)) (pv 17) (fun _ _ => rfl)) (pv 18) (fun _ _ => rfl)) (pe_ix (show IxR _ (rIxL K) from ix_list) (pe_ix (show IxR _ (rIxL K) from ix_list) (pv 3) (pv 17) (fun _ _ => rfl)) (pv 18) (fun _ _ => rfl)))))))
      (pss_cons (ps_setLc (i := 12) (own := [("k", 17)]) (g := gName 17) rfl sc_law_joined.nd rfl rfl (sw_true rfl rfl rfl (by decide +kernel)) (pi_range1 rfl (m_range T) (pa_cons (pv 7) pa_nil)) (blkOk_by (own := [("k", 17)]) (N := ns_law_joined) (sc := (defScope st_law_joined)) (by decide +kernel)) (fun _ _ _ _ _ => pg_name (i := 17) sc_law_joined.nd rfl (Or.inr rfl)) (fun _ _ _ _ _ => pts_nil) (fun _ _ _ _ _ => (pe_lc (own := [("i", 18)]) (g := gName 18) rfl sc_law_joined.nd (pi_range1 rfl (m_range T) (pa_cons (pv 5) pa_nil)) (blkOk_by (own := [("i", 18)]) (N := ns_law_joined) (sc := (relS _ (defScope st_law_joined))) (by decide +kernel)) (fun _ _ _ _ _ => pg_name (i := 18) sc_law_joined.nd rfl (Or.inl rfl)) (fun _ _ _ _ _ => pts_nil) (fun _ _ _ _ _ => (pe_op op_mul (pe_ix (show IxR _ (rIxL K) from ix_list) (pe_ix (show IxR _ (rIxL K) from ix_list) (pe_ix (show IxR _ (rIxL K) from ix_list) (pv 2) pe_int (fun _ _ => rfl)) (pv 17) (fun _ _ => rfl)) (pv 18) (fun _ _ => rfl)) (pv 9))))))
      (pss_cons (ps_setLc (i := 13) (own := [("k", 17)]) (g := gName 17) rfl sc_law_joined.nd rfl rfl (sw_true rfl rfl rfl (by decide +kernel)) (pi_range1 rfl (m_range T) (pa_cons (pv 7) pa_nil)) (blkOk_by (own := [("k", 17)]) (N := ns_law_joined) (sc := (defScope st_law_joined)) (by decide +kernel)) (fun _ _ _ _ _ => pg_name (i := 17) sc_law_joined.nd rfl (Or.inr rfl)) (fun _ _ _ _ _ => pts_nil) (fun _ _ _ _ _ => (pe_lc (own := [("i", 18)]) (g := gName 18) rfl sc_law_joined.nd (pi_range1 rfl (m_range T) (pa_cons (pv 5) pa_nil)) (blkOk_by (own := [("i", 18)]) (N := ns_law_joined) (sc := (relS _ (defScope st_law_joined))) (by decide +kernel)) (fun _ _ _ _ _ => pg_name (i := 18) sc_law_joined.nd rfl (Or.inl rfl)) (fun _ _ _ _ _ => pts_nil) (fun _ _ _ _ _ => (pe_un un_neg (pe_ix (show IxR _ (rIxL K) from ix_list) (pe_ix (show IxR _ (rIxL K) from ix_list) (pe_ix (show IxR _ (rIxL K) from ix_list) (pv 2) pe_int (fun _ _ => rfl)) (pv 17) (fun _ _ => rfl)) (pv 18) (fun _ _ => rfl)))))))
      (pss_cons (ps_if (pt_not (pt_val (pe_call (ok_law_is_weights (P := P) (w := w) (base := base) T) (hr.mono (by decide)) (by rfl) (m_law_is_weights T) (k_law_is_weights T) (b_law_is_weights T) .nil passN (pa_cons (pe_op (op_binOwn (ok_Weights_add (P := P) (w := w) (base := base) T) (hr.mono (by decide)) (first_Weights T) (me_Weights_add T).at_ (me_Weights_add T).fn (b_Weights_add T) passN) (pv 1) (pv 8)) (pa_cons (pv 5) (pa_cons (pv 6) (pa_cons (pv 10) pa_nil))))))) (pss_one (ps_ret pe_bl)) pss_nil)
      (pss_cons (ps_if (pt_not (pt_val (pe_call (ok_law_is_weights (P := P) (w := w) (base := base) T) (hr.mono (by decide)) (by rfl) (m_law_is_weights T) (k_law_is_weights T) (b_law_is_weights T) .nil passN (pa_cons (pe_op (op_binOwn (ok_Weights_sub (P := P) (w := w) (base := base) T) (hr.mono (by decide)) (first_Weights T) (me_Weights_sub T).at_ (me_Weights_sub T).fn (b_Weights_sub T) passN) (pv 1) (pv 8)) (pa_cons (pv 5) (pa_cons (pv 6) (pa_cons (pv 11) pa_nil))))))) (pss_one (ps_ret pe_bl)) pss_nil)
      (pss_cons (ps_if (pt_not (pt_val (pe_call (ok_law_is_weights (P := P) (w := w) (base := base) T) (hr.mono (by decide)) (by rfl) (m_law_is_weights T) (k_law_is_weights T) (b_law_is_weights T) .nil passN (pa_cons (pe_op (op_binInt (ok_Weights_mul (P := P) (w := w) (base := base) T) (hr.mono (by decide)) (first_Weights T) (me_Weights_mul T).at_ (me_Weights_mul T).fn (rmul_Weights T) (mul_int T).choose_spec (rmul_int T).choose_spec (sub_int_Weights T) (b_Weights_mul T) passN) (pv 1) (pv 9)) (pa_cons (pv 5) (pa_cons (pv 6) (pa_cons (pv 12) pa_nil))))))) (pss_one (ps_ret pe_bl)) pss_nil)
      (pss_cons (ps_if (pt_not (pt_val (pe_call (ok_law_is_weights (P := P) (w := w) (base := base) T) (hr.mono (by decide)) (by rfl) (m_law_is_weights T) (k_law_is_weights T) (b_law_is_weights T) .nil passN (pa_cons (pe_un (un_negOwn (ok_Weights_neg (P := P) (w := w) (base := base) T) (hr.mono (by decide)) (me_Weights_neg T).at_ (me_Weights_neg T).fn (b_Weights_neg T) passN) (pv 1)) (pa_cons (pv 5) (pa_cons (pv 6) (pa_cons (pv 13) pa_nil))))))) (pss_one (ps_ret pe_bl)) pss_nil)
      (pss_cons (ps_if (PW.pt (pw_or (pt_not (pt_cmpR (op_eqOwn (ok_Weights_eq (P := P) (w := w) (base := base) T) (hr.mono (by decide)) (me_Weights_eq T).at_ (me_Weights_eq T).fn (b_Weights_eq T) passN) (pe_op (op_binOwn (ok_Weights_sub (P := P) (w := w) (base := base) T) (hr.mono (by decide)) (first_Weights T) (me_Weights_sub T).at_ (me_Weights_sub T).fn (b_Weights_sub T) passN) (pe_op (op_binOwn (ok_Weights_add (P := P) (w := w) (base := base) T) (hr.mono (by decide)) (first_Weights T) (me_Weights_add T).at_ (me_Weights_add T).fn (b_Weights_add T) passN) (pv 1) (pv 8)) (pv 8)) (pv 1) (nomark _))) (pw_or1 (pt_not (pt_cmpR (op_eqOwn (ok_Weights_eq (P := P) (w := w) (base := base) T) (hr.mono (by decide)) (me_Weights_eq T).at_ (me_Weights_eq T).fn (b_Weights_eq T) passN) (pe_un (un_negOwn (ok_Weights_neg (P := P) (w := w) (base := base) T) (hr.mono (by decide)) (me_Weights_neg T).at_ (me_Weights_neg T).fn (b_Weights_neg T) passN) (pe_un (un_negOwn (ok_Weights_neg (P := P) (w := w) (base := base) T) (hr.mono (by decide)) (me_Weights_neg T).at_ (me_Weights_neg T).fn (b_Weights_neg T) passN) (pv 1))) (pv 1) (nomark _)))))) (pss_one (ps_ret pe_bl)) pss_nil)
      (pss_cons (ps_set (i := 14) sc_law_joined.nd rfl (Or.inl rfl) (pe_call (ok_law_line (P := P) (w := w) (base := base) T) (hr.mono (by decide)) (by rfl) (m_law_line T) (k_law_line T) (b_law_line T) .nil passN (pa_cons (pv 4) (pa_cons (pe_op op_add_str (pe_op op_add_str pe_str (pe_slice sl_str pe_str po_none (po_some (pv 7)))) (pe_slice sl_str pe_str po_none (po_some (pv 7)))) (pa_cons (pe_call (ok_law_take (P := P) (w := w) (base := base) T) (hr.mono (by decide)) (by rfl) (m_law_take T) (k_law_take T) (b_law_take T) .nil passN (pa_cons (pv 4) (pa_cons pe_int pa_nil))) pa_nil)))))
      (pss_cons (ps_set (i := 15) sc_law_joined.nd rfl (Or.inl rfl) (pe_op (op_binOwn (ok_Weights_add (P := P) (w := w) (base := base) T) (hr.mono (by decide)) (first_Weights T) (me_Weights_add T).at_ (me_Weights_add T).fn (b_Weights_add T) passN) (pv 1) (pv 8)))
      (pss_cons (ps_set (i := 16) sc_law_joined.nd rfl (Or.inl rfl) (pe_meth (pv 15) (c_Weights T) (me_Weights_value T) (ok_Weights_value (P := P) (w := w) (base := base) T) (hr.mono (by decide)) (b_Weights_value T) .nil passN (pa_cons (pv 14) pa_nil)))
      (pss_cons (ps_if (PW.pt (pw_or (pt_not (pt_val (pe_call (ok_law_is_integer (P := P) (w := w) (base := base) T) (hr.mono (by decide)) (by rfl) (m_law_is_integer T) (k_law_is_integer T) (b_law_is_integer T) .nil passN (pa_cons (pv 16) pa_nil)))) (pw_or1 (pt_cmpR op_ne (pv 16) (pe_call (ok_law_reduced (P := P) (w := w) (base := base) T) (hr.mono (by decide)) (by rfl) (m_law_reduced T) (k_law_reduced T) (b_law_reduced T) .nil passN (pa_cons (pe_call (ok_law_sum (P := P) (w := w) (base := base) T) (hr.mono (by decide)) (by rfl) (m_law_sum T) (k_law_sum T) (b_law_sum T) .nil passN (pa_cons (pv 10) (pa_cons (pv 5) (pa_cons (pv 14) (pa_cons pe_int pa_nil))))) (pa_cons (pv 6) pa_nil))) (nomark _))))) (pss_one (ps_ret pe_bl)) pss_nil)
      (pss_one (ps_ret (pe_and (pe_call (ok_law_is_weights (P := P) (w := w) (base := base) T) (hr.mono (by decide)) (by rfl) (m_law_is_weights T) (k_law_is_weights T) (b_law_is_weights T) .nil passN (pa_cons (pv 1) (pa_cons (pv 5) (pa_cons (pv 6) (pa_cons (pe_ix ix_list (pv 2) pe_int (fun _ _ => rfl)) pa_nil))))) (pe_one (pe_call (ok_law_is_weights (P := P) (w := w) (base := base) T) (hr.mono (by decide)) (by rfl) (m_law_is_weights T) (k_law_is_weights T) (b_law_is_weights T) .nil passN (pa_cons (pv 8) (pa_cons (pv 5) (pa_cons (pv 6) (pa_cons (pv 3) pa_nil)))))))))))))))))))))))))))), ?_⟩)
  · obtain ⟨a, o, wd, g, g2, ns, p, b, F, G, rfl, _⟩ := h
    rfl
  · obtain ⟨a, o, wd, g, g2, ns, p, b, F, G, rfl, hs, hw, hwd, hF, hG, hwF, hwG, hlen, q⟩ := h
    have hp0 := hw.1
    rw [part_red] at hp0
    obtain ⟨w1, w2, w3, w4, w5⟩ := part_w hp0
    have hpG : part (p : Int) b G = none := by rw [part_gr hwG hwF hlen]; exact hp0
    have k1 : Str.ofString "#.:" = S [35, 46, 58] := by decide +kernel
    have k2 : Str.ofString "ABCD" = S kU := by decide +kernel
    have k3 : Str.ofString "abcd" = S kL := by decide +kernel
    simp only [k1, k2, k3]
    refine q_first ?_
    refine cons_fst ⟨_, rfl, ?_⟩
    refine ⟨a, ns, 5, rfl, hs, by decide, by decide, fun bx H1 hbx e1 b1 => ?_⟩
    try dsimp only [gName]
    refine q_asg (v := .int (p : Int)) (ev_w0 (wd := wd) (g := g) (b := b) (by exact ev_var rfl) (e1 _ _ hwd)) fun H2 e2 => ?_
    have X2 := e1.trans e2
    refine q_asg (v := .int b) (ev_w1 (wd := wd) (g := g) (p := (p : Int)) (by exact ev_var rfl) (X2 _ _ hwd)) fun H3 e3 => ?_
    have X3 := X2.trans e3
    refine q_asg (v := .int (F.length : Int)) (ev_lenG (ev_w2 (wd := wd) (p := (p : Int)) (b := b) (by exact ev_var rfl) (X3 _ _ hwd)) (hF.ex X3)) fun H4 e4 => ?_
    have X4 := X3.trans e4
    refine q_first ?_
    refine ew_mk (K := K) (p := (p : Int)) (b := b) (G := G) (fun HH ee Q' q' => ⟨_, rfl, _, rfl, _, rfl, g2, G, rfl, hG.ex (X4.trans ee), by omega, fun c cs H5 hc e5 h5 hr5 hf5 _ => q' c H5 e5 ⟨cs, .inl h5, hr5⟩⟩) hpG H4 (Ex.refl H4) _ fun o2 H6 e6 hw2 => ?_
    have e26 := ((e2.trans e3).trans e4).trans e6
    have b6 := b1.ex e26
    refine q_asgI (b := bx) (ei_entry rfl (ei_take (many := 3) rfl (fun H => ev_c) (by decide) (by decide))) b6 fun f H7 hf e7 b7 => ?_
    have X7 : Ex H H7 := ex_new hbx e1 ((ExB.of e26).trans e7)
    have hw7 : Wt K H7 o2 p b (red b G) := hw2.exB b6 e7
    refine st_is (σ' := [some (.ref a), some (.ref o), some (.ref wd), some (.ref g2), some (.ref bx), some (.int (p : Int)), some (.int b), some (.int (F.length : Int)), some (.ref o2), some (.int f), none, none, none, none, none, none, none, none, none]) rfl ?_
    refine q_first ?_
    refine eg_gr (n := F.length) (m := p) (g := fun k i => cl F k i + cl G k i) (by exact ev_var rfl) (by omega) (by omega) (fun x => rfl) (fun k H1 e1 hk => by exact ev_var rfl) (fun y x => rfl) (fun k i HH ee hk hi => ev_op (ev_cellG (g := g) (F := F) (ev_w2 (wd := wd) (p := (p : Int)) (b := b) (by exact ev_var rfl) ((X7.trans ee) _ _ hwd)) ((hF.ex X7).ex ee) (by exact ev_var rfl) (by exact ev_var rfl) hk (by rw [hwF.at_ hk]; exact hi)) (ev_cellG (g := g2) (F := G) (by exact ev_var rfl) ((hG.ex X7).ex ee) (by exact ev_var rfl) (by exact ev_var rfl) (by omega) (by rw [hwG.at_ (by omega)]; exact hi)) rv_I0) H7 (Ex.refl H7) _ fun gp gps H8 ngp e8 hgp rgp fgp _ => ?_
    refine st_is (σ' := [some (.ref a), some (.ref o), some (.ref wd), some (.ref g2), some (.ref bx), some (.int (p : Int)), some (.int b), some (.int (F.length : Int)), some (.ref o2), some (.int f), some (.ref gp), none, none, none, none, none, none, none, none]) rfl ?_
    have X8 := X7.trans e8
    refine q_first ?_
    refine eg_gr (n := F.length) (m := p) (g := fun k i => cl F k i - cl G k i) (by exact ev_var rfl) (by omega) (by omega) (fun x => rfl) (fun k H1 e1 hk => by exact ev_var rfl) (fun y x => rfl) (fun k i HH ee hk hi => ev_op (ev_cellG (g := g) (F := F) (ev_w2 (wd := wd) (p := (p : Int)) (b := b) (by exact ev_var rfl) ((X8.trans ee) _ _ hwd)) ((hF.ex X8).ex ee) (by exact ev_var rfl) (by exact ev_var rfl) hk (by rw [hwF.at_ hk]; exact hi)) (ev_cellG (g := g2) (F := G) (by exact ev_var rfl) ((hG.ex X8).ex ee) (by exact ev_var rfl) (by exact ev_var rfl) (by omega) (by rw [hwG.at_ (by omega)]; exact hi)) rv_I0) H8 (Ex.refl H8) _ fun gm gms H9 ngm e9 hgm rgm fgm _ => ?_
    refine st_is (σ' := [some (.ref a), some (.ref o), some (.ref wd), some (.ref g2), some (.ref bx), some (.int (p : Int)), some (.int b), some (.int (F.length : Int)), some (.ref o2), some (.int f), some (.ref gp), some (.ref gm), none, none, none, none, none, none, none]) rfl ?_
    have X9 := X8.trans e9
    refine q_first ?_
    refine eg_gr (n := F.length) (m := p) (g := fun k i => cl F k i * f) (by exact ev_var rfl) (by omega) (by omega) (fun x => rfl) (fun k H1 e1 hk => by exact ev_var rfl) (fun y x => rfl) (fun k i HH ee hk hi => ev_op (ev_cellG (g := g) (F := F) (ev_w2 (wd := wd) (p := (p : Int)) (b := b) (by exact ev_var rfl) ((X9.trans ee) _ _ hwd)) ((hF.ex X9).ex ee) (by exact ev_var rfl) (by exact ev_var rfl) hk (by rw [hwF.at_ hk]; exact hi)) (by exact ev_var rfl) (rv_I (.inr ⟨by omega, by omega⟩))) H9 (Ex.refl H9) _ fun gt gts H10 ngt e10 hgt rgt fgt _ => ?_
    refine st_is (σ' := [some (.ref a), some (.ref o), some (.ref wd), some (.ref g2), some (.ref bx), some (.int (p : Int)), some (.int b), some (.int (F.length : Int)), some (.ref o2), some (.int f), some (.ref gp), some (.ref gm), some (.ref gt), none, none, none, none, none, none]) rfl ?_
    have X10 := X9.trans e10
    refine q_first ?_
    refine eg_gr (n := F.length) (m := p) (g := fun k i => -cl F k i) (by exact ev_var rfl) (by omega) (by omega) (fun x => rfl) (fun k H1 e1 hk => by exact ev_var rfl) (fun y x => rfl) (fun k i HH ee hk hi => ev_un (ev_cellG (g := g) (F := F) (ev_w2 (wd := wd) (p := (p : Int)) (b := b) (by exact ev_var rfl) ((X10.trans ee) _ _ hwd)) ((hF.ex X10).ex ee) (by exact ev_var rfl) (by exact ev_var rfl) hk (by rw [hwF.at_ hk]; exact hi)) ru_neg) H10 (Ex.refl H10) _ fun gn gns H11 ngn e11 hgn rgn fgn _ => ?_
    refine st_is (σ' := [some (.ref a), some (.ref o), some (.ref wd), some (.ref g2), some (.ref bx), some (.int (p : Int)), some (.int b), some (.int (F.length : Int)), some (.ref o2), some (.int f), some (.ref gp), some (.ref gm), some (.ref gt), some (.ref gn), none, none, none, none, none]) rfl ?_
    have X11 := X10.trans e11
    have hw11 : Wt K H11 o2 p b (red b G) := hw7.ex (((e8.trans e9).trans e10).trans e11)
    have gp11 : Gd H11 gp _ := ⟨gps, ((e9.trans e10).trans e11) _ _ hgp, rgp.ex ((e9.trans e10).trans e11)⟩
    have gm11 : Gd H11 gm _ := ⟨gms, (e10.trans e11) _ _ hgm, rgm.ex (e10.trans e11)⟩
    have gt11 : Gd H11 gt _ := ⟨gts, e11 _ _ hgt, rgt.ex e11⟩
    have gn11 : Gd H11 gn _ := ⟨gns, hgn, rgn⟩
    have pB : GdB bx H8 gp _ := gdB_new b7 ngp hgp rgp fgp
    have b11 := b7.ex (((e8.trans e9).trans e10).trans e11)
    have pB11 := pB.ex ((e9.trans e10).trans e11)
    clear ngp ngm ngt ngn hgp hgm hgt hgn rgp rgm rgt rgn fgp fgm fgt fgn pB
    have hw1 := hw.ex X11
    -- the four tables
    refine q_when (b := !true) (et_not (et_B (ev_isW (ew_add (ew_var (by exact rfl) hw1) (ew_var (by exact rfl) hw11) hwF hlen.symm) (fun H => by exact ev_var rfl) (fun H => by exact ev_var rfl) (fun H e => by exact ev_var rfl) gp11))) (fun hc => by cases hc) (fun _ H12 e12 => ?_)
    have hw1' := hw1.ex e12
    refine q_when (b := !true) (et_not (et_B (ev_isW (ew_sub (ew_var (by exact rfl) (hw1.ex e12)) (ew_var (by exact rfl) (hw11.ex e12)) hwF hlen.symm) (fun H => by exact ev_var rfl) (fun H => by exact ev_var rfl) (fun H e => by exact ev_var rfl) (gm11.ex e12)))) (fun hc => by cases hc) (fun _ H13 e13 => ?_)
    have E13 := e12.trans e13
    refine q_when (b := !true) (et_not (et_B (ev_isW (ew_mul (ew_var (by exact rfl) (hw1.ex E13)) (fun H => by exact ev_var rfl) hf.1 hf.2 hwF) (fun H => by exact ev_var rfl) (fun H => by exact ev_var rfl) (fun H e => by exact ev_var rfl) (gt11.ex E13)))) (fun hc => by cases hc) (fun _ H14 e14 => ?_)
    have E14 := E13.trans e14
    refine q_when (b := !true) (et_not (et_B (ev_isW (ew_neg (ew_var (by exact rfl) (hw1.ex E14)) hwF) (fun H => by exact ev_var rfl) (fun H => by exact ev_var rfl) (fun H e => by exact ev_var rfl) (gn11.ex E14)))) (fun hc => by cases hc) (fun _ H15 e15 => ?_)
    have E15 := E14.trans e15
    -- back again
    have back1 : red b (gr (gr F.length p fun k i => cl F k i + cl G k i).length p fun k i => cl (gr F.length p fun k i => cl F k i + cl G k i) k i - cl G k i) = red b F := by
      refine congrArg (red b) ?_
      rw [gr_len]
      refine Eq.trans (gr_congr fun k i hk hi => ?_) (gr_self hwF).symm
      rw [gr_cl hk hi]
      omega
    have back2 : red b (gr (gr F.length p fun k i => -cl F k i).length p fun k i => -cl (gr F.length p fun k i => -cl F k i) k i) = red b F := by
      refine congrArg (red b) ?_
      rw [gr_len]
      refine Eq.trans (gr_congr fun k i hk hi => ?_) (gr_self hwF).symm
      rw [gr_cl hk hi]
      omega
    have a1 : ∀ {σ : L2.St}, σ[1]? = some (some (.ref o)) → σ[8]? = some (some (.ref o2)) → EvW K (tOp (rBinOwn (cW K) (sp_Weights_sub K) E0) (tOp (rBinOwn (cW K) (sp_Weights_add K) E0) (tVar 1) (tVar 8)) (tVar 8)) σ H15 p b (red b F) := fun v1 v8 => by
      have h := ew_sub (m := p) (ew_add (ew_var v1 (hw1.ex E15)) (ew_var v8 (hw11.ex E15)) hwF hlen.symm) (ew_var v8 (hw11.ex E15)) gr_wd (by rw [gr_len, hlen])
      rw [back1] at h
      exact h
    have a2 : ∀ {σ : L2.St}, σ[1]? = some (some (.ref o)) → EvW K (tUn (rUnOwn (cW K) (sp_Weights_neg K) E0) (tUn (rUnOwn (cW K) (sp_Weights_neg K) E0) (tVar 1))) σ H15 p b (red b F) := fun v1 => by
      have h := ew_neg (m := p) (ew_neg (ew_var v1 (hw1.ex E15)) hwF) gr_wd
      rw [back2] at h
      exact h
    refine q_when (b := (!(decide ((p : Int) = p) && (decide (b = b) && decide (red b F = red b F))) || !(decide ((p : Int) = p) && (decide (b = b) && decide (red b F = red b F))))) (et_or (et_not (et_test (ev_eqW (a1 (by exact rfl) (by exact rfl)) (ew_var (by exact rfl) (hw1.ex E15))))) fun _ => et_not (et_test (ev_eqW (a2 (by exact rfl)) (ew_var (by exact rfl) (hw1.ex E15))))) (fun hc => by simp at hc) (fun _ H16 e16 => ?_)
    have E16 := E15.trans e16
    -- a row of both
    refine q_first ?_
    refine cons_fst ⟨_, rfl, ?_⟩
    refine cons_fst (ev_sgn (n := F.length) (by exact ev_var rfl) (by exact ev_var rfl) H16 (Ex.refl H16) _ fun H17 e17 => ?_)
    refine cons_fst (ei_take (b := bx) (i := 4) (many := 20) rfl (fun H => ev_c) (by decide) (by decide) H17 (b11.ex (E16.trans e17)) _ fun d H18 hd e18 b18 => ?_)
    obtain ⟨n, rfl⟩ : ∃ n : Nat, d = (n : Int) := ⟨d.toNat, by omega⟩
    have hsl := sgn_len F.length
    refine ⟨bx, sgn F.length, n, rfl, b18, by omega, by omega, by omega, fun l H19 hll hlm e19 b19 => ?_⟩
    try dsimp only [gName]
    have E17 := E16.trans e17
    have bx17 := b11.ex E17
    have x19 := e18.trans e19
    have hp19 : Wt K H19 o p b (red b F) := (hw1.ex E17).exB bx17 x19
    have hp19' : Wt K H19 o2 p b (red b G) := (hw11.ex E17).exB bx17 x19
    have gp19 := (pB11.ex E17).exB x19
    have X19 : Ex H H19 := ex_new hbx e1 ((((ExB.of e26).trans e7).trans (ExB.of ((((e8.trans e9).trans e10).trans e11).trans E17))).trans x19)
    refine st_is (σ' := [some (.ref a), some (.ref o), some (.ref wd), some (.ref g2), some (.ref bx), some (.int (p : Int)), some (.int b), some (.int (F.length : Int)), some (.ref o2), some (.int f), some (.ref gp), some (.ref gm), some (.ref gt), some (.ref gn), some (.str (S l)), none, none, none, none]) rfl ?_
    refine q_first ?_
    refine ew_add (ew_var (i := 1) (by exact rfl) hp19) (ew_var (i := 8) (by exact rfl) hp19') hwF hlen.symm H19 (Ex.refl H19) _ fun o3 H20 e20 hw3 => ?_
    refine st_is (σ' := [some (.ref a), some (.ref o), some (.ref wd), some (.ref g2), some (.ref bx), some (.int (p : Int)), some (.int b), some (.int (F.length : Int)), some (.ref o2), some (.int f), some (.ref gp), some (.ref gm), some (.ref gt), some (.ref gn), some (.str (S l)), some (.ref o3), none, none, none]) rfl ?_
    try dsimp only [gName]
    have hok : OkS F.length l := fun c hc => ⟨(sgn_ok _ w2 c (hlm c hc)).1, (sgn_ok _ w2 c (hlm c hc)).2.1⟩
    have hrow : Row l := ⟨by omega, fun c hc => (sgn_ok _ w2 c (hlm c hc)).2.2⟩
    refine q_asg (ev_val (ew_var (by exact rfl) hw3) (fun H => by exact ev_var rfl) hrow (by rw [red_len, gr_len]; exact hok)) fun H21 e21 => ?_
    rw [rem_wS]
    have E21 := e20.trans e21
    refine q_when (b := (!true || !decide (rem b (wS (gr F.length p fun k i => cl F k i + cl G k i) p l 0 l.length) = rem b (wS (gr F.length p fun k i => cl F k i + cl G k i) p l 0 l.length)))) (et_or (et_not (et_B (ev_isI (by exact ev_var rfl)))) fun _ => et_test (ev_op (by exact ev_var rfl) (ev_red (ev_call (ea_cons (by exact ev_var rfl) (ea_cons (by exact ev_var rfl) (ea_cons (by exact ev_var rfl) (ea_cons ev_c ea_nil)))) fun H22 e22 Q2 q2 E2 => ⟨gp, _, p, l, 0, rfl, ((gp19.ex E21).ex e22).gd, gr_wd, by omega, by omega, by rw [gr_len]; exact hok, q2⟩) (by exact ev_var rfl) (by omega)) rv_neII)) (fun hc => by simp at hc) (fun _ H22 e22 => ?_)
    have E22 := E21.trans e22
    refine s_ret (v := .bl (true && true)) (ev_andV (ev_isW (ew_var (by exact rfl) (hp19.ex E22)) (fun H => by exact ev_var rfl) (fun H => by exact ev_var rfl) (fun HH ee => ev_w2 (wd := wd) (p := (p : Int)) (b := b) (by exact ev_var rfl) (((X19.trans E22).trans ee) _ _ hwd)) (hF.ex (X19.trans E22))) fun _ => ev_isW (ew_var (by exact rfl) (hp19'.ex E22)) (fun H => by exact ev_var rfl) (fun H => by exact ev_var rfl) (fun HH ee => by exact ev_var rfl) (hG.ex (X19.trans E22))) fun H23 e23 => ?_
    exact q H23 ((X19.trans E22).trans e23)
end
end K54
namespace K54
open PySem PySem.Spec PyProof.Rows L2 Lc Evl
section
variable {P : Program} {w : World} {K : PySem.W.Frag} {mg : Str → Option Value} {base : Heap}
/-! ### keywords alone -/
theorem kb_Weights (T : Tx K mg w) : KBn K (fdOf K (d_Weights_init.at_ K)) ps_Weights_init 1 ["table", "modulus", "period"] (fun us ws => us ++ ws.reverse) (fun vs zs => vs ++ zs.reverse) := by
  obtain ⟨oc, od, dV, kV, doc, pm, an, cdv, ct, osl, e, lk, hcd, hD, hK⟩ := (h_Weights_init T).ex
  rw [e]
  rcases hD with ⟨_, rfl⟩ | ⟨e2, _⟩
  · exact ⟨fun s us ws X h1 h2 => match us, ws, h1, h2 with | [_], [_, _, _], _, _ => .of_eq rfl, fun r1 r2 => r1.append r2.reverse⟩
  · exact absurd rfl e2
theorem ew_mkK {σ : L2.St} {H : Hp} {t1 t2 t3 : TE} {t : Addr} {p b : Int} {G : List (List Int)} (h1 : Ev t1 σ H (.ref t)) (ht : Tb H t G) (h2 : Ev t2 σ H (.int b)) (h3 : Ev t3 σ H (.int p)) (hpn : part p b G = none) :
    EvW K (tMakeK (cW K) 0 3 (sp_Weights_init K) (fun vs zs => vs ++ zs.reverse) E0 tNil (tCons t1 (tCons t2 (tCons t3 tNil)))) σ H p b (red b G) := fun H1 e Q q =>
  h1 H1 e _ fun H2 e2 => h2 H2 (e.trans e2) _ fun H3 e3 => h3 H3 ((e.trans e2).trans e3) _ fun H4 e4 => ⟨rfl, rfl, fun x dx hx hd hne =>
    mk_W (Q := Q) hx hd hne (ht.ex (((e.trans e2).trans e3).trans e4)) (sm_of hpn) (fun _ H5 e5 hw => q x H5 (((e2.trans e3).trans e4).trans e5) hw) fun z hz => by rw [hpn] at hz; cases hz⟩
/-! ### numbers drawn, what stands beside the box read too -/
def EvJ (b : Addr) (te : TE) (σ : L2.St) (H : Hp) (Pd : Int → Prop) : Prop := ∀ H1, ExB b H H1 → Bx H1 b → ∀ Q : VK, (∀ d H2, Pd d → ExB b H1 H2 → Bx H2 b → Q (.int d) H2) → te σ H1 Q
theorem ej_of {b : Addr} {te : TE} {σ : L2.St} {H : Hp} {Pd : Int → Prop} (h : EvI b te σ Pd) : EvJ b te σ H Pd := fun H1 _ hb Q q => h H1 hb Q q
theorem ej_is {b : Addr} {te : TE} {σ : L2.St} {H : Hp} {n : Int} (h : ∀ H1, ExB b H H1 → Ev te σ H1 (.int n)) : EvJ b te σ H (· = n) := fun H1 e hb Q q => h H1 e H1 (Ex.refl H1) _ fun H2 e2 => q n H2 rfl (ExB.of e2) (hb.ex e2)
theorem ej_op {b : Addr} {ta tb : TE} {σ : L2.St} {H : Hp} {g : Int → Int → Int} {Pa Pb Pd : Int → Prop} (ha : EvJ b ta σ H Pa) (hb : EvJ b tb σ H Pb) (h : ∀ x y, Pa x → Pb y → Pd (g x y)) : EvJ b (tOp (rI0 fun i j => .int (g i j)) ta tb) σ H Pd := fun H1 e b1 Q q =>
  ha H1 e b1 _ fun x H2 hx e2 b2 => hb H2 (e.trans e2) b2 _ fun y H3 hy e3 b3 => ⟨x, y, rfl, rfl, q _ H3 (h x y hx hy) (e2.trans e3) b3⟩
theorem ej_opC {b : Addr} {ta tb : TE} {σ : L2.St} {H : Hp} {C : Int → Int → Prop} {g : Int → Int → Int} {Pa Pb Pd : Int → Prop} (ha : EvJ b ta σ H Pa) (hb : EvJ b tb σ H Pb) (hc : ∀ x y, Pa x → Pb y → C x y) (h : ∀ x y, Pa x → Pb y → Pd (g x y)) : EvJ b (tOp (rI C fun i j => .int (g i j)) ta tb) σ H Pd := fun H1 e b1 Q q =>
  ha H1 e b1 _ fun x H2 hx e2 b2 => hb H2 (e.trans e2) b2 _ fun y H3 hy e3 b3 => ⟨x, y, rfl, rfl, hc x y hx hy, q _ H3 (h x y hx hy) (e2.trans e3) b3⟩
theorem db_turnJ {b : Addr} {H H' : Hp} {te : TE} {Pd : Nat → Int → Prop} {Dl : Addr} {i : Nat} {σ2 : L2.St} (hDb : Dl ≠ b) (p : Db b H Pd Dl i H') (hi : i < 50000) (he : EvJ b te σ2 H (Pd i)) :
    tYes σ2 H' fun bb H3 => if bb = true then te σ2 H3 fun y H4 => ∃ acc, H4 Dl = some (.lst acc) ∧ acc.length < sizeLine ∧ Db b H Pd Dl (i + 1) (L2.upd H4 Dl (.lst (acc ++ [y]))) else Db b H Pd Dl (i + 1) H3 := by
  obtain ⟨hD, hb, e, row, hl, h1, hp⟩ := p
  show te σ2 H' fun y H4 => ∃ acc, H4 Dl = some (.lst acc) ∧ acc.length < sizeLine ∧ Db b H Pd Dl (i + 1) (L2.upd H4 Dl (.lst (acc ++ [y])))
  refine he H' e hb _ fun d H4 hd e4 b4 => ⟨row.map V.int, e4 _ _ hDb h1, sz_lt (by rw [List.length_map]; omega), hD, b4.put2 hDb, (e.trans e4).mut hD, row ++ [d], by simp [hl], ?_, ?_⟩
  · rw [upd_same, List.map_append]
    rfl
  · intro k hk
    rcases Nat.lt_or_ge k i with hlt | hge
    · have e1 : (row ++ [d]).getD k 0 = row.getD k 0 := by
        rw [List.getD_eq_getElem?_getD, List.getD_eq_getElem?_getD, List.getElem?_append_left (by omega)]
      rw [e1]
      exact hp k hlt
    · have ek : k = i := by omega
      subst ek
      have e1 : (row ++ [d]).getD k 0 = d := by
        rw [List.getD_eq_getElem?_getD, List.getElem?_append_right (by omega), hl, Nat.sub_self]
        rfl
      rw [e1]
      exact hd
theorem rb_LJ {b : Addr} {σ : L2.St} {H : Hp} {te : TE} {Pd : Nat → Int → Prop} {a : Addr} {xs : List V} {j : Nat} {vs : List Nat} {tl : TE} (h : ∀ H1, Ev tl σ H1 (.ref a)) (hab : a ≠ b) (hx : SqL K H a xs) (hz : xs.length ≤ 40000) (hw : ∀ x, wipe ((wipe σ vs).set j (some x)) vs = wipe σ vs)
    (he : ∀ (i : Nat) x, xs[i]? = some x → EvJ b te ((wipe σ vs).set j (some x)) H (Pd i)) : EvRB b (tLc (iList K tl) (gName j) tYes te vs) σ H fun row => row.length = xs.length ∧ ∀ k, k < xs.length → Pd k (row.getD k 0) := fun H0 e0 b0 Q q => h H0 H0 (Ex.refl H0) _ fun H1 e1 => ⟨a, rfl, ⟨xs, ex_l e1 (e0.seq hab hx)⟩, fun Dl hD =>
  lc_list (xs := xs) (Db b H1 Pd Dl) (db_start (b0.ex e1) hD) (fun i H' _ p => p.ex.seq hab (ex_l e1 (e0.seq hab hx))) (fun i x H' hi p => ⟨hw x, db_turnJ (bx_ne (b0.ex e1) hD) p (by have := (List.getElem?_eq_some_iff.mp hi).1; omega) (fun H2 e2 b2 => he i x hi H2 ((e0.trans (ExB.of e1)).trans e2) b2)⟩) (fun H' p => by
    obtain ⟨c1, c2, c3, row, c4, c5, c6⟩ := p
    exact q Dl row H' (fresh_back e1 c1) ((ExB.of e1).trans c3) c2 c5 ⟨c4, c6⟩)⟩
/-! ### one cell changed -/
theorem rw_mut {H : Hp} {rs : List Addr} {G : List (List Int)} {i : Nat} {row : List Int} (h : Rw .lst H rs G) (hn : rs.Nodup) (hi : i < G.length) : Rw .lst (upd H (rs.getD i 0) (.lst (row.map V.int))) rs (G.set i row) := by
  refine ⟨by rw [List.length_set]; exact h.len, fun k hk => ?_⟩
  rw [List.length_set] at hk
  by_cases e : i = k
  · subst e
    have e2 : (G.set i row).getD i [] = row := by
      rw [List.getD_eq_getElem?_getD, List.getElem?_set_self hk]
      rfl
    rw [e2]
    exact upd_same
  · have e2 : (G.set i row).getD k [] = G.getD k [] := by
      rw [List.getD_eq_getElem?_getD, List.getD_eq_getElem?_getD, List.getElem?_set_ne e]
    have hne : rs.getD k 0 ≠ rs.getD i 0 := fun z => e (by
      have k1 : k < rs.length := by rw [h.len]; exact hk
      have i1 : i < rs.length := by rw [h.len]; exact hi
      rw [List.getD_eq_getElem?_getD, List.getD_eq_getElem?_getD, List.getElem?_eq_getElem k1, List.getElem?_eq_getElem i1] at z
      exact ((List.getElem_inj hn).mp z).symm)
    rw [e2, upd_ne hne]
    exact h.row k hk
theorem rem_ne {b x s : Int} (hb : b = 0 ∨ 2 ≤ b) (h0 : 1 ≤ s) (h1 : b ≠ 0 → s < b) : rem b (x + s) ≠ rem b x := by
  intro z
  unfold rem at z
  split at z
  · omega
  · rename_i hb0
    have hlt := h1 hb0
    have a1 := Int.emod_nonneg x hb0
    have a2 := Int.emod_lt_of_pos x (show 0 < b by omega)
    have e : (x + s) % b = (x % b + s) % b := by rw [Int.emod_add_emod]
    rw [e] at z
    rcases Int.lt_or_le (x % b + s) b with hh | hh
    · rw [Int.emod_eq_of_lt (by omega) hh] at z
      omega
    · have e2 : (x % b + s) % b = x % b + s - b := by
        rw [← Int.sub_emod_right, Int.emod_eq_of_lt (by omega) (by omega)]
      omega
theorem cl_set {G : List (List Int)} {i j : Nat} {v : Int} (hi : i < G.length) (hj : j < (G.getD i []).length) : cl (G.set i ((G.getD i []).set j v)) i j = v := by
  unfold cl
  have e1 : (G.set i ((G.getD i []).set j v)).getD i [] = (G.getD i []).set j v := by
    rw [List.getD_eq_getElem?_getD, List.getElem?_set_self hi]
    rfl
  rw [e1, List.getD_eq_getElem?_getD, List.getElem?_set_self hj]
  rfl
theorem wd_set {m : Nat} {G : List (List Int)} {i : Nat} {row : List Int} (h : Wd m G) (hr : row.length = m) : Wd m (G.set i row) := fun r hm => by
  rcases List.mem_or_eq_of_mem_set hm with h1 | h1
  · exact h r h1
  · rw [h1]
    exact hr
end
end K54
namespace K54
open PySem PySem.Spec PyProof.Rows L2 Lc Evl
section
variable {P : Program} {w : World} {K : PySem.W.Frag} {mg : Str → Option Value} {base : Heap}
/-! ### weights compared -/
def sp_law_equal (K : PySem.W.Frag) : Sp := fun vs H Q _ => ∃ (a o wd g : Addr) (ns : List Int) (p : Nat) (b : Int) (F : List (List Int)), vs = [.ref a, .ref o, .ref wd] ∧ SqL K H a (ns.map V.int) ∧ Wt K H o p b (red b F) ∧ Wl H wd g p b ∧ Gd H g F ∧ Wd p F ∧ RetV (.bl true) H Q
theorem ok_law_equal (T : Tx K mg w) : OkD P w K mg base 6 d_law_equal ps_law_equal (sp_law_equal K) := by
  refine (h_law_equal T).ok sc_law_equal (fun vs H Q E h => ?_) (fun cdv A outer s H vs Q E hr h => ⟨_,
      (pss_cons (ps_set (i := 3) sc_law_equal.nd rfl (Or.inr rfl) (pe_call (ok_law_box (P := P) (w := w) (base := base) T) (hr.mono (by decide)) (by rfl) (m_law_box T) (k_law_box T) (b_law_box T) .nil passN (pa_cons (pv 0) (pa_cons pe_int pa_nil))))
      (pss_cons (ps_setLc (i := 4) (own := [("entries", 10)]) (g := gName 10) rfl sc_law_equal.nd rfl rfl (sw_true rfl rfl rfl (by decide +kernel)) (pi_list (pe_ix ix_list (pv 2) pe_int (fun _ _ => rfl))) (blkOk_by (own := [("entries", 10)]) (N := ns_law_equal) (sc := (defScope st_law_equal)) (by decide +kernel)) (fun _ _ _ _ _ => pg_name (i := 10) sc_law_equal.nd rfl (Or.inl rfl)) (fun _ _ _ _ _ => pts_nil) (fun _ _ _ _ _ => (pe_lc (own := [("entry", 11)]) (g := gName 11) rfl sc_law_equal.nd (pi_listK K rfl (pv 10)) (blkOk_by (own := [("entry", 11)]) (N := ns_law_equal) (sc := (relS _ (defScope st_law_equal))) (by decide +kernel)) (fun _ _ _ _ _ => pg_name (i := 11) sc_law_equal.nd rfl (Or.inl rfl)) (fun _ _ _ _ _ => pts_nil) (fun _ _ _ _ _ => (pe_op op_add (pv 11) (pe_op op_mul (pe_ix (show IxR _ (rIxL K) from ix_list) (pv 2) pe_int (fun _ _ => rfl)) (pe_op op_sub (pe_call (ok_law_take (P := P) (w := w) (base := base) T) (hr.mono (by decide)) (by rfl) (m_law_take T) (k_law_take T) (b_law_take T) .nil passN (pa_cons (pv 3) (pa_cons pe_int pa_nil))) pe_int)))))))
      (pss_cons (ps_if (pt_not (pt_cmpR (op_eqOwn (ok_Weights_eq (P := P) (w := w) (base := base) T) (hr.mono (by decide)) (me_Weights_eq T).at_ (me_Weights_eq T).fn (b_Weights_eq T) passN) (pe_makeK0 (mk_Weights T) (ok_Weights_init (P := P) (w := w) (base := base) T) (hr.mono (by decide)) (by rfl) (m_Weights T) (kb_Weights T) passN (pk_cons (pv 4) (pk_cons (pe_ix ix_list (pv 2) pe_int (fun _ _ => rfl)) (pk_cons (pe_ix ix_list (pv 2) pe_int (fun _ _ => rfl)) pk_nil)))) (pv 1) (nomark _))) (pss_one (ps_ret pe_bl)) pss_nil)
      (pss_cons (ps_set (i := 5) sc_law_equal.nd rfl (Or.inl rfl) (pe_call (ok_law_copy (P := P) (w := w) (base := base) T) (hr.mono (by decide)) (by rfl) (m_law_copy T) (k_law_copy T) (b_law_copy T) .nil passN (pa_cons (pv 4) pa_nil)))
      (pss_cons (ps_set (i := 6) sc_law_equal.nd rfl (Or.inl rfl) (pe_ix ix_list (pv 5) (pe_call (ok_law_take (P := P) (w := w) (base := base) T) (hr.mono (by decide)) (by rfl) (m_law_take T) (k_law_take T) (b_law_take T) .nil passN (pa_cons (pv 3) (pa_cons (pe_callB call_len (by rfl) (m_len T) (by decide +kernel) (pa_cons (pv 4) pa_nil)) pa_nil))) (fun _ _ => rfl)))
      (pss_cons (ps_set (i := 7) sc_law_equal.nd rfl (Or.inl rfl) (pe_call (ok_law_take (P := P) (w := w) (base := base) T) (hr.mono (by decide)) (by rfl) (m_law_take T) (k_law_take T) (b_law_take T) .nil passN (pa_cons (pv 3) (pa_cons (pe_ix ix_list (pv 2) pe_int (fun _ _ => rfl)) pa_nil))))
      (pss_cons (ps_set (i := 8) sc_law_equal.nd rfl (Or.inl rfl) (pe_op op_add pe_int (pe_call (ok_law_take (P := P) (w := w) (base := base) T) (hr.mono (by decide)) (by rfl) (m_law_take T) (k_law_take T) (b_law_take T) .nil passN (pa_cons (pv 3) (pa_cons pe_int pa_nil)))))
      (Evl.pss_cut (ps_if (pt_cmpR op_gt (pe_ix ix_list (pv 2) pe_int (fun _ _ => rfl)) pe_int (nomark _)) (pss_one (ps_set (i := 8) sc_law_equal.nd rfl (Or.inl rfl) (pe_op op_add pe_int (pe_call (ok_law_take (P := P) (w := w) (base := base) T) (hr.mono (by decide)) (by rfl) (m_law_take T) (k_law_take T) (b_law_take T) .nil passN (pa_cons (pv 3) (pa_cons (pe_op op_sub (pe_ix ix_list (pv 2) pe_int (fun _ _ => rfl)) pe_int) pa_nil)))))) pss_nil)
      (pss_cons (ps_asg (pe_op op_add (pe_ix ix_list (pv 6) (pv 7) (fun _ _ => rfl)) (pv 8)) (pg_sub (pv 6) (pv 7) set_list))
      (pss_cons (ps_set (i := 9) sc_law_equal.nd rfl (Or.inl rfl) (pe_make (mk_Weights T) (ok_Weights_init (P := P) (w := w) (base := base) T) (hr.mono (by decide)) (by rfl) (m_Weights T) (b_Weights_init T) .nil passN (pa_cons (pe_ix ix_list (pv 2) pe_int (fun _ _ => rfl)) (pa_cons (pe_ix ix_list (pv 2) pe_int (fun _ _ => rfl)) (pa_cons (pv 5) pa_nil)))))
      (pss_one (ps_ret (pe_and (pe_not (pe_cmpR (op_eqOwn (ok_Weights_eq (P := P) (w := w) (base := base) T) (hr.mono (by decide)) (me_Weights_eq T).at_ (me_Weights_eq T).fn (b_Weights_eq T) passN) (pv 9) (pv 1) (nomark _))) (pe_one (pe_not (pe_cmpR (op_eqOwn (ok_Weights_eq (P := P) (w := w) (base := base) T) (hr.mono (by decide)) (me_Weights_eq T).at_ (me_Weights_eq T).fn (b_Weights_eq T) passN) (pv 1) (pv 9) (nomark _))))))))))))))))), ?_⟩)
  · obtain ⟨a, o, wd, g, ns, p, b, F, rfl, _⟩ := h
    rfl
  · obtain ⟨a, o, wd, g, ns, p, b, F, rfl, hs, hw, hwd, ⟨rs, hg, hr⟩, hwF, q⟩ := h
    have hp0 := hw.1
    rw [part_red] at hp0
    obtain ⟨w1, w2, w3, w4, w5⟩ := part_w hp0
    refine q_first ?_
    refine cons_fst ⟨_, rfl, ?_⟩
    refine ⟨a, ns, 6, rfl, hs, by decide, by decide, fun bx H1 hbx e1 b1 => ?_⟩
    try dsimp only [gName]
    have hwdb : wd ≠ bx := fun z => by
      have h : H wd = _ := hwd
      rw [z, hbx] at h
      cases h
    have hgb : g ≠ bx := fun z => by rw [z, hbx] at hg; cases hg
    refine q_first ?_
    refine gb_L (b := bx) (a := g) (xs := rs.map V.ref) (Pr := fun i row => row.length = p ∧ ∀ k, k < p → rem b (row.getD k 0) = rem b (cl F i k)) b1 (fun H2 e2 => ev_w2 (wd := wd) (p := (p : Int)) (b := b) (by exact ev_var rfl) ((e1.trans e2) _ _ hwd)) hgb (sq_of (e1 _ _ hg)) (by rw [List.length_map, hr.len]; omega) (fun x => rfl) (fun i x H2 e2 hi => ?_) (fun sp ss S H2 hsp x2 b2 h2 hr2 hf2 hnd2 hS => ?_)
    · obtain ⟨hk, rfl, hrow⟩ := hr.at_ hi
      have hrb : rs.getD i 0 ≠ bx := fun z => by rw [z, hbx] at hrow; cases hrow
      have lw := hwF.at_ hk
      have h := rb_LJ (K := K) (b := bx) (σ := (wipe ((L2.start ns_law_equal [V.ref a, .ref o, .ref wd]).set 3 (some (.ref bx))) [10]).set 10 (some (.ref (rs.getD i 0)))) (H := H2) (te := tOp (rI0 fun i j => V.int (i + j)) (tVar 11) (tOp (rI CMul fun i j => V.int (i * j)) (tOp (rIxL K) (tVar 2) (tC (V.int 1))) (tOp (rI0 fun i j => V.int (i - j)) (tCall sp_law_take [] E0 (tCons (tVar 3) (tCons (tC (V.int 5)) tNil))) (tC (V.int 2)))))
        (Pd := fun k d => rem b d = rem b (cl F i k)) (a := rs.getD i 0) (xs := (F.getD i []).map V.int) (j := 11) (vs := [11]) (tl := tVar 10) (fun HH => ev_var rfl) hrb (sq_of ((e1.trans e2) _ _ hrow)) (by rw [List.length_map, lw]; omega) (fun x => rfl) (fun k x hk2 => by
          obtain ⟨_, rfl⟩ := int_at hk2
          exact ej_op (Pa := (· = cl F i k)) (Pb := fun y => ∃ t, y = b * t) (ej_of (ei_var rfl)) (ej_opC (Pa := (· = b)) (Pb := fun _ => True) (ej_is fun H3 e3 => ev_w1 (wd := wd) (g := g) (p := (p : Int)) (ev_var rfl) (e3 _ _ hwdb ((e1.trans e2) _ _ hwd))) (ej_of (ei_op (ei_take (many := 5) rfl (fun H => ev_c) (by decide) (by decide)) ei_c fun _ _ _ _ => trivial)) (fun x y hx _ => by subst hx; exact .inl ⟨by omega, by omega⟩) fun x y hx _ => ⟨y, by rw [hx]⟩) fun x y hx hy => by
            obtain ⟨t, rfl⟩ := hy
            subst hx
            exact rem_eq rfl)
      intro H3 e3 b3 Q3 q3
      exact h H3 e3 b3 Q3 fun pp row H4 hp e4 b4 h4 hh => q3 pp row H4 hp e4 b4 h4 ⟨by rw [hh.1, List.length_map, lw], fun k hk => hh.2 k (by rw [List.length_map, lw]; exact hk)⟩
    try dsimp only [gName]
    refine st_is (σ' := [some (.ref a), some (.ref o), some (.ref wd), some (.ref bx), some (.ref sp), none, none, none, none, none, none, none]) rfl ?_
    rw [List.length_map, hr.len] at hS
    obtain ⟨hSl, hSr⟩ := hS
    have hSw : Wd p S := wd_of hSl fun i hi => (hSr i hi).1
    have hred : red b S = red b F := by
      rw [gr_self hSw, gr_self hwF, gr_red, gr_red, hSl]
      exact gr_congr fun k i hk hi => (hSr k hk).2 i hi
    have hpS : part (p : Int) b S = none := by rw [part_gr hSw hwF hSl]; exact hp0
    have X2 : Ex H H2 := ex_new hbx e1 x2
    refine q_when (b := !(decide ((p : Int) = p) && (decide (b = b) && decide (red b S = red b F)))) (et_not (et_test (ev_eqW (ew_mkK (t := sp) (by exact ev_var rfl) ⟨ss, .inl h2, hr2⟩ (ev_w1 (wd := wd) (g := g) (p := (p : Int)) (by exact ev_var rfl) (X2 _ _ hwd)) (ev_w0 (wd := wd) (g := g) (b := b) (by exact ev_var rfl) (X2 _ _ hwd)) hpS) (ew_var (by exact rfl) (hw.ex X2))))) (fun hc => by rw [hred] at hc; simp at hc) (fun _ H3 e3 => ?_)
    have b3 := b2.ex e3
    refine q_first ?_
    refine cons_fst ⟨_, rfl, ?_⟩
    refine ⟨sp, S, rfl, ⟨ss, e3 _ _ h2, hr2.ex e3⟩, by omega, fun c cs H4 hc e4 h4 hr4 hf4 hnd4 => ?_⟩
    try dsimp only [gName]
    refine st_is (σ' := [some (.ref a), some (.ref o), some (.ref wd), some (.ref bx), some (.ref sp), some (.ref c), none, none, none, none, none, none]) rfl ?_
    have hcb : c ≠ bx := bx_ne b3 hc
    have hcsb : ∀ r ∈ cs, r ≠ bx := fun r hr => bx_ne b3 (hf4 r hr)
    have b4 := b3.ex e4
    have X4 : Ex H H4 := (X2.trans e3).trans e4
    refine q_first ?_
    refine op_fst ⟨_, rfl, ?_⟩
    refine sp_take_then (b := bx) (i := 3) (many := (S.length : Int)) rfl b4 (ev_lenG (g := sp) (by exact ev_var rfl) ⟨ss, (e3.trans e4) _ _ h2, hr2.ex (e3.trans e4)⟩) (by omega) (Nat.lt_of_le_of_lt (show (S.length : Int).natAbs ≤ 4 by omega) (by decide)) fun d H5 d0 d1 e5 b5 => ?_
    obtain ⟨i, rfl⟩ : ∃ i : Nat, d = (i : Int) := ⟨d.toNat, by omega⟩
    have hi : i < S.length := by omega
    have hic : i < cs.length := by rw [hr4.len]; exact hi
    refine ⟨c, cs.map V.ref, (i : Int), .ref (cs.getD i 0), rfl, rfl, sq_of (e5 _ _ hcb h4), by
      have := atI_ref (rs := cs) (i := (i : Int)) (by omega) (by omega)
      rwa [Int.toNat_natCast] at this, ?_⟩
    try dsimp only [gName]
    refine st_is (σ' := [some (.ref a), some (.ref o), some (.ref wd), some (.ref bx), some (.ref sp), some (.ref c), some (.ref (cs.getD i 0)), none, none, none, none, none]) rfl ?_
    have X5 : Ex H H5 := ex_new hbx e1 ((x2.trans (ExB.of (e3.trans e4))).trans e5)
    refine q_first ?_
    refine sp_take_then (b := bx) (i := 3) (many := (p : Int)) rfl b5 (ev_w0 (wd := wd) (g := g) (b := b) (by exact ev_var rfl) (X5 _ _ hwd)) (by omega) (Nat.lt_of_le_of_lt (show (p : Int).natAbs ≤ 12 by omega) (by decide)) fun d H6 d0 d1 e6 b6 => ?_
    obtain ⟨j, rfl⟩ : ∃ j : Nat, d = (j : Int) := ⟨d.toNat, by omega⟩
    have hj : j < p := by omega
    try dsimp only [gName]
    refine st_is (σ' := [some (.ref a), some (.ref o), some (.ref wd), some (.ref bx), some (.ref sp), some (.ref c), some (.ref (cs.getD i 0)), some (.int (j : Int)), none, none, none, none]) rfl ?_
    have x46 := e5.trans e6
    refine q_asgI (b := bx) (Pd := fun s => 1 ≤ s ∧ s < 10) (ei_op ei_c (ei_take (many := 9) rfl (fun H => ev_c) (by decide) (by decide)) fun x y hx hy => by subst hx; omega) b6 fun s0 H7 hs0 e7 b7 => ?_
    refine st_is (σ' := [some (.ref a), some (.ref o), some (.ref wd), some (.ref bx), some (.ref sp), some (.ref c), some (.ref (cs.getD i 0)), some (.int (j : Int)), some (.int s0), none, none, none]) rfl ?_
    have x47 := x46.trans e7
    refine q_cut (M := fun σ' H' => ∃ s : Int, σ' = [some (.ref a), some (.ref o), some (.ref wd), some (.ref bx), some (.ref sp), some (.ref c), some (.ref (cs.getD i 0)), some (.int (j : Int)), some (.int s), none, none, none] ∧ ExB bx H4 H' ∧ 1 ≤ s ∧ (b ≠ 0 → s < b)) ?_ ?_
    · have X7 : Ex H H7 := ex_new hbx e1 ((x2.trans (ExB.of (e3.trans e4))).trans x47)
      refine s_when (b := decide (b > 0)) (et_test (ev_op (ev_w1 (wd := wd) (g := g) (p := (p : Int)) (by exact ev_var rfl) (X7 _ _ hwd)) ev_c rv_I0)) (fun hc H8 e8 => ?_) (fun hc H8 e8 => ?_)
      · have hb0 : b > 0 := of_decide_eq_true hc
        refine asg_fst ?_
        refine op_fst ?_
        refine sp_take_then (b := bx) (i := 3) (many := b - 1) rfl (b7.ex e8) (ev_op (ev_w1 (wd := wd) (g := g) (p := (p : Int)) (by exact ev_var rfl) ((X7.trans e8) _ _ hwd)) ev_c rv_I0) (by omega) (Nat.lt_of_le_of_lt (show (b - 1).natAbs ≤ 97 by omega) (by decide)) fun d H9 d0 d1 e9 b9 => ?_
        exact ⟨1, d, rfl, rfl, 1 + d, rfl, (x47.trans (ExB.of e8)).trans e9, by omega, fun _ => by omega⟩
      · have hb0 : ¬ b > 0 := of_decide_eq_false hc
        exact ⟨s0, rfl, x47.trans (ExB.of e8), hs0.1, fun z => absurd (by omega) hb0⟩
    rintro σ' H8 ⟨s, rfl, x48, hs1, hsb⟩
    have hr8 : Rw .lst H8 cs S := hr4.exB x48 hcsb
    have h8 := x48 _ _ hcb h4
    have hrow8 := hr8.row i hi
    have lwS := hSw.at_ hi
    have hn : cs.Nodup := (List.nodup_cons.mp hnd4).2
    have hcc : c ≠ cs.getD i 0 := fun z => (List.nodup_cons.mp hnd4).1 (by rw [z]; exact getD_mem hic)
    have hat := atI_int (row := S.getD i []) (i := (j : Int)) (by omega) (by rw [lwS]; omega)
    rw [Int.toNat_natCast] at hat
    have X8 : Ex H H8 := ex_new hbx e1 ((x2.trans (ExB.of (e3.trans e4))).trans x48)
    refine q_setL (l := cs.getD i 0) (xs := (S.getD i []).map V.int) (j := j) (v := .int (cl S i j + s)) hrow8 (ev_op (x := .int (cl S i j)) (ev_op (by exact ev_var rfl) (by exact ev_var rfl) (rv_ixL (sq_of hrow8) hat)) (by exact ev_var rfl) rv_I0) (by exact ev_var rfl) (by exact ev_var rfl) (by rw [List.length_map, lwS]; exact hj) fun H9 e9 => ?_
    have hmut := rw_mut (row := (S.getD i []).set j (cl S i j + s)) (hr8.ex e9) hn hi
    have hset : ((S.getD i []).map V.int).set j (.int (cl S i j + s)) = ((S.getD i []).set j (cl S i j + s)).map V.int := List.map_set.symm
    rw [hset]
    have hcn : H (cs.getD i 0) = none := fresh_back (X2.trans e3) (hf4 _ (getD_mem hic))
    have X9 : Ex H (upd H9 (cs.getD i 0) (.lst (((S.getD i []).set j (cl S i j + s)).map V.int))) := (X8.trans e9).mut hcn
    have h9 : upd H9 (cs.getD i 0) (.lst (((S.getD i []).set j (cl S i j + s)).map V.int)) c = some (.lst (cs.map V.ref)) := by
      rw [upd_ne hcc]
      exact e9 _ _ h8
    generalize upd H9 (cs.getD i 0) (.lst (((S.getD i []).set j (cl S i j + s)).map V.int)) = H10 at hmut X9 h9 ⊢
    have hlr : ((S.getD i []).set j (cl S i j + s)).length = p := by rw [List.length_set, lwS]
    have hw2 : Wd p (S.set i ((S.getD i []).set j (cl S i j + s))) := wd_set hSw hlr
    have hpn : part (p : Int) b (S.set i ((S.getD i []).set j (cl S i j + s))) = none := by rw [part_gr hw2 hwF (by rw [List.length_set, hSl])]; exact hp0
    have hcell : cl (S.set i ((S.getD i []).set j (cl S i j + s))) i j = cl S i j + s := cl_set hi (by rw [lwS]; exact hj)
    have hdiff : red b (S.set i ((S.getD i []).set j (cl S i j + s))) ≠ red b F := fun z => by
      have h := congrArg (fun G => cl G i j) z
      try dsimp only at h
      rw [← hred, cl_red, cl_red, hcell] at h
      exact rem_ne (by omega) hs1 hsb h
    refine q_first ?_
    refine ew_mk (K := K) (p := (p : Int)) (b := b) (G := S.set i ((S.getD i []).set j (cl S i j + s))) (fun HH ee Q' q' => (ea_cons (ev_w0 (wd := wd) (g := g) (b := b) (by exact ev_var rfl) ((X9.trans ee) _ _ hwd)) (ea_cons (ev_w1 (wd := wd) (g := g) (p := (p : Int)) (by exact ev_var rfl) ((X9.trans ee) _ _ hwd)) (ea_cons (by exact ev_var rfl) ea_nil))) HH (Ex.refl HH) _ fun H11 e11 => q' c H11 e11 ⟨cs, .inl ((ee.trans e11) _ _ h9), hmut.ex (ee.trans e11)⟩) hpn H10 (Ex.refl H10) _ fun o2 H11 e11 hw3 => ?_
    try dsimp only [gName]
    refine s_ret (v := .bl ((!(decide ((p : Int) = p) && (decide (b = b) && decide (red b (S.set i ((S.getD i []).set j (cl S i j + s))) = red b F)))) && !(decide ((p : Int) = p) && (decide (b = b) && decide (red b F = red b (S.set i ((S.getD i []).set j (cl S i j + s)))))))) (ev_andV (ev_notV (ev_eqW (ew_var (by exact rfl) hw3) (ew_var (by exact rfl) (hw.ex (X9.trans e11))))) fun _ => ev_notV (ev_eqW (ew_var (by exact rfl) (hw.ex (X9.trans e11))) (ew_var (by exact rfl) hw3))) fun H12 e12 => ?_
    rw [decide_eq_false hdiff, decide_eq_false (Ne.symm hdiff)]
    simp only [Bool.and_false, Bool.not_false, Bool.and_true]
    exact q H12 ((X9.trans e11).trans e12)
end
end K54
namespace K54
open PySem PySem.Spec PyProof.Rows L2 Lc Evl
section
variable {P : Program} {w : World} {K : PySem.W.Frag} {mg : Str → Option Value} {base : Heap}
/-! ### unlike weights -/
theorem at0 {x : V} {xs : List V} : atI (x :: xs) 0 = some x := by
  have h := atI_i (xs := x :: xs) (i := 0) (by decide) (by rw [List.length_cons]; omega) V.non
  exact h
def sp_law_gives_up (K : PySem.W.Frag) : Sp := fun vs H Q _ => ∃ (o o2 pt : Addr) (mi : Bool) (p b p2 b2 : Int) (F G : List (List Int)) (z : Str) (zs : List Str), vs = [.ref o, .ref o2, .bl mi, .ref pt] ∧ Wt K H o p b F ∧ Wt K H o2 p2 b2 G ∧ unl p b p2 b2 F G = some z ∧ H pt = some (.lst ((z :: zs).map V.str)) ∧ RetV (.bl true) H Q
theorem ok_law_gives_up (T : Tx K mg w) : OkD P w K mg base 8 d_law_gives_up ps_law_gives_up (sp_law_gives_up K) := by
  refine (h_law_gives_up T).ok sc_law_gives_up (fun vs H Q E h => ?_) (fun cdv A outer s H vs Q E hr h => ⟨_,
      (pss_cons (L2N.ps_try_as (i := 4) (Wout := fun _ _ _ _ => False) rfl rfl sc_law_gives_up.nd rfl rfl ⟨rfl, by decide, Or.inl (m_InvalidWeight T)⟩ takes0N
        (fun W pn xe tk _ => pss_one (ps_if (pt_val (pv 2))
          (pss_one (ps_set (i := 5) sc_law_gives_up.nd rfl (Or.inl rfl) (pe_binS (ok_Weights_sub (P := P) (w := w) (base := base) T) (hr.mono (by decide)) (first_Weights T) (me_Weights_sub T).at_ (me_Weights_sub T).fn (b_Weights_sub T) (fun σ => L2N.passAt tk σ) (pv 0) (pv 1))))
          (pss_one (ps_set (i := 5) sc_law_gives_up.nd rfl (Or.inl rfl) (pe_binS (ok_Weights_add (P := P) (w := w) (base := base) T) (hr.mono (by decide)) (first_Weights T) (me_Weights_add T).at_ (me_Weights_add T).fn (b_Weights_add T) (fun σ => L2N.passAt tk σ) (pv 0) (pv 1))))))
        (fun a oe cls d pn hz hf => pss_one (ps_ret (pe_cmpR op_eq (pe_xf (x_InvalidWeight T).xf (x_InvalidWeight T).no hz.zc hf (pv 4)) (pe_ix (show IxR _ (rIxL K) from ix_list) (pv 3) pe_int (fun _ _ => rfl)) (nomark _)))))
      (pss_one (ps_ret (pe_and (pe_cmpR op_isN (pv 5) pe_non (nomark _)) (pe_one (pe_cmpR (op_eqD hr.units) (pv 3) (pe_lst pa_nil) (nomark _))))))), ?_⟩)
  · obtain ⟨o, o2, pt, mi, p, b, p2, b2, F, G, z, zs, rfl, _⟩ := h
    rfl
  · obtain ⟨o, o2, pt, mi, p, b, p2, b2, F, G, z, zs, rfl, h1, h2, hu, hp, q⟩ := h
    obtain ⟨dx, t, i1⟩ := h1.ins
    obtain ⟨dy, t2, i2⟩ := h2.ins
    refine s_if (b := mi) (et_B (ev_var rfl)) (fun _ H1 e1 => ?_) (fun _ H1 e1 => ?_)
    · refine asg_fst ?_
      refine ⟨_, rfl, _, rfl, o, dx, _, o2, dy, _, rfl, e1 _ _ i1, rfl, e1 _ _ i2, o, o2, p, b, p2, b2, F, G, rfl, h1.ex e1, h2.ex e1, ⟨fun hn => (by rw [hu] at hn; cases hn), fun z' hz' d H2 hd e2 hx => ?_⟩⟩
      have hzz : z = z' := by
        rw [hu] at hz'
        exact Option.some.inj hz'
      subst hzz
      refine ⟨true, exm_InvalidWeight T, fun _ a' ha => ?_, fun z => by cases z⟩
      dsimp only
      refine s_ret (v := .bl (decide (z = z))) (ev_op (x := .str z) (fun H3 e3 Q3 q3 => ⟨_, rfl, rfl, rfl, d, _, _, rfl, e3 _ _ hx, rfl, q3 H3 (Ex.refl H3)⟩) (ev_op (by exact ev_var rfl) ev_c (rv_ixL (v := .str z) (sq_of ((e1.trans e2) _ _ hp)) at0)) rv_eqTT) fun H3 e3 => ?_
      rw [decide_eq_true rfl]
      exact q H3 ((e1.trans e2).trans e3)
    · refine asg_fst ?_
      refine ⟨_, rfl, _, rfl, o, dx, _, o2, dy, _, rfl, e1 _ _ i1, rfl, e1 _ _ i2, o, o2, p, b, p2, b2, F, G, rfl, h1.ex e1, h2.ex e1, ⟨fun hn => (by rw [hu] at hn; cases hn), fun z' hz' d H2 hd e2 hx => ?_⟩⟩
      have hzz : z = z' := by
        rw [hu] at hz'
        exact Option.some.inj hz'
      subst hzz
      refine ⟨true, exm_InvalidWeight T, fun _ a' ha => ?_, fun z => by cases z⟩
      dsimp only
      refine s_ret (v := .bl (decide (z = z))) (ev_op (x := .str z) (fun H3 e3 Q3 q3 => ⟨_, rfl, rfl, rfl, d, _, _, rfl, e3 _ _ hx, rfl, q3 H3 (Ex.refl H3)⟩) (ev_op (by exact ev_var rfl) ev_c (rv_ixL (v := .str z) (sq_of ((e1.trans e2) _ _ hp)) at0)) rv_eqTT) fun H3 e3 => ?_
      rw [decide_eq_true rfl]
      exact q H3 ((e1.trans e2).trans e3)
theorem q_mkGB {σ : L2.St} {H : Hp} {bx : Addr} {t1 t2 t3 : TE} {p b : Int} {i : Nat} {D : Ends} {tz : TS} {Pg : List (List Int) → Prop} (hb : Bx H bx) (h1 : ∀ H1, Ev t1 σ H1 (.int p)) (h2 : ∀ H1, Ev t2 σ H1 (.int b)) (h3 : ∀ H1, Ex H H1 → Bx H1 bx → ∀ Q' : VK, (∀ t G H2, ExB bx H1 H2 → Bx H2 bx → Gd H2 t G → Pg G → Q' (.ref t) H2) → t3 σ H1 Q')
    (hp : ∀ G, Pg G → part p b G = none) (k : ∀ o G H2, ExB bx H H2 → Bx H2 bx → Wt K H2 o p b (red b G) → Pg G → tz D (σ.set i (some (.ref o))) H2) : tSeq (tAsg (tMake (cW K) (sp_Weights_init K) [] E0 (tCons t1 (tCons t2 (tCons t3 tNil)))) (gName i)) tz D σ H :=
  q_first (h1 H H (Ex.refl H) _ fun H1 e1 => h2 H1 H1 (Ex.refl H1) _ fun H2 e2 => h3 H2 (e1.trans e2) (hb.ex (e1.trans e2)) _ fun t G H3 e3 b3 hg hG x dx hx hd hne =>
    mk_W (Q := fun v H4 => tz D (σ.set i (some v)) H4) hx hd hne hg.tb (sm_of (hp G hG)) (fun _ H4 e4 hw => k x G H4 (((ExB.of (e1.trans e2)).trans e3).trans (ExB.of e4)) (b3.ex e4) hw hG) fun z hz => by rw [hp G hG] at hz; cases hz)
theorem not_fst {σ : L2.St} {H : Hp} {sp : Sp} {dvs : List V} {E : XK} {te : TE} {tr : TA} {t u : TS} {tz : TS} {D : Ends} (h : te σ H fun x H1 => tr σ H1 fun xs H2 => sp ((x :: xs) ++ dvs) H2 (fun x H1 => ∃ c, x = .bl c ∧ if (!c) = true then t { D with nx := tz D } σ H1 else u { D with nx := tz D } σ H1) E) : tSeq (tIfS (tNot (tB (tCall sp dvs E (tCons te tr)))) t u) tz D σ H := h
def sp_law_unlike (K : PySem.W.Frag) : Sp := fun vs H Q _ => ∃ (a o wd g : Addr) (ns : List Int) (p : Nat) (b : Int) (F : List (List Int)), vs = [.ref a, .ref o, .ref wd] ∧ SqL K H a (ns.map V.int) ∧ Wt K H o p b (red b F) ∧ Wl H wd g p b ∧ Gd H g F ∧ Wd p F ∧ RetV (.bl true) H Q
theorem ok_law_unlike (T : Tx K mg w) : OkD P w K mg base 9 d_law_unlike ps_law_unlike (sp_law_unlike K) := by
  refine (h_law_unlike T).ok sc_law_unlike (fun vs H Q E h => ?_) (fun cdv A outer s H vs Q E hr h => ⟨_,
      (pss_cons (ps_set (i := 3) sc_law_unlike.nd rfl (Or.inl rfl) (pe_call (ok_law_box (P := P) (w := w) (base := base) T) (hr.mono (by decide)) (by rfl) (m_law_box T) (k_law_box T) (b_law_box T) .nil passN (pa_cons (pv 0) (pa_cons pe_int pa_nil))))
      (pss_cons (ps_set (i := 4) sc_law_unlike.nd rfl (Or.inl rfl) (pe_op op_add pe_int (pe_call (ok_law_take (P := P) (w := w) (base := base) T) (hr.mono (by decide)) (by rfl) (m_law_take T) (k_law_take T) (b_law_take T) .nil passN (pa_cons (pv 3) (pa_cons pe_int pa_nil)))))
      (pss_cons (ps_set (i := 5) sc_law_unlike.nd rfl (Or.inl rfl) (pe_ix ix_list (pv 2) pe_int (fun _ _ => rfl)))
      (pss_cons (ps_set (i := 6) sc_law_unlike.nd rfl (Or.inl rfl) (pe_ix ix_list (pv 2) pe_int (fun _ _ => rfl)))
      (pss_cons (ps_set (i := 7) sc_law_unlike.nd rfl (Or.inl rfl) (pe_callB call_len (by rfl) (m_len T) (by decide +kernel) (pa_cons (pe_ix ix_list (pv 2) pe_int (fun _ _ => rfl)) pa_nil)))
      (pss_cons (ps_set (i := 8) sc_law_unlike.nd rfl (Or.inl rfl) (pe_lst pa_nil))
      (Evl.pss_cut (ps_if (pt_cmpR op_eq (pe_op op_mod (pe_callTy call_int1 (by rfl) (m_int T) (by decide +kernel) (pa_cons (pv 4) pa_nil)) pe_int) pe_int (nomark _)) (pss_cons (ps_set (i := 5) sc_law_unlike.nd rfl (Or.inl rfl) (pe_op op_add pe_int (pe_op op_mod (pe_callTy call_int1 (by rfl) (m_int T) (by decide +kernel) (pa_cons (pe_op op_add (pv 5) (pe_call (ok_law_take (P := P) (w := w) (base := base) T) (hr.mono (by decide)) (by rfl) (m_law_take T) (k_law_take T) (b_law_take T) .nil passN (pa_cons (pv 3) (pa_cons pe_int pa_nil)))) pa_nil)) pe_int)))
      (pss_one (ps_expr (pe_bm PySem.F.plainAttrs_list PySem.F.slot_list_append PySem.F.type_list_append mt_append (pv 8) (pa_cons pe_str pa_nil))))) pss_nil)
      (Evl.pss_cut (ps_if (pt_cmpR op_eq (pe_op op_mod (pe_callTy call_int1 (by rfl) (m_int T) (by decide +kernel) (pa_cons (pe_op op_fdivW (pv 4) pe_int) pa_nil)) pe_int) pe_int (nomark _)) (pss_cons (ps_if (pt_cmpR op_eq (pv 6) pe_int (nomark _)) (pss_one (ps_set (i := 6) sc_law_unlike.nd rfl (Or.inl rfl) (pe_op op_add pe_int (pe_call (ok_law_take (P := P) (w := w) (base := base) T) (hr.mono (by decide)) (by rfl) (m_law_take T) (k_law_take T) (b_law_take T) .nil passN (pa_cons (pv 3) (pa_cons pe_int pa_nil)))))) (pss_one (ps_set (i := 6) sc_law_unlike.nd rfl (Or.inl rfl) (pe_ix ix_list (pe_lst (pa_cons pe_int (pa_cons (pe_op op_add pe_int (pe_op op_mod (pe_callTy call_int1 (by rfl) (m_int T) (by decide +kernel) (pa_cons (pe_op op_add (pe_op op_sub (pv 6) pe_int) (pe_call (ok_law_take (P := P) (w := w) (base := base) T) (hr.mono (by decide)) (by rfl) (m_law_take T) (k_law_take T) (b_law_take T) .nil passN (pa_cons (pv 3) (pa_cons pe_int pa_nil)))) pa_nil)) pe_int)) pa_nil))) (pe_call (ok_law_take (P := P) (w := w) (base := base) T) (hr.mono (by decide)) (by rfl) (m_law_take T) (k_law_take T) (b_law_take T) .nil passN (pa_cons (pv 3) (pa_cons pe_int pa_nil))) (fun _ _ => rfl)))))
      (pss_one (ps_expr (pe_bm PySem.F.plainAttrs_list PySem.F.slot_list_append PySem.F.type_list_append mt_append (pv 8) (pa_cons pe_str pa_nil))))) pss_nil)
      (Evl.pss_cut (ps_if (pt_cmpR op_eq (pe_op op_fdivW (pv 4) pe_int) pe_int (nomark _)) (pss_cons (ps_set (i := 7) sc_law_unlike.nd rfl (Or.inl rfl) (pe_op op_add pe_int (pe_op op_mod (pe_callTy call_int1 (by rfl) (m_int T) (by decide +kernel) (pa_cons (pe_op op_add (pv 7) (pe_call (ok_law_take (P := P) (w := w) (base := base) T) (hr.mono (by decide)) (by rfl) (m_law_take T) (k_law_take T) (b_law_take T) .nil passN (pa_cons (pv 3) (pa_cons pe_int pa_nil)))) pa_nil)) pe_int)))
      (pss_one (ps_expr (pe_bm PySem.F.plainAttrs_list PySem.F.slot_list_append PySem.F.type_list_append mt_append (pv 8) (pa_cons pe_str pa_nil))))) pss_nil)
      (pss_cons (ps_set (i := 9) sc_law_unlike.nd rfl (Or.inl rfl) (pe_make (mk_Weights T) (ok_Weights_init (P := P) (w := w) (base := base) T) (hr.mono (by decide)) (by rfl) (m_Weights T) (b_Weights_init T) .nil passN (pa_cons (pv 5) (pa_cons (pv 6) (pa_cons (pe_call (ok_law_grid (P := P) (w := w) (base := base) T) (hr.mono (by decide)) (by rfl) (m_law_grid T) (k_law_grid T) (b_law_grid T) .nil passN (pa_cons (pv 3) (pa_cons (pv 5) (pa_cons (pv 7) (pa_cons pe_int pa_nil))))) pa_nil)))))
      (pss_cons (ps_if (pt_not (pt_val (pe_call (ok_law_gives_up (P := P) (w := w) (base := base) T) (hr.mono (by decide)) (by rfl) (m_law_gives_up T) (k_law_gives_up T) (b_law_gives_up T) .nil passN (pa_cons (pv 1) (pa_cons (pv 9) (pa_cons pe_bl (pa_cons (pv 8) pa_nil))))))) (pss_one (ps_ret pe_bl)) pss_nil)
      (pss_cons (ps_if (pt_not (pt_val (pe_call (ok_law_gives_up (P := P) (w := w) (base := base) T) (hr.mono (by decide)) (by rfl) (m_law_gives_up T) (k_law_gives_up T) (b_law_gives_up T) .nil passN (pa_cons (pv 1) (pa_cons (pv 9) (pa_cons pe_bl (pa_cons (pv 8) pa_nil))))))) (pss_one (ps_ret pe_bl)) pss_nil)
      (pss_cons (ps_if (pt_not (pt_val (pe_call (ok_law_gives_up (P := P) (w := w) (base := base) T) (hr.mono (by decide)) (by rfl) (m_law_gives_up T) (k_law_gives_up T) (b_law_gives_up T) .nil passN (pa_cons (pv 9) (pa_cons (pv 1) (pa_cons (pe_cmpR op_eq (pe_call (ok_law_take (P := P) (w := w) (base := base) T) (hr.mono (by decide)) (by rfl) (m_law_take T) (k_law_take T) (b_law_take T) .nil passN (pa_cons (pv 3) (pa_cons pe_int pa_nil))) pe_int (nomark _)) (pa_cons (pv 8) pa_nil))))))) (pss_one (ps_ret pe_bl)) pss_nil)
      (pss_one (ps_ret (pe_and (pe_not (pe_cmpR (op_eqOwn (ok_Weights_eq (P := P) (w := w) (base := base) T) (hr.mono (by decide)) (me_Weights_eq T).at_ (me_Weights_eq T).fn (b_Weights_eq T) passN) (pv 1) (pv 9) (nomark _))) (pe_one (pe_not (pe_cmpR (op_eqOwn (ok_Weights_eq (P := P) (w := w) (base := base) T) (hr.mono (by decide)) (me_Weights_eq T).at_ (me_Weights_eq T).fn (b_Weights_eq T) passN) (pv 9) (pv 1) (nomark _)))))))))))))))))))), ?_⟩)
  · obtain ⟨a, o, wd, g, ns, p, b, F, rfl, _⟩ := h
    rfl
  · obtain ⟨a, o, wd, g, ns, p, b, F, rfl, hs, hw, hwd, hF, hwF, q⟩ := h
    have hp0 := hw.1
    rw [part_red] at hp0
    obtain ⟨w1, w2, w3, w4, w5⟩ := part_w hp0
    refine q_first ?_
    refine cons_fst ⟨_, rfl, ?_⟩
    refine ⟨a, ns, 4, rfl, hs, by decide, by decide, fun bx H1 hbx e1 b1 => ?_⟩
    try dsimp only [gName]
    refine q_asgI (b := bx) (Pd := fun f => 1 ≤ f ∧ f < 8) (ei_op ei_c (ei_take (many := 7) rfl (fun H => ev_c) (by decide) (by decide)) fun x y hx hy => by subst hx; omega) b1 fun fl H2 hfl x2 b2 => ?_
    have X2 : Ex H H2 := ex_new hbx e1 x2
    refine q_asg (v := .int (p : Int)) (ev_w0 (wd := wd) (g := g) (b := b) (by exact ev_var rfl) (X2 _ _ hwd)) fun H3 e3 => ?_
    have X3 := X2.trans e3
    refine q_asg (v := .int b) (ev_w1 (wd := wd) (g := g) (p := (p : Int)) (by exact ev_var rfl) (X3 _ _ hwd)) fun H4 e4 => ?_
    have X4 := X3.trans e4
    refine q_asg (v := .int (F.length : Int)) (ev_lenG (ev_w2 (wd := wd) (p := (p : Int)) (b := b) (by exact ev_var rfl) (X4 _ _ hwd)) (hF.ex X4)) fun H5 e5 => ?_
    have e25 := (e3.trans e4).trans e5
    have b5 := b2.ex e25
    refine q_asgL (el_lst ea_nil (by simp)) fun pt H6 hpt e6 h6 => ?_
    have hptb : pt ≠ bx := bx_ne b5 hpt
    have b6 := b5.ex e6
    have x16 : ExB bx H1 H6 := x2.trans (ExB.of (e25.trans e6))
    have hptH : H pt = none := fresh_back (X2.trans e25) hpt
    have hpt1 : H1 pt = none := fresh_b x2 b2 (fresh_back e25 hpt)
    -- the period
    refine q_cut (M := fun σ' H' => ∃ (p2 : Nat) (zs : List Str), σ' = [some (.ref a), some (.ref o), some (.ref wd), some (.ref bx), some (.int fl), some (.int (p2 : Int)), some (.int b), some (.int (F.length : Int)), some (.ref pt), none] ∧ ExB bx H1 H' ∧ Bx H' bx ∧ H' pt = some (.lst (zs.map V.str)) ∧ zs.length ≤ 1 ∧ (1 ≤ p2 ∧ p2 ≤ 12) ∧ (fl % 2 = 1 → p2 ≠ p ∧ zs = [("period" : Str)]) ∧ (¬ fl % 2 = 1 → p2 = p ∧ zs = [])) ?_ ?_
    · refine s_when (b := decide (fl % 2 = 1)) (by first | ((with_reducible apply et_test); (repeat' (first | ((with_reducible refine ev_pow10 ?_ ?_ ?_) <;> first | rfl | decide) | (with_reducible refine fun (_ : _ = true) => ?_) | (with_reducible refine fun (_ : _ = false) => ?_) | (with_reducible exact ev_c) | ((with_reducible apply ev_var); rfl) | (with_reducible apply ev_op) | (with_reducible apply ev_un) | (with_reducible apply ev_cb) | (with_reducible apply ea_cons) | (with_reducible apply ev_andV) | (with_reducible apply ev_orV) | (with_reducible apply ev_notV) | (with_reducible apply ev_if) | (with_reducible apply eo_some) | (with_reducible apply el_lst) | (with_reducible exact ea_nil) | (with_reducible exact rv_I0) | (with_reducible exact ru_neg) | (with_reducible exact rv_ltS) | (with_reducible exact rv_inC) | (with_reducible exact rv_notInC) | (with_reducible exact rc_intI) | (with_reducible exact rc_intB) | (with_reducible exact rc_min2) | (with_reducible exact rc_isStr) | (with_reducible exact eo_none) | (with_reducible exact rv_inSS) | (with_reducible exact rv_notInSS) | (with_reducible exact rv_ltSS) | (with_reducible exact rv_eqSS) | (with_reducible exact rv_eqII) | (with_reducible exact rv_neII) | (with_reducible exact rv_neSS) | ((with_reducible refine rc_lenSS ?_); (first | assumption | omega | decide | (simp only [S_len] at *; omega))) | ((with_reducible refine rc_lenStr ?_); (first | assumption | omega | decide | (simp only [S_len] at *; omega))) | ((with_reducible refine rv_catSS ?_); (first | assumption | omega | decide | (simp only [S_len] at *; omega))) | (with_reducible exact rv_eq rfl) | (with_reducible exact rv_ne rfl) | ((with_reducible refine rc_lenS ?_); (first | assumption | omega | decide | (simp only [S_len] at *; omega))) | ((with_reducible refine rc_lenL ?_); assumption) | ((with_reducible apply rv_ixL); assumption; rfl) | ((with_reducible refine rv_catS ?_); (first | assumption | omega | decide | (simp only [S_len] at *; omega))) | ((with_reducible refine rv_I ?_); (first | (show (0 : Int) < _; (first | assumption | omega | decide | (simp only [S_len] at *; omega))) | exact .inr ⟨by decide, by decide⟩ | exact .inl ⟨by (first | assumption | omega | decide | (simp only [S_len] at *; omega)), by (first | assumption | omega | decide | (simp only [S_len] at *; omega))⟩ | exact .inr ⟨by (first | assumption | omega | decide | (simp only [S_len] at *; omega)), by (first | assumption | omega | decide | (simp only [S_len] at *; omega))⟩ | exact ⟨by decide, by decide, by decide⟩ | exact wide_div (b := 128) (by (first | assumption | omega | decide | (simp only [S_len] at *; omega))) (by (first | assumption | omega | decide | (simp only [S_len] at *; omega))) (by decide) (by decide)))))) | ((with_reducible apply et_B); (repeat' (first | ((with_reducible refine ev_pow10 ?_ ?_ ?_) <;> first | rfl | decide) | (with_reducible refine fun (_ : _ = true) => ?_) | (with_reducible refine fun (_ : _ = false) => ?_) | (with_reducible exact ev_c) | ((with_reducible apply ev_var); rfl) | (with_reducible apply ev_op) | (with_reducible apply ev_un) | (with_reducible apply ev_cb) | (with_reducible apply ea_cons) | (with_reducible apply ev_andV) | (with_reducible apply ev_orV) | (with_reducible apply ev_notV) | (with_reducible apply ev_if) | (with_reducible apply eo_some) | (with_reducible apply el_lst) | (with_reducible exact ea_nil) | (with_reducible exact rv_I0) | (with_reducible exact ru_neg) | (with_reducible exact rv_ltS) | (with_reducible exact rv_inC) | (with_reducible exact rv_notInC) | (with_reducible exact rc_intI) | (with_reducible exact rc_intB) | (with_reducible exact rc_min2) | (with_reducible exact rc_isStr) | (with_reducible exact eo_none) | (with_reducible exact rv_inSS) | (with_reducible exact rv_notInSS) | (with_reducible exact rv_ltSS) | (with_reducible exact rv_eqSS) | (with_reducible exact rv_eqII) | (with_reducible exact rv_neII) | (with_reducible exact rv_neSS) | ((with_reducible refine rc_lenSS ?_); (first | assumption | omega | decide | (simp only [S_len] at *; omega))) | ((with_reducible refine rc_lenStr ?_); (first | assumption | omega | decide | (simp only [S_len] at *; omega))) | ((with_reducible refine rv_catSS ?_); (first | assumption | omega | decide | (simp only [S_len] at *; omega))) | (with_reducible exact rv_eq rfl) | (with_reducible exact rv_ne rfl) | ((with_reducible refine rc_lenS ?_); (first | assumption | omega | decide | (simp only [S_len] at *; omega))) | ((with_reducible refine rc_lenL ?_); assumption) | ((with_reducible apply rv_ixL); assumption; rfl) | ((with_reducible refine rv_catS ?_); (first | assumption | omega | decide | (simp only [S_len] at *; omega))) | ((with_reducible refine rv_I ?_); (first | (show (0 : Int) < _; (first | assumption | omega | decide | (simp only [S_len] at *; omega))) | exact .inr ⟨by decide, by decide⟩ | exact .inl ⟨by (first | assumption | omega | decide | (simp only [S_len] at *; omega)), by (first | assumption | omega | decide | (simp only [S_len] at *; omega))⟩ | exact .inr ⟨by (first | assumption | omega | decide | (simp only [S_len] at *; omega)), by (first | assumption | omega | decide | (simp only [S_len] at *; omega))⟩ | exact ⟨by decide, by decide, by decide⟩ | exact wide_div (b := 128) (by (first | assumption | omega | decide | (simp only [S_len] at *; omega))) (by (first | assumption | omega | decide | (simp only [S_len] at *; omega))) (by decide) (by decide))))))) (fun hc H7 e7 => ?_) (fun hc H7 e7 => ?_)
      · refine q_asgI (b := bx) (Pd := fun x => 1 ≤ x ∧ x ≤ 12 ∧ x ≠ (p : Int)) (ei_op ei_c (ei_opC (Pa := fun x => (p : Int) ≤ x ∧ x ≤ p + 10) (Pb := (· = 12)) (Pd := fun x => 0 ≤ x ∧ x < 12 ∧ x + 1 ≠ (p : Int)) (fun H8 b8 Q8 q8 => (ei_op (Pd := fun x => (p : Int) ≤ x ∧ x ≤ p + 10) (ei_var rfl) (ei_take (many := 11) rfl (fun H => ev_c) (by decide) (by decide)) fun x y hx hy => by subst hx; omega) H8 b8 _ fun d H9 hd e9 b9 => .inl ⟨d, rfl, q8 d H9 hd e9 b9⟩) ei_c (fun x y hx hy => by subst hy; decide) fun x y hx hy => by subst hy; omega) fun x y hx hy => by subst hx; omega) (b6.ex e7) fun d H8 hd x8 b8 => ?_
        obtain ⟨p2, rfl⟩ : ∃ n : Nat, d = (n : Int) := ⟨d.toNat, by omega⟩
        have hpt8 := x8 _ _ hptb (e7 _ _ h6)
        refine s_app (l := pt) (xs := []) hpt8 (by exact ev_var rfl) ev_c (by simp) fun H9 e9 => ?_
        have hz := of_decide_eq_true hc
        refine ⟨p2, [("period" : Str)], rfl, (((x16.trans (ExB.of e7)).trans x8).trans (ExB.of e9)).mut hpt1, (b8.ex e9).put2 hptb, upd_same, by simp, by omega, fun _ => ⟨by omega, rfl⟩, fun z => absurd hz z⟩
      · have hz := of_decide_eq_false hc
        exact ⟨p, [], rfl, x16.trans (ExB.of e7), b6.ex e7, e7 _ _ h6, by simp, by omega, fun z => absurd z hz, fun _ => ⟨rfl, rfl⟩⟩
    rintro σ' H7 ⟨p2, zs, rfl, x7, b7, h7, hzl, hp2, hpa, hpb⟩
    -- the modulus
    refine q_cut (M := fun σ' H' => ∃ (b2 : Int) (zs2 : List Str), σ' = [some (.ref a), some (.ref o), some (.ref wd), some (.ref bx), some (.int fl), some (.int (p2 : Int)), some (.int b2), some (.int (F.length : Int)), some (.ref pt), none] ∧ ExB bx H1 H' ∧ Bx H' bx ∧ H' pt = some (.lst (zs2.map V.str)) ∧ zs2.length ≤ 2 ∧ (b2 = 0 ∨ (2 ≤ b2 ∧ b2 ≤ 97)) ∧ (fl / 2 % 2 = 1 → b2 ≠ b ∧ zs2 = zs ++ [("modulus" : Str)]) ∧ (¬ fl / 2 % 2 = 1 → b2 = b ∧ zs2 = zs)) ?_ ?_
    · have fin : ∀ (d : Int) (H8 : Hp) (D : Ends), (d = 0 ∨ (2 ≤ d ∧ d ≤ 97)) → d ≠ b → ExB bx H7 H8 → Bx H8 bx → fl / 2 % 2 = 1 → (∀ H9, ExB bx H1 H9 → Bx H9 bx → H9 pt = some (.lst ((zs ++ [("modulus" : Str)]).map V.str)) → D.nx ([some (.ref a), some (.ref o), some (.ref wd), some (.ref bx), some (.int fl), some (.int (p2 : Int)), some (.int d), some (.int (F.length : Int)), some (.ref pt), none] : L2.St) H9) → tDrop (tBM K "list" rAppend (tVar 8) (tCons (tC (.str "modulus")) tNil)) D [some (.ref a), some (.ref o), some (.ref wd), some (.ref bx), some (.int fl), some (.int (p2 : Int)), some (.int d), some (.int (F.length : Int)), some (.ref pt), none] H8 := fun d H8 D hd hdb x8 b8 hz k => by
        have hpt8 := x8 _ _ hptb h7
        refine s_app (l := pt) (xs := zs.map V.str) hpt8 (ev_var rfl) ev_c (by rw [List.length_map]; omega) fun H9 e9 => k _ (((x7.trans x8).trans (ExB.of e9)).mut hpt1) ((b8.ex e9).put2 hptb) ?_
        rw [upd_same, List.map_append]
        rfl
      refine s_when (b := decide (fl / 2 % 2 = 1)) (by first | ((with_reducible apply et_test); (repeat' (first | ((with_reducible refine ev_pow10 ?_ ?_ ?_) <;> first | rfl | decide) | (with_reducible refine fun (_ : _ = true) => ?_) | (with_reducible refine fun (_ : _ = false) => ?_) | (with_reducible exact ev_c) | ((with_reducible apply ev_var); rfl) | (with_reducible apply ev_op) | (with_reducible apply ev_un) | (with_reducible apply ev_cb) | (with_reducible apply ea_cons) | (with_reducible apply ev_andV) | (with_reducible apply ev_orV) | (with_reducible apply ev_notV) | (with_reducible apply ev_if) | (with_reducible apply eo_some) | (with_reducible apply el_lst) | (with_reducible exact ea_nil) | (with_reducible exact rv_I0) | (with_reducible exact ru_neg) | (with_reducible exact rv_ltS) | (with_reducible exact rv_inC) | (with_reducible exact rv_notInC) | (with_reducible exact rc_intI) | (with_reducible exact rc_intB) | (with_reducible exact rc_min2) | (with_reducible exact rc_isStr) | (with_reducible exact eo_none) | (with_reducible exact rv_inSS) | (with_reducible exact rv_notInSS) | (with_reducible exact rv_ltSS) | (with_reducible exact rv_eqSS) | (with_reducible exact rv_eqII) | (with_reducible exact rv_neII) | (with_reducible exact rv_neSS) | ((with_reducible refine rc_lenSS ?_); (first | assumption | omega | decide | (simp only [S_len] at *; omega))) | ((with_reducible refine rc_lenStr ?_); (first | assumption | omega | decide | (simp only [S_len] at *; omega))) | ((with_reducible refine rv_catSS ?_); (first | assumption | omega | decide | (simp only [S_len] at *; omega))) | (with_reducible exact rv_eq rfl) | (with_reducible exact rv_ne rfl) | ((with_reducible refine rc_lenS ?_); (first | assumption | omega | decide | (simp only [S_len] at *; omega))) | ((with_reducible refine rc_lenL ?_); assumption) | ((with_reducible apply rv_ixL); assumption; rfl) | ((with_reducible refine rv_catS ?_); (first | assumption | omega | decide | (simp only [S_len] at *; omega))) | ((with_reducible refine rv_I ?_); (first | (show (0 : Int) < _; (first | assumption | omega | decide | (simp only [S_len] at *; omega))) | exact .inr ⟨by decide, by decide⟩ | exact .inl ⟨by (first | assumption | omega | decide | (simp only [S_len] at *; omega)), by (first | assumption | omega | decide | (simp only [S_len] at *; omega))⟩ | exact .inr ⟨by (first | assumption | omega | decide | (simp only [S_len] at *; omega)), by (first | assumption | omega | decide | (simp only [S_len] at *; omega))⟩ | exact ⟨by decide, by decide, by decide⟩ | exact wide_div (b := 128) (by (first | assumption | omega | decide | (simp only [S_len] at *; omega))) (by (first | assumption | omega | decide | (simp only [S_len] at *; omega))) (by decide) (by decide)))))) | ((with_reducible apply et_B); (repeat' (first | ((with_reducible refine ev_pow10 ?_ ?_ ?_) <;> first | rfl | decide) | (with_reducible refine fun (_ : _ = true) => ?_) | (with_reducible refine fun (_ : _ = false) => ?_) | (with_reducible exact ev_c) | ((with_reducible apply ev_var); rfl) | (with_reducible apply ev_op) | (with_reducible apply ev_un) | (with_reducible apply ev_cb) | (with_reducible apply ea_cons) | (with_reducible apply ev_andV) | (with_reducible apply ev_orV) | (with_reducible apply ev_notV) | (with_reducible apply ev_if) | (with_reducible apply eo_some) | (with_reducible apply el_lst) | (with_reducible exact ea_nil) | (with_reducible exact rv_I0) | (with_reducible exact ru_neg) | (with_reducible exact rv_ltS) | (with_reducible exact rv_inC) | (with_reducible exact rv_notInC) | (with_reducible exact rc_intI) | (with_reducible exact rc_intB) | (with_reducible exact rc_min2) | (with_reducible exact rc_isStr) | (with_reducible exact eo_none) | (with_reducible exact rv_inSS) | (with_reducible exact rv_notInSS) | (with_reducible exact rv_ltSS) | (with_reducible exact rv_eqSS) | (with_reducible exact rv_eqII) | (with_reducible exact rv_neII) | (with_reducible exact rv_neSS) | ((with_reducible refine rc_lenSS ?_); (first | assumption | omega | decide | (simp only [S_len] at *; omega))) | ((with_reducible refine rc_lenStr ?_); (first | assumption | omega | decide | (simp only [S_len] at *; omega))) | ((with_reducible refine rv_catSS ?_); (first | assumption | omega | decide | (simp only [S_len] at *; omega))) | (with_reducible exact rv_eq rfl) | (with_reducible exact rv_ne rfl) | ((with_reducible refine rc_lenS ?_); (first | assumption | omega | decide | (simp only [S_len] at *; omega))) | ((with_reducible refine rc_lenL ?_); assumption) | ((with_reducible apply rv_ixL); assumption; rfl) | ((with_reducible refine rv_catS ?_); (first | assumption | omega | decide | (simp only [S_len] at *; omega))) | ((with_reducible refine rv_I ?_); (first | (show (0 : Int) < _; (first | assumption | omega | decide | (simp only [S_len] at *; omega))) | exact .inr ⟨by decide, by decide⟩ | exact .inl ⟨by (first | assumption | omega | decide | (simp only [S_len] at *; omega)), by (first | assumption | omega | decide | (simp only [S_len] at *; omega))⟩ | exact .inr ⟨by (first | assumption | omega | decide | (simp only [S_len] at *; omega)), by (first | assumption | omega | decide | (simp only [S_len] at *; omega))⟩ | exact ⟨by decide, by decide, by decide⟩ | exact wide_div (b := 128) (by (first | assumption | omega | decide | (simp only [S_len] at *; omega))) (by (first | assumption | omega | decide | (simp only [S_len] at *; omega))) (by decide) (by decide))))))) (fun hc H8 e8 => ?_) (fun hc H8 e8 => ?_)
      · have hz := of_decide_eq_true hc
        refine q_if (b := decide (b = 0)) (by first | ((with_reducible apply et_test); (repeat' (first | ((with_reducible refine ev_pow10 ?_ ?_ ?_) <;> first | rfl | decide) | (with_reducible refine fun (_ : _ = true) => ?_) | (with_reducible refine fun (_ : _ = false) => ?_) | (with_reducible exact ev_c) | ((with_reducible apply ev_var); rfl) | (with_reducible apply ev_op) | (with_reducible apply ev_un) | (with_reducible apply ev_cb) | (with_reducible apply ea_cons) | (with_reducible apply ev_andV) | (with_reducible apply ev_orV) | (with_reducible apply ev_notV) | (with_reducible apply ev_if) | (with_reducible apply eo_some) | (with_reducible apply el_lst) | (with_reducible exact ea_nil) | (with_reducible exact rv_I0) | (with_reducible exact ru_neg) | (with_reducible exact rv_ltS) | (with_reducible exact rv_inC) | (with_reducible exact rv_notInC) | (with_reducible exact rc_intI) | (with_reducible exact rc_intB) | (with_reducible exact rc_min2) | (with_reducible exact rc_isStr) | (with_reducible exact eo_none) | (with_reducible exact rv_inSS) | (with_reducible exact rv_notInSS) | (with_reducible exact rv_ltSS) | (with_reducible exact rv_eqSS) | (with_reducible exact rv_eqII) | (with_reducible exact rv_neII) | (with_reducible exact rv_neSS) | ((with_reducible refine rc_lenSS ?_); (first | assumption | omega | decide | (simp only [S_len] at *; omega))) | ((with_reducible refine rc_lenStr ?_); (first | assumption | omega | decide | (simp only [S_len] at *; omega))) | ((with_reducible refine rv_catSS ?_); (first | assumption | omega | decide | (simp only [S_len] at *; omega))) | (with_reducible exact rv_eq rfl) | (with_reducible exact rv_ne rfl) | ((with_reducible refine rc_lenS ?_); (first | assumption | omega | decide | (simp only [S_len] at *; omega))) | ((with_reducible refine rc_lenL ?_); assumption) | ((with_reducible apply rv_ixL); assumption; rfl) | ((with_reducible refine rv_catS ?_); (first | assumption | omega | decide | (simp only [S_len] at *; omega))) | ((with_reducible refine rv_I ?_); (first | (show (0 : Int) < _; (first | assumption | omega | decide | (simp only [S_len] at *; omega))) | exact .inr ⟨by decide, by decide⟩ | exact .inl ⟨by (first | assumption | omega | decide | (simp only [S_len] at *; omega)), by (first | assumption | omega | decide | (simp only [S_len] at *; omega))⟩ | exact .inr ⟨by (first | assumption | omega | decide | (simp only [S_len] at *; omega)), by (first | assumption | omega | decide | (simp only [S_len] at *; omega))⟩ | exact ⟨by decide, by decide, by decide⟩ | exact wide_div (b := 128) (by (first | assumption | omega | decide | (simp only [S_len] at *; omega))) (by (first | assumption | omega | decide | (simp only [S_len] at *; omega))) (by decide) (by decide)))))) | ((with_reducible apply et_B); (repeat' (first | ((with_reducible refine ev_pow10 ?_ ?_ ?_) <;> first | rfl | decide) | (with_reducible refine fun (_ : _ = true) => ?_) | (with_reducible refine fun (_ : _ = false) => ?_) | (with_reducible exact ev_c) | ((with_reducible apply ev_var); rfl) | (with_reducible apply ev_op) | (with_reducible apply ev_un) | (with_reducible apply ev_cb) | (with_reducible apply ea_cons) | (with_reducible apply ev_andV) | (with_reducible apply ev_orV) | (with_reducible apply ev_notV) | (with_reducible apply ev_if) | (with_reducible apply eo_some) | (with_reducible apply el_lst) | (with_reducible exact ea_nil) | (with_reducible exact rv_I0) | (with_reducible exact ru_neg) | (with_reducible exact rv_ltS) | (with_reducible exact rv_inC) | (with_reducible exact rv_notInC) | (with_reducible exact rc_intI) | (with_reducible exact rc_intB) | (with_reducible exact rc_min2) | (with_reducible exact rc_isStr) | (with_reducible exact eo_none) | (with_reducible exact rv_inSS) | (with_reducible exact rv_notInSS) | (with_reducible exact rv_ltSS) | (with_reducible exact rv_eqSS) | (with_reducible exact rv_eqII) | (with_reducible exact rv_neII) | (with_reducible exact rv_neSS) | ((with_reducible refine rc_lenSS ?_); (first | assumption | omega | decide | (simp only [S_len] at *; omega))) | ((with_reducible refine rc_lenStr ?_); (first | assumption | omega | decide | (simp only [S_len] at *; omega))) | ((with_reducible refine rv_catSS ?_); (first | assumption | omega | decide | (simp only [S_len] at *; omega))) | (with_reducible exact rv_eq rfl) | (with_reducible exact rv_ne rfl) | ((with_reducible refine rc_lenS ?_); (first | assumption | omega | decide | (simp only [S_len] at *; omega))) | ((with_reducible refine rc_lenL ?_); assumption) | ((with_reducible apply rv_ixL); assumption; rfl) | ((with_reducible refine rv_catS ?_); (first | assumption | omega | decide | (simp only [S_len] at *; omega))) | ((with_reducible refine rv_I ?_); (first | (show (0 : Int) < _; (first | assumption | omega | decide | (simp only [S_len] at *; omega))) | exact .inr ⟨by decide, by decide⟩ | exact .inl ⟨by (first | assumption | omega | decide | (simp only [S_len] at *; omega)), by (first | assumption | omega | decide | (simp only [S_len] at *; omega))⟩ | exact .inr ⟨by (first | assumption | omega | decide | (simp only [S_len] at *; omega)), by (first | assumption | omega | decide | (simp only [S_len] at *; omega))⟩ | exact ⟨by decide, by decide, by decide⟩ | exact wide_div (b := 128) (by (first | assumption | omega | decide | (simp only [S_len] at *; omega))) (by (first | assumption | omega | decide | (simp only [S_len] at *; omega))) (by decide) (by decide))))))) (fun hc2 H9 e9 => ?_) (fun hc2 H9 e9 => ?_)
        · have hb0 : b = 0 := of_decide_eq_true hc2
          refine asg_fst ?_
          refine ei_op (b := bx) (Pd := fun x => 2 ≤ x ∧ x ≤ 97) ei_c (ei_take (many := 96) rfl (fun H => ev_c) (by decide) (by decide)) (fun x y hx hy => by subst hx; omega) H9 (b7.ex (e8.trans e9)) _ fun d H10 hd x10 b10 => ?_
          exact fin d H10 _ (by omega) (by omega) ((ExB.of (e8.trans e9)).trans x10) b10 hz fun H11 y1 y2 y3 => ⟨d, _, rfl, y1, y2, y3, by rw [List.length_append]; simp; omega, by omega, fun _ => ⟨by omega, rfl⟩, fun z => absurd hz z⟩
        · have hb0 : b ≠ 0 := of_decide_eq_false hc2
          refine asg_fst ?_
          refine op_fst ?_
          have hea : EvAI bx (tCons (tC (V.int 0)) (tCons (tOp (rI0 fun i j => V.int (i + j)) (tC (V.int 2)) (tOp (rI (fun x j => 0 < j) fun i j => V.int (i % j)) (tCB (fun xs H Q => (∃ i, xs = [V.int i] ∧ Q (V.int i) H) ∨ ∃ k, xs = [V.bl k] ∧ Q (V.int (if k = true then 1 else 0)) H) (tCons (tOp (rI0 fun i j => V.int (i + j)) (tOp (rI0 fun i j => V.int (i - j)) (tVar 6) (tC (V.int 1))) (tCall sp_law_take [] E0 (tCons (tVar 3) (tCons (tC (V.int 95)) tNil)))) tNil)) (tC (V.int 96)))) tNil)) [some (.ref a), some (.ref o), some (.ref wd), some (.ref bx), some (.int fl), some (.int (p2 : Int)), some (.int b), some (.int (F.length : Int)), some (.ref pt), none] (fun x => (x = 0 ∨ (2 ≤ x ∧ x ≤ 97)) ∧ x ≠ b) 2 :=
            eai_cons ei_c (fun d hd => by subst hd; omega) (eai_cons (Pa := fun x => (2 ≤ x ∧ x ≤ 97) ∧ x ≠ b) (ei_op (Pb := fun x => 0 ≤ x ∧ x < 96 ∧ x + 2 ≠ b) ei_c (ei_opC (Pa := fun x => b - 1 ≤ x ∧ x ≤ b + 93) (Pb := (· = 96)) (fun H8 b8 Q8 q8 => (ei_op (Pa := (· = b - 1)) (Pd := fun x => b - 1 ≤ x ∧ x ≤ b + 93) (ei_op (ei_var rfl) ei_c fun x y hx hy => by subst hx hy; rfl) (ei_take (many := 95) rfl (fun H => ev_c) (by decide) (by decide)) fun x y hx hy => by subst hx; omega) H8 b8 _ fun d H9 hd e9 b9 => .inl ⟨d, rfl, q8 d H9 hd e9 b9⟩) ei_c (fun x y hx hy => by subst hy; decide) fun x y hx hy => by subst hy; omega) fun x y hx hy => by subst hx; omega) (fun d hd => ⟨.inr hd.1, hd.2⟩) eai_nil)
          refine hea H9 (b7.ex (e8.trans e9)) _ fun ds H10 hdl hds x10 b10 => ⟨sz_of (by rw [List.length_map]; omega), fun wp hwp => ?_⟩
          have ew := Ex.new (o := HO.lst (ds.map V.int)) hwp
          refine sp_take_then (b := bx) (i := 3) (many := 2) rfl (b10.ex ew) ev_c (by decide) (by decide) fun i H11 i0 i1 x11 b11 => ?_
          have hi : i.toNat < ds.length := by omega
          have hwb : wp ≠ bx := bx_ne b10 hwp
          refine ⟨wp, ds.map V.int, i, .int (ds.getD i.toNat 0), rfl, rfl, sq_of (x11 _ _ hwb upd_same), atI_int i0 (by omega), ?_⟩
          have hx := hds (ds.getD i.toNat 0) (by rw [List.getD_eq_getElem?_getD, List.getElem?_eq_getElem hi]; exact List.getElem_mem hi)
          exact fin (ds.getD i.toNat 0) H11 _ hx.1 hx.2 (((ExB.of (e8.trans e9)).trans x10).trans ((ExB.of ew).trans x11)) b11 hz fun H12 y1 y2 y3 => ⟨_, _, rfl, y1, y2, y3, by rw [List.length_append]; simp; omega, hx.1, fun _ => ⟨hx.2, rfl⟩, fun z => absurd hz z⟩
      · have hz := of_decide_eq_false hc
        exact ⟨b, zs, rfl, x7.trans (ExB.of e8), b7.ex e8, e8 _ _ h7, by omega, w5, fun z => absurd z hz, fun _ => ⟨rfl, rfl⟩⟩
    rintro σ' H8 ⟨b2, zs2, rfl, x8, b8, h8, hzl2, hb2, hma, hmb⟩
    -- the number of kinds
    refine q_cut (M := fun σ' H' => ∃ (n2 : Nat) (zs3 : List Str), σ' = [some (.ref a), some (.ref o), some (.ref wd), some (.ref bx), some (.int fl), some (.int (p2 : Int)), some (.int b2), some (.int (n2 : Int)), some (.ref pt), none] ∧ ExB bx H1 H' ∧ Bx H' bx ∧ H' pt = some (.lst (zs3.map V.str)) ∧ (1 ≤ n2 ∧ n2 ≤ 4) ∧ (fl / 4 = 1 → n2 ≠ F.length ∧ zs3 = zs2 ++ [("table" : Str)]) ∧ (¬ fl / 4 = 1 → n2 = F.length ∧ zs3 = zs2)) ?_ ?_
    · refine s_when (b := decide (fl / 4 = 1)) (by first | ((with_reducible apply et_test); (repeat' (first | ((with_reducible refine ev_pow10 ?_ ?_ ?_) <;> first | rfl | decide) | (with_reducible refine fun (_ : _ = true) => ?_) | (with_reducible refine fun (_ : _ = false) => ?_) | (with_reducible exact ev_c) | ((with_reducible apply ev_var); rfl) | (with_reducible apply ev_op) | (with_reducible apply ev_un) | (with_reducible apply ev_cb) | (with_reducible apply ea_cons) | (with_reducible apply ev_andV) | (with_reducible apply ev_orV) | (with_reducible apply ev_notV) | (with_reducible apply ev_if) | (with_reducible apply eo_some) | (with_reducible apply el_lst) | (with_reducible exact ea_nil) | (with_reducible exact rv_I0) | (with_reducible exact ru_neg) | (with_reducible exact rv_ltS) | (with_reducible exact rv_inC) | (with_reducible exact rv_notInC) | (with_reducible exact rc_intI) | (with_reducible exact rc_intB) | (with_reducible exact rc_min2) | (with_reducible exact rc_isStr) | (with_reducible exact eo_none) | (with_reducible exact rv_inSS) | (with_reducible exact rv_notInSS) | (with_reducible exact rv_ltSS) | (with_reducible exact rv_eqSS) | (with_reducible exact rv_eqII) | (with_reducible exact rv_neII) | (with_reducible exact rv_neSS) | ((with_reducible refine rc_lenSS ?_); (first | assumption | omega | decide | (simp only [S_len] at *; omega))) | ((with_reducible refine rc_lenStr ?_); (first | assumption | omega | decide | (simp only [S_len] at *; omega))) | ((with_reducible refine rv_catSS ?_); (first | assumption | omega | decide | (simp only [S_len] at *; omega))) | (with_reducible exact rv_eq rfl) | (with_reducible exact rv_ne rfl) | ((with_reducible refine rc_lenS ?_); (first | assumption | omega | decide | (simp only [S_len] at *; omega))) | ((with_reducible refine rc_lenL ?_); assumption) | ((with_reducible apply rv_ixL); assumption; rfl) | ((with_reducible refine rv_catS ?_); (first | assumption | omega | decide | (simp only [S_len] at *; omega))) | ((with_reducible refine rv_I ?_); (first | (show (0 : Int) < _; (first | assumption | omega | decide | (simp only [S_len] at *; omega))) | exact .inr ⟨by decide, by decide⟩ | exact .inl ⟨by (first | assumption | omega | decide | (simp only [S_len] at *; omega)), by (first | assumption | omega | decide | (simp only [S_len] at *; omega))⟩ | exact .inr ⟨by (first | assumption | omega | decide | (simp only [S_len] at *; omega)), by (first | assumption | omega | decide | (simp only [S_len] at *; omega))⟩ | exact ⟨by decide, by decide, by decide⟩ | exact wide_div (b := 128) (by (first | assumption | omega | decide | (simp only [S_len] at *; omega))) (by (first | assumption | omega | decide | (simp only [S_len] at *; omega))) (by decide) (by decide)))))) | ((with_reducible apply et_B); (repeat' (first | ((with_reducible refine ev_pow10 ?_ ?_ ?_) <;> first | rfl | decide) | (with_reducible refine fun (_ : _ = true) => ?_) | (with_reducible refine fun (_ : _ = false) => ?_) | (with_reducible exact ev_c) | ((with_reducible apply ev_var); rfl) | (with_reducible apply ev_op) | (with_reducible apply ev_un) | (with_reducible apply ev_cb) | (with_reducible apply ea_cons) | (with_reducible apply ev_andV) | (with_reducible apply ev_orV) | (with_reducible apply ev_notV) | (with_reducible apply ev_if) | (with_reducible apply eo_some) | (with_reducible apply el_lst) | (with_reducible exact ea_nil) | (with_reducible exact rv_I0) | (with_reducible exact ru_neg) | (with_reducible exact rv_ltS) | (with_reducible exact rv_inC) | (with_reducible exact rv_notInC) | (with_reducible exact rc_intI) | (with_reducible exact rc_intB) | (with_reducible exact rc_min2) | (with_reducible exact rc_isStr) | (with_reducible exact eo_none) | (with_reducible exact rv_inSS) | (with_reducible exact rv_notInSS) | (with_reducible exact rv_ltSS) | (with_reducible exact rv_eqSS) | (with_reducible exact rv_eqII) | (with_reducible exact rv_neII) | (with_reducible exact rv_neSS) | ((with_reducible refine rc_lenSS ?_); (first | assumption | omega | decide | (simp only [S_len] at *; omega))) | ((with_reducible refine rc_lenStr ?_); (first | assumption | omega | decide | (simp only [S_len] at *; omega))) | ((with_reducible refine rv_catSS ?_); (first | assumption | omega | decide | (simp only [S_len] at *; omega))) | (with_reducible exact rv_eq rfl) | (with_reducible exact rv_ne rfl) | ((with_reducible refine rc_lenS ?_); (first | assumption | omega | decide | (simp only [S_len] at *; omega))) | ((with_reducible refine rc_lenL ?_); assumption) | ((with_reducible apply rv_ixL); assumption; rfl) | ((with_reducible refine rv_catS ?_); (first | assumption | omega | decide | (simp only [S_len] at *; omega))) | ((with_reducible refine rv_I ?_); (first | (show (0 : Int) < _; (first | assumption | omega | decide | (simp only [S_len] at *; omega))) | exact .inr ⟨by decide, by decide⟩ | exact .inl ⟨by (first | assumption | omega | decide | (simp only [S_len] at *; omega)), by (first | assumption | omega | decide | (simp only [S_len] at *; omega))⟩ | exact .inr ⟨by (first | assumption | omega | decide | (simp only [S_len] at *; omega)), by (first | assumption | omega | decide | (simp only [S_len] at *; omega))⟩ | exact ⟨by decide, by decide, by decide⟩ | exact wide_div (b := 128) (by (first | assumption | omega | decide | (simp only [S_len] at *; omega))) (by (first | assumption | omega | decide | (simp only [S_len] at *; omega))) (by decide) (by decide))))))) (fun hc H9 e9 => ?_) (fun hc H9 e9 => ?_)
      · refine q_asgI (b := bx) (Pd := fun x => 1 ≤ x ∧ x ≤ 4 ∧ x ≠ (F.length : Int)) (ei_op ei_c (ei_opC (Pa := fun x => (F.length : Int) ≤ x ∧ x ≤ F.length + 2) (Pb := (· = 4)) (Pd := fun x => 0 ≤ x ∧ x < 4 ∧ x + 1 ≠ (F.length : Int)) (fun H8 b8 Q8 q8 => (ei_op (Pd := fun x => (F.length : Int) ≤ x ∧ x ≤ F.length + 2) (ei_var rfl) (ei_take (many := 3) rfl (fun H => ev_c) (by decide) (by decide)) fun x y hx hy => by subst hx; omega) H8 b8 _ fun d H9 hd e9 b9 => .inl ⟨d, rfl, q8 d H9 hd e9 b9⟩) ei_c (fun x y hx hy => by subst hy; decide) fun x y hx hy => by subst hy; omega) fun x y hx hy => by subst hx; omega) (b8.ex e9) fun d H10 hd x10 b10 => ?_
        obtain ⟨n2, rfl⟩ : ∃ n : Nat, d = (n : Int) := ⟨d.toNat, by omega⟩
        have hpt10 := x10 _ _ hptb (e9 _ _ h8)
        refine s_app (l := pt) (xs := zs2.map V.str) hpt10 (by exact ev_var rfl) ev_c (by rw [List.length_map]; omega) fun H11 e11 => ?_
        have hz := of_decide_eq_true hc
        refine ⟨n2, zs2 ++ [("table" : Str)], rfl, (((x8.trans (ExB.of e9)).trans x10).trans (ExB.of e11)).mut hpt1, (b10.ex e11).put2 hptb, ?_, by omega, fun _ => ⟨by omega, rfl⟩, fun z => absurd hz z⟩
        rw [upd_same, List.map_append]
        rfl
      · have hz := of_decide_eq_false hc
        exact ⟨F.length, zs2, rfl, x8.trans (ExB.of e9), b8.ex e9, e9 _ _ h8, by omega, fun z => absurd z hz, fun _ => ⟨rfl, rfl⟩⟩
    rintro σ' H9 ⟨n2, zs3, rfl, x9, b9, h9, hn2, hta, htb⟩
    refine q_mkGB (K := K) (bx := bx) (p := (p2 : Int)) (b := b2) (Pg := fun G => G.length = n2 ∧ Wd p2 G) b9 (fun H => by exact ev_var rfl) (fun H => by exact ev_var rfl) (fun H10 e10 b10 Q' q' => ⟨_, rfl, _, rfl, _, rfl, bx, p2, n2, 0, rfl, b10, by omega, by omega, fun t ts G H11 ht x11 b11 h11 hr11 _ _ hG => q' t G H11 x11 b11 ⟨ts, h11, hr11⟩ hG⟩)
      (fun G hG => part_n (by omega) hb2 (by
        unfold isTb
        rw [hG.1, decide_eq_true (show (1 : Int) ≤ (n2 : Int) by omega), decide_eq_true (show (n2 : Int) ≤ 4 by omega)]
        simp only [Bool.and_self, Bool.true_and]
        refine List.all_eq_true.mpr fun x hx => ?_
        obtain ⟨row, hrow, rfl⟩ := List.mem_map.mp hx
        rw [hG.2 row hrow]
        simp)) fun o2 G H10 x10 b10 hw2 hG => ?_
    refine st_is (σ' := [some (.ref a), some (.ref o), some (.ref wd), some (.ref bx), some (.int fl), some (.int (p2 : Int)), some (.int b2), some (.int (n2 : Int)), some (.ref pt), some (.ref o2)]) rfl ?_
    have h10 := x10 _ _ hptb h9
    have X10 : Ex H H10 := ex_new hbx e1 (x9.trans x10)
    have hw1 := hw.ex X10
    have hunl : ∃ z zr, zs3 = z :: zr ∧ unl p b p2 b2 (red b F) (red b2 G) = some z ∧ unl p2 b2 p b (red b2 G) (red b F) = some z := by
      unfold unl
      rw [red_len, red_len, hG.1]
      by_cases c1 : fl % 2 = 1
      · obtain ⟨k1, k2⟩ := hpa c1
        have hne : (p : Int) ≠ (p2 : Int) := fun z => k1 (by omega)
        rw [if_pos hne, if_pos (Ne.symm hne)]
        by_cases c2 : fl / 2 % 2 = 1
        · by_cases c3 : fl / 4 = 1
          · exact ⟨_, _, by rw [(hta c3).2, (hma c2).2, k2]; rfl, rfl, rfl⟩
          · exact ⟨_, _, by rw [(htb c3).2, (hma c2).2, k2]; rfl, rfl, rfl⟩
        · by_cases c3 : fl / 4 = 1
          · exact ⟨_, _, by rw [(hta c3).2, (hmb c2).2, k2]; rfl, rfl, rfl⟩
          · exact ⟨_, _, by rw [(htb c3).2, (hmb c2).2, k2], rfl, rfl⟩
      · obtain ⟨k1, k2⟩ := hpb c1
        have heq : (p : Int) = (p2 : Int) := by omega
        rw [if_neg (not_not_intro heq), if_neg (not_not_intro heq.symm)]
        by_cases c2 : fl / 2 % 2 = 1
        · obtain ⟨m1, m2⟩ := hma c2
          rw [if_pos (Ne.symm m1), if_pos m1]
          by_cases c3 : fl / 4 = 1
          · exact ⟨_, _, by rw [(hta c3).2, m2, k2]; rfl, rfl, rfl⟩
          · exact ⟨_, _, by rw [(htb c3).2, m2, k2]; rfl, rfl, rfl⟩
        · obtain ⟨m1, m2⟩ := hmb c2
          rw [if_neg (not_not_intro m1.symm), if_neg (not_not_intro m1)]
          have c3 : fl / 4 = 1 := by omega
          obtain ⟨t1, t2⟩ := hta c3
          rw [if_pos (Ne.symm t1), if_pos t1]
          exact ⟨_, _, by rw [t2, m2, k2]; rfl, rfl, rfl⟩
    obtain ⟨z, zr, rfl, hu1, hu2⟩ := hunl
    refine q_when (b := !true) (et_not (et_B (ev_call (ea_cons (by exact ev_var rfl) (ea_cons (by exact ev_var rfl) (ea_cons ev_c (ea_cons (by exact ev_var rfl) ea_nil)))) fun H11 e11 Q2 q2 E2 => ⟨o, o2, pt, false, p, b, p2, b2, red b F, red b2 G, z, zr, rfl, hw1.ex e11, hw2.ex e11, hu1, e11 _ _ h10, q2⟩))) (fun hc => by cases hc) (fun _ H11 e11 => ?_)
    refine q_when (b := !true) (et_not (et_B (ev_call (ea_cons (by exact ev_var rfl) (ea_cons (by exact ev_var rfl) (ea_cons ev_c (ea_cons (by exact ev_var rfl) ea_nil)))) fun H12 e12 Q2 q2 E2 => ⟨o, o2, pt, true, p, b, p2, b2, red b F, red b2 G, z, zr, rfl, hw1.ex (e11.trans e12), hw2.ex (e11.trans e12), hu1, (e11.trans e12) _ _ h10, q2⟩))) (fun hc => by cases hc) (fun _ H12 e12 => ?_)
    have e102 := e11.trans e12
    refine not_fst ?_
    refine ⟨_, rfl, ?_⟩
    refine cons_fst ⟨_, rfl, ?_⟩
    refine cons_fst ?_
    refine op_fst ?_
    refine sp_take_then (b := bx) (i := 3) (many := 2) rfl (b10.ex e102) ev_c (by decide) (by decide) fun d H13 d0 d1 x13 b13 => ?_
    have hw1' := (hw1.ex e102).exB (b10.ex e102) x13
    have hw2' := (hw2.ex e102).exB (b10.ex e102) x13
    have h13 := x13 _ _ hptb (e102 _ _ h10)
    have X13 : Ex H H13 := ex_new hbx e1 (((x9.trans x10).trans (ExB.of e102)).trans x13)
    refine ⟨rfl, _, rfl, ?_⟩
    refine ⟨o2, o, pt, decide (V.int d = V.int 1), p2, b2, p, b, red b2 G, red b F, z, zr, rfl, hw2', hw1', hu2, h13, fun H14 e14 => ⟨true, rfl, iteF ?_⟩⟩
    have hne1 : ¬ ((p : Int) = p2 ∧ b = b2 ∧ red b F = red b2 G) := fun z3 => by
      have := unl_no (p := (p : Int)) (b := b) (F := red b F) (G := red b2 G) (by rw [z3.2.2])
      rw [← z3.1, ← z3.2.1] at hu1
      rw [← z3.2.1] at this
      rw [this] at hu1
      cases hu1
    refine s_ret (v := .bl ((!(decide ((p : Int) = p2) && (decide (b = b2) && decide (red b F = red b2 G)))) && !(decide ((p2 : Int) = p) && (decide (b2 = b) && decide (red b2 G = red b F))))) (ev_andV (ev_notV (ev_eqW (ew_var (by exact rfl) (hw1'.ex e14)) (ew_var (by exact rfl) (hw2'.ex e14)))) fun _ => ev_notV (ev_eqW (ew_var (by exact rfl) (hw2'.ex e14)) (ew_var (by exact rfl) (hw1'.ex e14)))) fun H15 e15 => ?_
    have f1 : (decide ((p : Int) = p2) && (decide (b = b2) && decide (red b F = red b2 G))) = false := by
      rw [← Bool.decide_and, ← Bool.decide_and]
      exact decide_eq_false hne1
    have f2 : (decide ((p2 : Int) = p) && (decide (b2 = b) && decide (red b2 G = red b F))) = false := by
      rw [← Bool.decide_and, ← Bool.decide_and]
      exact decide_eq_false fun z3 => hne1 ⟨z3.1.symm, z3.2.1.symm, z3.2.2.symm⟩
    rw [f1, f2]
    exact q H15 ((X13.trans e14).trans e15)
end
end K54
namespace K54
open PySem PySem.Spec PyProof.Rows L2 Lc Evl
section
variable {P : Program} {w : World} {K : PySem.W.Frag} {mg : Str → Option Value} {base : Heap}
/-! ### loops over a text in an except suite -/
section
variable {σ : L2.St} {H : Hp} {te : TE} {tA : TA} {D : Ends} {tu tz : TS}
theorem low_S {l : List Nat} (h : ∀ c ∈ l, c < 128) : low (S l) := by
  show l.toArray.all (fun x => decide (x < 128)) = true
  rw [List.all_toArray, List.all_eq_true]
  exact fun c hc => decide_eq_true (h c hc)
theorem s_forSH {l : List Nat} {j : Nat} (hlow : low (S l)) (h : Ev te σ H (.str (S l))) (Pv : Nat → L2.St → Hp → Prop) (h0 : ∀ H1, Ex H H1 → Pv 0 σ H1)
    (hs : ∀ i c σ' H', l[i]? = some c → Pv i σ' H' → tu { D with nx := Pv (i + 1), ct := Pv (i + 1), bk := D.nx } (σ'.set j (some (.str (S [c])))) H') (hd : ∀ σ' H', Pv l.length σ' H' → D.nx σ' H') : tFor (iStrH te) (gName j) tu D σ H :=
  h H (Ex.refl H) _ fun H1 e => ⟨S l, rfl, hlow, fun i m σ' H' => m = l.length - i ∧ i ≤ l.length ∧ Pv i σ' H', ⟨l.length, by simp, Nat.zero_le _, h0 H1 e⟩, fun i m σ' H' hw => by
    obtain ⟨rfl, hi, p⟩ := hw
    by_cases hlt : i < l.length
    · refine .inr ⟨by show i < (S l).cps.size; rw [its_sz]; exact hlt, Pv (i + 1), fun σ2 H2 p2 => ⟨l.length - (i + 1), by omega, rfl, hlt, p2⟩, fun x H2 hy => ?_⟩
      obtain ⟨e2, c, hc, ex⟩ := hy
      subst e2 ex
      exact hs i c σ' _ (its_at hc) p
    · have ei : i = l.length := by omega
      subst ei
      exact .inl ⟨by show (S l).cps.size ≤ l.length; rw [its_sz]; exact Nat.le_refl _, hd σ' H' p⟩⟩
theorem s_forEH {K : PySem.W.Frag} {l : List Nat} {p q : Nat} (hlow : low (S l)) (h : EvA tA σ H [.str (S l)]) (Pv : Nat → L2.St → Hp → Prop) (h0 : ∀ H1, Ex H H1 → Pv 0 σ H1) (hx : ∀ i σ' H1 H2, Pv i σ' H1 → Ex H1 H2 → Pv i σ' H2)
    (hs : ∀ i c σ' H', l[i]? = some c → Pv i σ' H' → tu { D with nx := Pv (i + 1), ct := Pv (i + 1), bk := D.nx } ((σ'.set p (some (.int (i : Nat)))).set q (some (.str (S [c])))) H') (hd : ∀ σ' H', Pv l.length σ' H' → D.nx σ' H') :
    tFor (iEnumH tA) (gTup K 2 (gCons (gName p) (gCons (gName q) gNil))) tu D σ H :=
  h H (Ex.refl H) _ fun H1 e => ⟨S l, rfl, hlow, fun i m σ' H' => m = l.length - i ∧ i ≤ l.length ∧ Pv i σ' H', ⟨l.length, by simp, Nat.zero_le _, h0 H1 e⟩, fun i m σ' H' hw => by
    obtain ⟨rfl, hi, pv⟩ := hw
    by_cases hlt : i < l.length
    · refine .inr ⟨by show i < (S l).cps.size; rw [its_sz]; exact hlt, Pv (i + 1), fun σ2 H2 p2 => ⟨l.length - (i + 1), by omega, rfl, hlt, p2⟩, fun x H2 hy => ?_⟩
      obtain ⟨Ta, c, ex, hT, e2, hc⟩ := hy
      subst ex
      refine gpair (by rw [e2]; exact upd_same) ?_
      exact hs i c σ' _ (its_at hc) (hx _ _ _ _ pv (by rw [e2]; exact Ex.new hT))
    · have ei : i = l.length := by omega
      subst ei
      exact .inl ⟨by show (S l).cps.size ≤ l.length; rw [its_sz]; exact Nat.le_refl _, hd σ' H' pv⟩⟩
end
/-! ### the program's defs called there, with rows that are right -/
def sp_checkG : Sp := fun vs H Q _ => ∃ (l g : List Nat), vs = [.str (S l), .str (S g)] ∧ l.length ≤ 1000 ∧ (∀ c ∈ l, c < 128) ∧ (∀ c ∈ l, c ∈ g) ∧ RetV .non H Q
theorem ok_check_row_H (T : Tx K mg w) : OkH P w K mg base 1 d_check_row ps_check_row sp_checkG := by
  refine okH (h_check_row T) sc_check_row (fun vs H Q E h => ?_) (fun cdv A outer s H vs Q E p hot hr h => ⟨_,
      pss_one (L2H.ps_forH (passes_of rfl) ⟨p, hot, List.mem_singleton.mpr rfl⟩ (pi_strH (pv 0)) (pg_name (i := 2) sc_check_row.nd rfl (Or.inl rfl)) (pss_one (ps_if (pt_cmpR op_notIn_sign (pv 2) (pv 1) (by rfl)) (pss_one ps_dead) pss_nil))), ?_⟩)
  · obtain ⟨l, g, rfl, _⟩ := h
    rfl
  · obtain ⟨l, g, rfl, hl, hc, hg, q⟩ := h
    refine s_forSH (l := l) (low_S hc) (ev_var rfl) (fun i σ' H' => Ex H H' ∧ ∃ kv, σ' = [some (.str (S l)), some (.str (S g)), kv]) (fun H1 e1 => ⟨e1, none, rfl⟩) ?_ ?_
    · rintro i c σ' H' hi ⟨e, kv, rfl⟩
      have hcg := hg c (List.mem_of_getElem? hi)
      refine s_when (b := !decide (c ∈ g)) (by first | ((with_reducible apply et_test); (repeat' (first | ((with_reducible refine ev_pow10 ?_ ?_ ?_) <;> first | rfl | decide) | (with_reducible refine fun (_ : _ = true) => ?_) | (with_reducible refine fun (_ : _ = false) => ?_) | (with_reducible exact ev_c) | ((with_reducible apply ev_var); rfl) | (with_reducible apply ev_op) | (with_reducible apply ev_un) | (with_reducible apply ev_cb) | (with_reducible apply ea_cons) | (with_reducible apply ev_andV) | (with_reducible apply ev_orV) | (with_reducible apply ev_notV) | (with_reducible apply ev_if) | (with_reducible apply eo_some) | (with_reducible apply el_lst) | (with_reducible exact ea_nil) | (with_reducible exact rv_I0) | (with_reducible exact ru_neg) | (with_reducible exact rv_ltS) | (with_reducible exact rv_inC) | (with_reducible exact rv_notInC) | (with_reducible exact rc_intI) | (with_reducible exact rc_intB) | (with_reducible exact rc_min2) | (with_reducible exact rc_isStr) | (with_reducible exact eo_none) | (with_reducible exact rv_inSS) | (with_reducible exact rv_notInSS) | (with_reducible exact rv_ltSS) | (with_reducible exact rv_eqSS) | (with_reducible exact rv_eqII) | (with_reducible exact rv_neII) | (with_reducible exact rv_neSS) | ((with_reducible refine rc_lenSS ?_); (first | assumption | omega | decide | (simp only [S_len] at *; omega))) | ((with_reducible refine rc_lenStr ?_); (first | assumption | omega | decide | (simp only [S_len] at *; omega))) | ((with_reducible refine rv_catSS ?_); (first | assumption | omega | decide | (simp only [S_len] at *; omega))) | (with_reducible exact rv_eq rfl) | (with_reducible exact rv_ne rfl) | ((with_reducible refine rc_lenS ?_); (first | assumption | omega | decide | (simp only [S_len] at *; omega))) | ((with_reducible refine rc_lenL ?_); assumption) | ((with_reducible apply rv_ixL); assumption; rfl) | ((with_reducible refine rv_catS ?_); (first | assumption | omega | decide | (simp only [S_len] at *; omega))) | ((with_reducible refine rv_I ?_); (first | (show (0 : Int) < _; (first | assumption | omega | decide | (simp only [S_len] at *; omega))) | exact .inr ⟨by decide, by decide⟩ | exact .inl ⟨by (first | assumption | omega | decide | (simp only [S_len] at *; omega)), by (first | assumption | omega | decide | (simp only [S_len] at *; omega))⟩ | exact .inr ⟨by (first | assumption | omega | decide | (simp only [S_len] at *; omega)), by (first | assumption | omega | decide | (simp only [S_len] at *; omega))⟩ | exact ⟨by decide, by decide, by decide⟩ | exact wide_div (b := 128) (by (first | assumption | omega | decide | (simp only [S_len] at *; omega))) (by (first | assumption | omega | decide | (simp only [S_len] at *; omega))) (by decide) (by decide)))))) | ((with_reducible apply et_B); (repeat' (first | ((with_reducible refine ev_pow10 ?_ ?_ ?_) <;> first | rfl | decide) | (with_reducible refine fun (_ : _ = true) => ?_) | (with_reducible refine fun (_ : _ = false) => ?_) | (with_reducible exact ev_c) | ((with_reducible apply ev_var); rfl) | (with_reducible apply ev_op) | (with_reducible apply ev_un) | (with_reducible apply ev_cb) | (with_reducible apply ea_cons) | (with_reducible apply ev_andV) | (with_reducible apply ev_orV) | (with_reducible apply ev_notV) | (with_reducible apply ev_if) | (with_reducible apply eo_some) | (with_reducible apply el_lst) | (with_reducible exact ea_nil) | (with_reducible exact rv_I0) | (with_reducible exact ru_neg) | (with_reducible exact rv_ltS) | (with_reducible exact rv_inC) | (with_reducible exact rv_notInC) | (with_reducible exact rc_intI) | (with_reducible exact rc_intB) | (with_reducible exact rc_min2) | (with_reducible exact rc_isStr) | (with_reducible exact eo_none) | (with_reducible exact rv_inSS) | (with_reducible exact rv_notInSS) | (with_reducible exact rv_ltSS) | (with_reducible exact rv_eqSS) | (with_reducible exact rv_eqII) | (with_reducible exact rv_neII) | (with_reducible exact rv_neSS) | ((with_reducible refine rc_lenSS ?_); (first | assumption | omega | decide | (simp only [S_len] at *; omega))) | ((with_reducible refine rc_lenStr ?_); (first | assumption | omega | decide | (simp only [S_len] at *; omega))) | ((with_reducible refine rv_catSS ?_); (first | assumption | omega | decide | (simp only [S_len] at *; omega))) | (with_reducible exact rv_eq rfl) | (with_reducible exact rv_ne rfl) | ((with_reducible refine rc_lenS ?_); (first | assumption | omega | decide | (simp only [S_len] at *; omega))) | ((with_reducible refine rc_lenL ?_); assumption) | ((with_reducible apply rv_ixL); assumption; rfl) | ((with_reducible refine rv_catS ?_); (first | assumption | omega | decide | (simp only [S_len] at *; omega))) | ((with_reducible refine rv_I ?_); (first | (show (0 : Int) < _; (first | assumption | omega | decide | (simp only [S_len] at *; omega))) | exact .inr ⟨by decide, by decide⟩ | exact .inl ⟨by (first | assumption | omega | decide | (simp only [S_len] at *; omega)), by (first | assumption | omega | decide | (simp only [S_len] at *; omega))⟩ | exact .inr ⟨by (first | assumption | omega | decide | (simp only [S_len] at *; omega)), by (first | assumption | omega | decide | (simp only [S_len] at *; omega))⟩ | exact ⟨by decide, by decide, by decide⟩ | exact wide_div (b := 128) (by (first | assumption | omega | decide | (simp only [S_len] at *; omega))) (by (first | assumption | omega | decide | (simp only [S_len] at *; omega))) (by decide) (by decide))))))) (fun hb H1 e1 => absurd hcg (of_decide_eq_false (not_t hb))) (fun hb H1 e1 => ?_)
      exact ⟨e.trans e1, _, rfl⟩
    · rintro σ' H' ⟨e, kv, rfl⟩
      exact q H' e
theorem ok_unmarked_H (T : Tx K mg w) : OkH P w K mg base 1 d_unmarked ps_unmarked sp_unmarked := by
  refine okHT (h_unmarked T) sc_unmarked (by decide +kernel) (by decide) (fun vs H Q E h => ?_) (fun cdv A outer s H vs Q E p hot hr h => ⟨_,
      CwR.psst_one (CwR.pst_ret (pet_m0 F.slot_str_lower F.type_str_lower mt_lower (CwR.pet_replC (pv 0)))), ?_⟩)
  · obtain ⟨l, rfl, _⟩ := h
    rfl
  · obtain ⟨l, rfl, hl, hc, q⟩ := h
    have k1 : Str.ofString ":" = S [58] := by decide +kernel
    have k2 : Str.ofString "." = S [46] := by decide +kernel
    simp only [k1, k2]
    exact s_ret (ev_unm (by exact ev_var rfl) hl hc) fun H1 e1 => q H1 e1
theorem ok_remainder_H (T : Tx K mg w) : OkH P w K mg base 1 d_remainder ps_remainder sp_remainder := by
  refine okH (h_remainder T) sc_remainder (fun vs H Q E h => ?_) (fun cdv A outer s H vs Q E p hot hr h => ⟨_,
      (pss_one (ps_ret (pe_ifExp (pt_cmpR op_eq (pv 1) pe_int (nomark _)) (pv 0) (pe_op op_mod (pv 0) (pv 1))))), ?_⟩)
  · obtain ⟨x, b, rfl, _⟩ := h
    rfl
  · obtain ⟨x, b, rfl, hb, q⟩ := h
    refine s_ret (v := .int (rem b x)) (ev_if (b := decide (b = 0)) (by first | ((with_reducible apply et_test); (repeat' (first | ((with_reducible refine ev_pow10 ?_ ?_ ?_) <;> first | rfl | decide) | (with_reducible refine fun (_ : _ = true) => ?_) | (with_reducible refine fun (_ : _ = false) => ?_) | (with_reducible exact ev_c) | ((with_reducible apply ev_var); rfl) | (with_reducible apply ev_op) | (with_reducible apply ev_un) | (with_reducible apply ev_cb) | (with_reducible apply ea_cons) | (with_reducible apply ev_andV) | (with_reducible apply ev_orV) | (with_reducible apply ev_notV) | (with_reducible apply ev_if) | (with_reducible apply eo_some) | (with_reducible apply el_lst) | (with_reducible exact ea_nil) | (with_reducible exact rv_I0) | (with_reducible exact ru_neg) | (with_reducible exact rv_ltS) | (with_reducible exact rv_inC) | (with_reducible exact rv_notInC) | (with_reducible exact rc_intI) | (with_reducible exact rc_intB) | (with_reducible exact rc_min2) | (with_reducible exact rc_isStr) | (with_reducible exact eo_none) | (with_reducible exact rv_inSS) | (with_reducible exact rv_notInSS) | (with_reducible exact rv_ltSS) | (with_reducible exact rv_eqSS) | (with_reducible exact rv_eqII) | (with_reducible exact rv_neII) | (with_reducible exact rv_neSS) | ((with_reducible refine rc_lenSS ?_); (first | assumption | omega | decide | (simp only [S_len] at *; omega))) | ((with_reducible refine rc_lenStr ?_); (first | assumption | omega | decide | (simp only [S_len] at *; omega))) | ((with_reducible refine rv_catSS ?_); (first | assumption | omega | decide | (simp only [S_len] at *; omega))) | (with_reducible exact rv_eq rfl) | (with_reducible exact rv_ne rfl) | ((with_reducible refine rc_lenS ?_); (first | assumption | omega | decide | (simp only [S_len] at *; omega))) | ((with_reducible refine rc_lenL ?_); assumption) | ((with_reducible apply rv_ixL); assumption; rfl) | ((with_reducible refine rv_catS ?_); (first | assumption | omega | decide | (simp only [S_len] at *; omega))) | ((with_reducible refine rv_I ?_); (first | (show (0 : Int) < _; (first | assumption | omega | decide | (simp only [S_len] at *; omega))) | exact .inr ⟨by decide, by decide⟩ | exact .inl ⟨by (first | assumption | omega | decide | (simp only [S_len] at *; omega)), by (first | assumption | omega | decide | (simp only [S_len] at *; omega))⟩ | exact .inr ⟨by (first | assumption | omega | decide | (simp only [S_len] at *; omega)), by (first | assumption | omega | decide | (simp only [S_len] at *; omega))⟩ | exact ⟨by decide, by decide, by decide⟩ | exact wide_div (b := 128) (by (first | assumption | omega | decide | (simp only [S_len] at *; omega))) (by (first | assumption | omega | decide | (simp only [S_len] at *; omega))) (by decide) (by decide)))))) | ((with_reducible apply et_B); (repeat' (first | ((with_reducible refine ev_pow10 ?_ ?_ ?_) <;> first | rfl | decide) | (with_reducible refine fun (_ : _ = true) => ?_) | (with_reducible refine fun (_ : _ = false) => ?_) | (with_reducible exact ev_c) | ((with_reducible apply ev_var); rfl) | (with_reducible apply ev_op) | (with_reducible apply ev_un) | (with_reducible apply ev_cb) | (with_reducible apply ea_cons) | (with_reducible apply ev_andV) | (with_reducible apply ev_orV) | (with_reducible apply ev_notV) | (with_reducible apply ev_if) | (with_reducible apply eo_some) | (with_reducible apply el_lst) | (with_reducible exact ea_nil) | (with_reducible exact rv_I0) | (with_reducible exact ru_neg) | (with_reducible exact rv_ltS) | (with_reducible exact rv_inC) | (with_reducible exact rv_notInC) | (with_reducible exact rc_intI) | (with_reducible exact rc_intB) | (with_reducible exact rc_min2) | (with_reducible exact rc_isStr) | (with_reducible exact eo_none) | (with_reducible exact rv_inSS) | (with_reducible exact rv_notInSS) | (with_reducible exact rv_ltSS) | (with_reducible exact rv_eqSS) | (with_reducible exact rv_eqII) | (with_reducible exact rv_neII) | (with_reducible exact rv_neSS) | ((with_reducible refine rc_lenSS ?_); (first | assumption | omega | decide | (simp only [S_len] at *; omega))) | ((with_reducible refine rc_lenStr ?_); (first | assumption | omega | decide | (simp only [S_len] at *; omega))) | ((with_reducible refine rv_catSS ?_); (first | assumption | omega | decide | (simp only [S_len] at *; omega))) | (with_reducible exact rv_eq rfl) | (with_reducible exact rv_ne rfl) | ((with_reducible refine rc_lenS ?_); (first | assumption | omega | decide | (simp only [S_len] at *; omega))) | ((with_reducible refine rc_lenL ?_); assumption) | ((with_reducible apply rv_ixL); assumption; rfl) | ((with_reducible refine rv_catS ?_); (first | assumption | omega | decide | (simp only [S_len] at *; omega))) | ((with_reducible refine rv_I ?_); (first | (show (0 : Int) < _; (first | assumption | omega | decide | (simp only [S_len] at *; omega))) | exact .inr ⟨by decide, by decide⟩ | exact .inl ⟨by (first | assumption | omega | decide | (simp only [S_len] at *; omega)), by (first | assumption | omega | decide | (simp only [S_len] at *; omega))⟩ | exact .inr ⟨by (first | assumption | omega | decide | (simp only [S_len] at *; omega)), by (first | assumption | omega | decide | (simp only [S_len] at *; omega))⟩ | exact ⟨by decide, by decide, by decide⟩ | exact wide_div (b := 128) (by (first | assumption | omega | decide | (simp only [S_len] at *; omega))) (by (first | assumption | omega | decide | (simp only [S_len] at *; omega))) (by decide) (by decide))))))) (fun hc => ?_) (fun hc => ?_)) fun H1 e1 => q H1 e1
    · have h0 : b = 0 := by simpa using hc
      unfold rem
      rw [if_pos h0]
      exact ev_var rfl
    · have h0 : b ≠ 0 := by simpa using hc
      unfold rem
      rw [if_neg h0]
      exact ev_op (ev_var rfl) (ev_var rfl) (rv_I (show (0 : Int) < b by omega))
theorem ok_law_is_integer_H (T : Tx K mg w) : OkH P w K mg base 1 d_law_is_integer ps_law_is_integer sp_law_is_integer := by
  refine okH (h_law_is_integer T) sc_law_is_integer (fun vs H Q E h => ?_) (fun cdv A outer s H vs Q E p hot hr h => ⟨_,
      (pss_one (ps_ret (pe_and (pe_callB call_isi (by rfl) (m_isinstance T) (by decide +kernel) (pa_cons (pv 0) (pa_cons (pe_bltn (v := .ty "int") (u := .type "int") (by rfl) (m_int T) (by decide +kernel) rfl) pa_nil))) (pe_one (pe_not (pe_callB call_isi (by rfl) (m_isinstance T) (by decide +kernel) (pa_cons (pv 0) (pa_cons (pe_bltn (v := .ty "bool") (u := .type "bool") (by rfl) (m_bool T) (by decide +kernel) rfl) pa_nil)))))))), ?_⟩)
  · obtain ⟨i, rfl, _⟩ := h
    rfl
  · obtain ⟨i, rfl, q⟩ := h
    exact s_ret (v := .bl (true && !false)) (ev_andV (ev_cb (ea_cons (by exact ev_var rfl) (ea_cons ev_c ea_nil)) rc_isInt) fun _ => ev_notV (ev_cb (ea_cons (by exact ev_var rfl) (ea_cons ev_c ea_nil)) rc_isIntB)) fun H1 e1 => q H1 e1
theorem um_occ : ∀ c ∈ SG, 0 ≤ kd c → Builtin.Str.occurrences (S kL) (S [um c]) 0 (S kL).length 1 = [(kd c).toNat] := by decide +kernel
theorem um_low : ∀ c ∈ SG, um c < 128 := by decide +kernel
end
end K54
namespace K54
open PySem PySem.Spec PyProof.Rows L2 Lc Evl
section
variable {P : Program} {w : World} {K : PySem.W.Frag} {mg : Str → Option Value} {base : Heap}
theorem q_forEH {K : PySem.W.Frag} {σ : L2.St} {H : Hp} {tA : TA} {D : Ends} {tu tz : TS} {l : List Nat} {p q : Nat} (hlow : low (S l)) (h : EvA tA σ H [.str (S l)]) (Pv : Nat → L2.St → Hp → Prop) (h0 : ∀ H1, Ex H H1 → Pv 0 σ H1) (hx : ∀ i σ' H1 H2, Pv i σ' H1 → Ex H1 H2 → Pv i σ' H2)
    (hs : ∀ i c σ' H', l[i]? = some c → Pv i σ' H' → tu { D with nx := Pv (i + 1), ct := Pv (i + 1), bk := tz D } ((σ'.set p (some (.int (i : Nat)))).set q (some (.str (S [c])))) H') (hd : ∀ σ' H', Pv l.length σ' H' → tz D σ' H') :
    tSeq (tFor (iEnumH tA) (gTup K 2 (gCons (gName p) (gCons (gName q) gNil))) tu) tz D σ H := s_forEH (D := { D with nx := tz D }) hlow h Pv h0 hx hs hd
def sp_valueG (K : PySem.W.Frag) : Sp := fun vs H Q _ => ∃ (o : Addr) (p b : Int) (G : List (List Int)) (l : List Nat), vs = [.ref o, .str (S l)] ∧ Wt K H o p b G ∧ Row l ∧ OkS G.length l ∧ RetV (.int (rem b (wS G p l 0 l.length))) H Q
theorem ok_Weights_value_H (T : Tx K mg w) : OkH P w K mg base 2 d_Weights_value ps_Weights_value (sp_valueG K) := by
  obtain ⟨ds, vd, bd⟩ := b_check_row T
  refine okH (h_Weights_value T) sc_Weights_value (fun vs H Q E h => ?_) (fun cdv A outer s H vs Q E p hot hr h => ⟨_,
      (pss_cons (ps_expr (pe_callHD (ok_check_row_H (P := P) (w := w) (base := base) T) (L2H.RoomH.mono hr (by decide)) ⟨p, hot, List.mem_singleton.mpr rfl⟩ (by rfl) (m_check_row T) (k_check_row T) bd vd (fun _ => passAtN) (pa_cons (pv 1) pa_nil)))
      (pss_cons (ps_set (i := 2) sc_Weights_value.nd rfl (Or.inl rfl) pe_int)
      (pss_cons (L2H.ps_forH (passes_of rfl) ⟨p, hot, List.mem_singleton.mpr rfl⟩ (pi_enumH (by rfl) (m_enumerate T) (pa_cons (L2H.pe_callH (ok_unmarked_H (P := P) (w := w) (base := base) T) (L2H.RoomH.mono hr (by decide)) ⟨p, hot, List.mem_singleton.mpr rfl⟩ (by rfl) (m_unmarked T) (k_unmarked T) (b_unmarked T) (fun _ => passAtN) (pa_cons (pv 1) pa_nil)) pa_nil)) (pg_tupH ⟨p, hot, List.mem_singleton.mpr rfl⟩ (pgs_cons (pg_name (i := 3) sc_Weights_value.nd rfl (Or.inl rfl)) (pgs_cons (pg_name (i := 4) sc_Weights_value.nd rfl (Or.inl rfl)) pgs_nil))) (pss_one (ps_if (pt_cmpR op_in_sign (pv 4) (pe_glob (v := .str "abcd") rfl (m_KINDS T).choose_spec ⟨_, rfl⟩) (by rfl)) (pss_cons (ps_set (i := 5) sc_Weights_value.nd rfl (Or.inl rfl) (pe_bm PySem.F.plainAttrs_str PySem.F.slot_str_index PySem.F.type_str_index mt_sindex (pe_glob (v := .str "abcd") rfl (m_KINDS T).choose_spec ⟨_, rfl⟩) (pa_cons (pv 4) pa_nil)))
      (pss_cons (ps_if (pt_cmpR op_ge (pv 5) (pe_callB call_len (by rfl) (m_len T) (by decide +kernel) (pa_cons (pe_fld (pv 0) rfl) pa_nil)) (nomark _)) (pss_one ps_dead) pss_nil)
      (pss_one (ps_set (i := 2) sc_Weights_value.nd rfl (Or.inl rfl) (pe_op op_add (pv 2) (pe_ix ix_tup (pe_ix ix_tup (pe_fld (pv 0) rfl) (pv 5) (fun _ _ => rfl)) (pe_op op_mod (pv 3) (pe_fld (pv 0) rfl)) (fun _ _ => rfl))))))) pss_nil)))
      (pss_one (ps_ret (L2H.pe_callH (ok_remainder_H (P := P) (w := w) (base := base) T) (L2H.RoomH.mono hr (by decide)) ⟨p, hot, List.mem_singleton.mpr rfl⟩ (by rfl) (m_remainder T) (k_remainder T) (b_remainder T) (fun _ => passAtN) (pa_cons (pv 2) (pa_cons (pe_fld (pv 0) rfl) pa_nil)))))))), ?_⟩)
  · obtain ⟨o, p, b, G, l, rfl, _⟩ := h
    rfl
  · obtain ⟨o, p, b, G, l, rfl, h1, ⟨hl, hc⟩, hok, q⟩ := h
    have hp0 := h1.1
    obtain ⟨_, dx, t, rs, a1, a2, a3⟩ := id h1
    obtain ⟨w1, w2, w3, w4, w5⟩ := part_w hp0
    have hg : ∀ c ∈ l, c ∈ SG := fun c h => (hok c h).1
    have hlowu : ∀ c ∈ l.map um, c < 128 := fun c h => by
      obtain ⟨x, hx, rfl⟩ := List.mem_map.mp h
      exact um_low x (hg x hx)
    refine ⟨_, rfl, l, SG, by rw [sg_eq]; rfl, hl, hc, hg, fun H1 e1 => ?_⟩
    dsimp only
    simp only [kl_eq]
    refine q_asg ev_c fun H2 e2 => ?_
    have e12 := e1.trans e2
    refine q_forEH (l := l.map um) (low_S hlowu) (ea_cons (ev_call (ea_cons (by exact ev_var rfl) ea_nil) fun H3 e3 Q3 q3 E3 => ⟨l, rfl, hl, hc, q3⟩) ea_nil) (fun i σ' H' => Ex H H' ∧ (∀ c ∈ l.take i, kd c < (G.length : Int)) ∧ ∃ (v3 v4 v5 : Option V), σ' = [some (.ref o), some (.str (S l)), some (.int (wS G p l 0 i)), v3, v4, v5])
      (fun H3 e3 => ⟨e12.trans e3, by simp, none, none, none, rfl⟩) (fun i σ' H3 H4 h e => ⟨h.1.trans e, h.2⟩) ?_ ?_
    · rintro i cu σ' H' hi ⟨e, hpre, v3, v4, v5, rfl⟩
      rw [List.getElem?_map] at hi
      have hil : i < l.length := by
        rcases Nat.lt_or_ge i l.length with h | h
        · exact h
        · rw [List.getElem?_eq_none h] at hi
          cases hi
      have hic : l[i]? = some (l.getD i 0) := by
        rw [List.getD_eq_getElem?_getD, List.getElem?_eq_getElem hil]
        rfl
      rw [hic] at hi
      have hcu : um (l.getD i 0) = cu := by simpa using hi
      subst hcu
      have hcs := hg _ (getD_in hil)
      have hmem := getD_in hil
      dsimp only [List.set]
      have ht : wS G p l 0 (i + 1) = wS G p l 0 i + tm G p l 0 i := rfl
      have hnext : ∀ c, kd (l.getD i 0) < (G.length : Int) → c ∈ l.take (i + 1) → kd c < (G.length : Int) := fun c hk hc => by
        rw [List.take_add_one, List.mem_append] at hc
        rcases hc with hc | hc
        · exact hpre c hc
        · rw [hic] at hc
          have : c = l.getD i 0 := by simpa using hc
          rw [this]
          exact hk
      refine s_when (b := decide (um (l.getD i 0) ∈ kL)) (et_test (ev_op (ev_var rfl) ev_c rv_inSS)) (fun hb H3 e3 => ?_) (fun hb H3 e3 => ?_)
      · rw [um_kd _ hcs] at hb
        have h0 : 0 ≤ kd (l.getD i 0) := of_decide_eq_true hb
        refine q_asg (v := .int (kd (l.getD i 0))) (fun H4 e4 Q4 q4 => ⟨rfl, _, rfl, S kL, S [um (l.getD i 0)], (kd (l.getD i 0)).toNat, [], rfl, rfl, um_occ _ hcs h0, by
          rw [Int.toNat_of_nonneg h0]
          exact q4 H4 (Ex.refl H4)⟩) fun H4 e4 => ?_
        have e34 := (e.trans e3).trans e4
        have hlen := rc_lenT (K := K) (st_of (K := K) (e34 _ _ a2))
        rw [List.length_map, a3.len] at hlen
        refine q_when (b := decide ((G.length : Int) ≤ kd (l.getD i 0))) (et_test (ev_op (by exact ev_var rfl) (ev_cb (ea_cons (ev_tab (te := tVar 0) T (ev_var rfl) (e34 _ _ a1)) ea_nil) hlen) rv_I0)) (fun hb2 H5 e5 => ?_) (fun hb2 H5 e5 => ?_)
        · have hge : (G.length : Int) ≤ kd (l.getD i 0) := of_decide_eq_true hb2
          have hno : ¬ OkS G.length l := fun z => by have := (z _ hmem).2; omega
          exact absurd hok hno
        · have hlt : kd (l.getD i 0) < (G.length : Int) := by
            have := of_decide_eq_false hb2
            omega
          have e35 := e34.trans e5
          have b1 := Int.emod_nonneg ((i : Int)) (show p ≠ 0 by omega)
          have b2 := Int.emod_lt_of_pos ((i : Int)) (show (0 : Int) < p by omega)
          have hln := w3.at_ (k := (kd (l.getD i 0)).toNat) (by omega)
          have hrow := rv_rowT (K := K) (e35 _ _ a2) (a3.ex e35) h0 hlt
          have hcell := rv_cellT (K := K) (a3.ex e35) h0 hlt b1 (by rw [hln]; omega)
          refine s_asg (ev_op (x := .int (wS G p l 0 i)) (by exact ev_var rfl) (ev_op (ev_op (ev_tab (te := tVar 0) T (ev_var rfl) (e35 _ _ a1)) (by exact ev_var rfl) hrow) (ev_op (by exact ev_var rfl) (ev_per (te := tVar 0) T (ev_var rfl) (h1.ex e35)) (rv_I (show (0 : Int) < p by omega))) hcell) rv_I0) fun H6 e6 => ?_
          have ht2 : tm G p l 0 i = (G.getD (kd (l.getD i 0)).toNat []).getD ((i : Int) % p).toNat 0 := by
            unfold tm
            rw [if_pos h0, Int.zero_add]
          refine ⟨e35.trans e6, fun c hc => hnext c hlt hc, some (.int ((i : Nat) : Int)), some (.str (S [um (l.getD i 0)])), some (.int (kd (l.getD i 0))), ?_⟩
          rw [ht, ht2]
          rfl
      · rw [um_kd _ hcs] at hb
        have h0 : ¬ 0 ≤ kd (l.getD i 0) := of_decide_eq_false hb
        have ht2 : tm G p l 0 i = 0 := by
          unfold tm
          rw [if_neg h0]
        refine ⟨e.trans e3, fun c hc => hnext c (by omega) hc, some (.int ((i : Nat) : Int)), some (.str (S [um (l.getD i 0)])), v5, ?_⟩
        rw [ht, ht2, Int.add_zero]
    · rintro σ' H' ⟨e, hpre, v3, v4, v5, rfl⟩
      rw [List.length_map] at hpre ⊢
      rw [List.take_length] at hpre
      refine s_ret (ev_call (ea_cons (by exact ev_var rfl) (ea_cons (ev_mdl (te := tVar 0) T (ev_var rfl) (h1.ex e)) ea_nil)) fun H3 e3 Q3 q3 E3 => ⟨_, b, rfl, by omega, q3⟩) fun H3 e3 => ?_
      exact q H3 (e.trans e3)
def sp_law_bad_row (K : PySem.W.Frag) : Sp := fun vs H Q _ => ∃ (o : Addr) (p b due : Int) (G : List (List Int)) (l z : List Nat), vs = [.ref o, .str (S l), .str (S z), .int due] ∧ Wt K H o p b G ∧ Row l ∧ OkS G.length l ∧ Row z ∧ ¬ OkS G.length z ∧ due = rem b (wS G p l 0 l.length) ∧ RetV (.bl true) H Q
theorem ok_law_bad_row (T : Tx K mg w) : OkD P w K mg base 5 d_law_bad_row ps_law_bad_row (sp_law_bad_row K) := by
  refine (h_law_bad_row T).ok sc_law_bad_row (fun vs H Q E h => ?_) (fun cdv A outer s H vs Q E hr h => ⟨_,
      (pss_cons (L2N.ps_try_as (i := 4) (Wout := fun _ _ _ _ => False) rfl rfl sc_law_bad_row.nd rfl rfl ⟨rfl, by decide, Or.inl (m_InvalidRow T)⟩ takes0N
        (fun W pn xe tk _ => pss_one (ps_expr (pe_methSg (pv 0) (c_Weights T) (me_Weights_value T) (ok_Weights_value (P := P) (w := w) (base := base) T) (hr.mono (by decide)) (b_Weights_value T) (fun σ => L2N.passAt tk σ) (pa_cons (pv 2) pa_nil))))
        (fun a oe cls d pn hz hf => pss_cons (ps_if (PW.pt (pw_or (pt_val (pe_callB (call_isG (D := He.ga K "InvalidRow") (exc_InvalidRow T) hz.zc hf) (by rfl) (m_isinstance T) (by decide +kernel) (pa_cons (pv 4) (pa_cons (pe_glob (v := .ref (He.ga K "InvalidWeight")) rfl (m_InvalidWeight T) rfl) pa_nil)))) (pw_or (pt_not (pt_val (pe_callB (call_isG (D := He.ga K "InvalidRow") (exc_InvalidRow T) hz.zc hf) (by rfl) (m_isinstance T) (by decide +kernel) (pa_cons (pv 4) (pa_cons (pe_glob (v := .ref (He.ga K "LeapError")) rfl (m_LeapError T) rfl) pa_nil))))) (pw_or1 (pt_cmpR op_ne (pe_xf (x_InvalidRow T).xf (x_InvalidRow T).no hz.zc hf (pv 4)) (pv 2) (nomark _)))))) (pss_one (ps_ret pe_bl)) pss_nil)
          (pss_cons (ps_set (i := 5) sc_law_bad_row.nd rfl (Or.inl rfl) (L2H.pe_methH (pv 0) (c_Weights T) (me_Weights_value T) (ok_Weights_value_H (P := P) (w := w) (base := base) T) ⟨(hr.mono (show 2 ≤ 4 by decide)).dp, (hr.mono (show 2 ≤ 4 by decide)).un⟩ (hot_suite hz hf) (b_Weights_value T) (fun _ => passAtN) (pa_cons (pv 1) pa_nil)))
          (pss_one (ps_ret (pe_and (L2H.pe_callH (ok_law_is_integer_H (P := P) (w := w) (base := base) T) ⟨(hr.mono (show 1 ≤ 4 by decide)).dp, (hr.mono (show 1 ≤ 4 by decide)).un⟩ (hot_suite hz hf) (by rfl) (m_law_is_integer T) (k_law_is_integer T) (b_law_is_integer T) (fun _ => passAtN) (pa_cons (pv 5) pa_nil)) (pe_one (pe_cmpR op_eq (pv 5) (pv 3) (nomark _)))))))))
      (pss_one (ps_ret pe_bl))), ?_⟩)
  · obtain ⟨o, p, b, due, G, l, z, rfl, _⟩ := h
    rfl
  · obtain ⟨o, p, b, due, G, l, z, rfl, h1, hr1, ho, hz1, hno, rfl, q⟩ := h
    obtain ⟨dx, t, i1⟩ := h1.ins
    refine ⟨_, rfl, o, dx, _, rfl, i1, rfl, _, rfl, o, p, b, G, z, rfl, h1, hz1, ⟨fun hok => absurd hok hno, fun _ d H1 hd e1 hx => ?_⟩⟩
    refine ⟨true, exm_InvalidRow T, fun _ a' ha => ?_, fun z => by cases z⟩
    dsimp only
    refine q_when (b := (false || (!true || !decide (z = z)))) (et_or (et_B (ev_cb (ea_cons (ta := tVar 4) (ev_var rfl) (ea_cons ev_c ea_nil)) (rc_isG _ hx (.own _) (kit_InvalidRow_InvalidWeight T)))) fun _ => et_or (et_not (et_B (ev_cb (ea_cons (ta := tVar 4) (ev_var rfl) (ea_cons ev_c ea_nil)) (rc_isG _ hx (.own _) (kit_InvalidRow_LeapError T))))) fun _ => et_test (ev_op (x := .str (S z)) (fun H3 e3 Q3 q3 => ⟨_, rfl, rfl, rfl, d, _, _, rfl, e3 _ _ hx, rfl, q3 H3 (Ex.refl H3)⟩) (by exact ev_var rfl) rv_neSS)) (fun hc => by simp at hc) (fun _ H2 e2 => ?_)
    refine q_first ?_
    refine ⟨_, rfl, o, dx, _, rfl, (e1.trans e2) _ _ i1, rfl, _, rfl, o, p, b, G, l, rfl, h1.ex (e1.trans e2), hr1, ho, fun H3 e3 => ?_⟩
    try dsimp only [gName]
    refine s_ret (v := .bl (true && decide (rem b (wS G p l 0 l.length) = rem b (wS G p l 0 l.length)))) (ev_andV (ev_call (ea_cons (by exact ev_var rfl) ea_nil) fun H4 e4 Q4 q4 E4 => ⟨_, rfl, q4⟩) fun _ => ev_op (by exact ev_var rfl) (by exact ev_var rfl) rv_eqII) fun H4 e4 => ?_
    rw [decide_eq_true rfl]
    exact q H4 (((e1.trans e2).trans e3).trans e4)
end
end K54
namespace K54
open PySem PySem.Spec PyProof.Rows L2 Lc Evl
section
variable {P : Program} {w : World} {K : PySem.W.Frag} {mg : Str → Option Value} {base : Heap}
/-! ### rows asked -/
def ods : List Nat := [32, 33, 36, 38, 39, 40, 41, 42, 43, 44, 45, 47, 48, 49, 50, 51, 52, 53, 54, 55, 56, 57, 59, 60, 61, 62, 63, 64, 69, 70, 71, 72, 73, 74, 75, 76, 77, 78, 79, 80, 81, 82, 83, 84, 85, 86, 87, 88, 89, 90, 91, 93, 94, 95, 101, 102, 103, 104, 105, 106, 107, 108, 109, 110, 111, 112, 113, 114, 115, 116, 117, 118, 119, 120, 121, 122, 123, 124, 125, 126]
theorem ods_eq : Str.ofString " !$&'()*+,-/0123456789;<=>?@EFGHIJKLMNOPQRSTUVWXYZ[]^_efghijklmnopqrstuvwxyz{|}~" = S ods := by decide +kernel
theorem ods_no : ∀ c ∈ ods, c ∉ SG ∧ c < 128 := by decide +kernel
theorem bey_no : ∀ n, n ≤ 4 → ∀ c ∈ kL.drop n ++ kU.drop n, (n : Int) ≤ kd c ∧ c < 128
  | 0, _ => by decide
  | 1, _ => by decide
  | 2, _ => by decide
  | 3, _ => by decide
  | 4, _ => by decide
  | n + 5, h => by omega
theorem ifs_fst {σ : L2.St} {H : Hp} {te : TE} {tu tw : TS} {D : Ends} (h : te σ H fun x H1 => ∃ b, x = .bl b ∧ if b = true then tu D σ H1 else tw D σ H1) : tIfS (tTest te) tu tw D σ H := h
theorem s_ifAnd {σ : L2.St} {H : Hp} {a : Bool} {t : TT} {te : TE} {tu tw : TS} {D : Ends} (h1 : EvT t σ H a) (h2 : a = true → ∀ H1, Ex H H1 → te σ H1 fun x H2 => ∃ b, x = .bl b ∧ if b = true then tu D σ H2 else tw D σ H2) (h3 : a = false → ∀ H1, Ex H H1 → tw D σ H1) : tIfS (tAnd t (tTest te)) tu tw D σ H := h1 H (Ex.refl H) _ fun H1 e1 => by
  cases a with
  | true => exact h2 rfl H1 e1
  | false => exact h3 rfl H1 e1
theorem wS_mul {m : Nat} {F : List (List Int)} {l : List Nat} {f : Int} {n : Nat} (hm : 1 ≤ m) (hok : OkS F.length l) (hn : n ≤ l.length) : wS (gr F.length m fun k i => cl F k i * f) m l 0 n = wS F m l 0 n * f := by
  induction n with
  | zero => exact (Int.zero_mul f).symm
  | succ n ih =>
    show wS _ m l 0 n + tm _ m l 0 n = (wS F m l 0 n + tm F m l 0 n) * f
    rw [ih (by omega), Int.add_mul]
    congr 1
    have hc := hok _ (getD_in (show n < l.length by omega))
    unfold tm
    split
    · rename_i h0
      have b1 := Int.emod_nonneg (0 + (n : Int)) (show ((m : Int)) ≠ 0 by omega)
      have b2 := Int.emod_lt_of_pos (0 + (n : Int)) (show (0 : Int) < (m : Int) by omega)
      exact gr_cl (g := fun k i => cl F k i * f) (by omega) (by omega)
    · exact (Int.zero_mul f).symm
def sp_law_rows (K : PySem.W.Frag) : Sp := fun vs H Q _ => ∃ (a o wd g : Addr) (k : Int) (ns : List Int) (p : Nat) (b : Int) (F : List (List Int)), vs = [.ref a, .int k, .ref o, .ref wd] ∧ SqL K H a (ns.map V.int) ∧ 0 ≤ k ∧ k < 1000 ∧ Wt K H o p b (red b F) ∧ Wl H wd g p b ∧ Gd H g F ∧ Wd p F ∧ RetV (.bl true) H Q
theorem ok_law_rows (T : Tx K mg w) : OkD P w K mg base 8 d_law_rows ps_law_rows (sp_law_rows K) := by
  refine (h_law_rows T).ok sc_law_rows (fun vs H Q E h => ?_) (fun cdv A outer s H vs Q E hr h => ⟨_,
      (pss_cons (ps_set (i := 4) sc_law_rows.nd rfl (Or.inl rfl) (pe_call (ok_law_box (P := P) (w := w) (base := base) T) (hr.mono (by decide)) (by rfl) (m_law_box T) (k_law_box T) (b_law_box T) .nil passN (pa_cons (pv 0) (pa_cons (pv 1) pa_nil))))
      (pss_cons (ps_set (i := 5) sc_law_rows.nd rfl (Or.inl rfl) (pe_callB call_len (by rfl) (m_len T) (by decide +kernel) (pa_cons (pe_ix ix_list (pv 3) pe_int (fun _ _ => rfl)) pa_nil)))
      (pss_cons (ps_set (i := 6) sc_law_rows.nd rfl (Or.inl rfl) (pe_op op_add_str (pe_op op_add_str pe_str (pe_slice sl_str pe_str po_none (po_some (pv 5)))) (pe_slice sl_str pe_str po_none (po_some (pv 5)))))
      (pss_cons (ps_set (i := 7) sc_law_rows.nd rfl (Or.inl rfl) (pe_call (ok_law_take (P := P) (w := w) (base := base) T) (hr.mono (by decide)) (by rfl) (m_law_take T) (k_law_take T) (b_law_take T) .nil passN (pa_cons (pv 4) (pa_cons pe_int pa_nil))))
      (Evl.pss_cut (ps_if (pt_cmpR op_eq (pe_call (ok_law_take (P := P) (w := w) (base := base) T) (hr.mono (by decide)) (by rfl) (m_law_take T) (k_law_take T) (b_law_take T) .nil passN (pa_cons (pv 4) (pa_cons pe_int pa_nil))) pe_int (nomark _)) (pss_one (ps_set (i := 7) sc_law_rows.nd rfl (Or.inl rfl) (pe_call (ok_law_take (P := P) (w := w) (base := base) T) (hr.mono (by decide)) (by rfl) (m_law_take T) (k_law_take T) (b_law_take T) .nil passN (pa_cons (pv 4) (pa_cons pe_int pa_nil))))) pss_nil)
      (pss_cons (ps_set (i := 8) sc_law_rows.nd rfl (Or.inl rfl) (pe_call (ok_law_take (P := P) (w := w) (base := base) T) (hr.mono (by decide)) (by rfl) (m_law_take T) (k_law_take T) (b_law_take T) .nil passN (pa_cons (pv 4) (pa_cons (pe_op op_add (pv 7) pe_int) pa_nil))))
      (pss_cons (ps_set (i := 9) sc_law_rows.nd rfl (Or.inl rfl) pe_str)
      (pss_cons (ps_set (i := 10) sc_law_rows.nd rfl (Or.inl rfl) (pe_op op_add_str (pe_slice sl_str pe_str (po_some (pv 5)) po_none) (pe_slice sl_str pe_str (po_some (pv 5)) po_none)))
      (Evl.pss_cut (ps_if (PW.pt (pw_and (pt_cmpR op_ne (pv 10) pe_str (nomark _)) (pw_and1 (pt_cmpR op_eq (pe_call (ok_law_take (P := P) (w := w) (base := base) T) (hr.mono (by decide)) (by rfl) (m_law_take T) (k_law_take T) (b_law_take T) .nil passN (pa_cons (pv 4) (pa_cons pe_int pa_nil))) pe_int (nomark _))))) (pss_one (ps_set (i := 9) sc_law_rows.nd rfl (Or.inl rfl) (pv 10))) pss_nil)
      (pss_cons (ps_set (i := 11) sc_law_rows.nd rfl (Or.inl rfl) (pe_ix ix_str (pv 9) (pe_call (ok_law_take (P := P) (w := w) (base := base) T) (hr.mono (by decide)) (by rfl) (m_law_take T) (k_law_take T) (b_law_take T) .nil passN (pa_cons (pv 4) (pa_cons (pe_callB call_len_str (by rfl) (m_len T) (by decide +kernel) (pa_cons (pv 9) pa_nil)) pa_nil))) (fun _ _ => rfl)))
      (pss_cons (ps_set (i := 12) sc_law_rows.nd rfl (Or.inl rfl) (pe_call (ok_law_entry (P := P) (w := w) (base := base) T) (hr.mono (by decide)) (by rfl) (m_law_entry T) (k_law_entry T) (b_law_entry T) .nil passN (pa_cons (pv 4) (pa_cons (pe_call (ok_law_take (P := P) (w := w) (base := base) T) (hr.mono (by decide)) (by rfl) (m_law_take T) (k_law_take T) (b_law_take T) .nil passN (pa_cons (pv 4) (pa_cons pe_int pa_nil))) pa_nil))))
      (pss_cons (ps_set (i := 13) sc_law_rows.nd rfl (Or.inl rfl) (pe_call (ok_law_line (P := P) (w := w) (base := base) T) (hr.mono (by decide)) (by rfl) (m_law_line T) (k_law_line T) (b_law_line T) .nil passN (pa_cons (pv 4) (pa_cons (pv 6) (pa_cons (pv 7) pa_nil)))))
      (pss_cons (ps_set (i := 14) sc_law_rows.nd rfl (Or.inl rfl) (pe_call (ok_law_sum (P := P) (w := w) (base := base) T) (hr.mono (by decide)) (by rfl) (m_law_sum T) (k_law_sum T) (b_law_sum T) .nil passN (pa_cons (pe_ix ix_list (pv 3) pe_int (fun _ _ => rfl)) (pa_cons (pe_ix ix_list (pv 3) pe_int (fun _ _ => rfl)) (pa_cons (pv 13) (pa_cons pe_int pa_nil))))))
      (pss_cons (ps_set (i := 15) sc_law_rows.nd rfl (Or.inl rfl) (pe_meth (pv 2) (c_Weights T) (me_Weights_value T) (ok_Weights_value (P := P) (w := w) (base := base) T) (hr.mono (by decide)) (b_Weights_value T) .nil passN (pa_cons (pv 13) pa_nil)))
      (pss_cons (ps_if (PW.pt (pw_or (pt_not (pt_val (pe_call (ok_law_is_integer (P := P) (w := w) (base := base) T) (hr.mono (by decide)) (by rfl) (m_law_is_integer T) (k_law_is_integer T) (b_law_is_integer T) .nil passN (pa_cons (pv 15) pa_nil)))) (pw_or1 (pt_cmpR op_ne (pv 15) (pe_call (ok_law_reduced (P := P) (w := w) (base := base) T) (hr.mono (by decide)) (by rfl) (m_law_reduced T) (k_law_reduced T) (b_law_reduced T) .nil passN (pa_cons (pv 14) (pa_cons (pe_ix ix_list (pv 3) pe_int (fun _ _ => rfl)) pa_nil))) (nomark _))))) (pss_one (ps_ret pe_bl)) pss_nil)
      (pss_cons (ps_set (i := 16) sc_law_rows.nd rfl (Or.inl rfl) (pe_op (op_binInt (ok_Weights_mul (P := P) (w := w) (base := base) T) (hr.mono (by decide)) (first_Weights T) (me_Weights_mul T).at_ (me_Weights_mul T).fn (rmul_Weights T) (mul_int T).choose_spec (rmul_int T).choose_spec (sub_int_Weights T) (b_Weights_mul T) passN) (pv 2) (pv 12)))
      (pss_cons (ps_set (i := 15) sc_law_rows.nd rfl (Or.inl rfl) (pe_meth (pv 16) (c_Weights T) (me_Weights_value T) (ok_Weights_value (P := P) (w := w) (base := base) T) (hr.mono (by decide)) (b_Weights_value T) .nil passN (pa_cons (pv 13) pa_nil)))
      (pss_cons (ps_if (PW.pt (pw_or (pt_not (pt_val (pe_call (ok_law_is_integer (P := P) (w := w) (base := base) T) (hr.mono (by decide)) (by rfl) (m_law_is_integer T) (k_law_is_integer T) (b_law_is_integer T) .nil passN (pa_cons (pv 15) pa_nil)))) (pw_or1 (pt_cmpR op_ne (pv 15) (pe_call (ok_law_reduced (P := P) (w := w) (base := base) T) (hr.mono (by decide)) (by rfl) (m_law_reduced T) (k_law_reduced T) (b_law_reduced T) .nil passN (pa_cons (pe_op op_mul (pv 14) (pv 12)) (pa_cons (pe_ix ix_list (pv 3) pe_int (fun _ _ => rfl)) pa_nil))) (nomark _))))) (pss_one (ps_ret pe_bl)) pss_nil)
      (pss_one (ps_ret (pe_call (ok_law_bad_row (P := P) (w := w) (base := base) T) (hr.mono (by decide)) (by rfl) (m_law_bad_row T) (k_law_bad_row T) (b_law_bad_row T) .nil passN (pa_cons (pv 2) (pa_cons (pv 13) (pa_cons (pe_op op_add_str (pe_op op_add_str (pe_slice sl_str (pv 13) po_none (po_some (pv 8))) (pv 11)) (pe_slice sl_str (pv 13) (po_some (pv 8)) po_none)) (pa_cons (pe_call (ok_law_reduced (P := P) (w := w) (base := base) T) (hr.mono (by decide)) (by rfl) (m_law_reduced T) (k_law_reduced T) (b_law_reduced T) .nil passN (pa_cons (pv 14) (pa_cons (pe_ix ix_list (pv 3) pe_int (fun _ _ => rfl)) pa_nil))) pa_nil))))))))))))))))))))))))), ?_⟩)
  · obtain ⟨a, o, wd, g, k, ns, p, b, F, rfl, _⟩ := h
    rfl
  · obtain ⟨a, o, wd, g, k, ns, p, b, F, rfl, hs, hk0, hk1, hw, hwd, hF, hwF, q⟩ := h
    have hp0 := hw.1
    rw [part_red] at hp0
    obtain ⟨w1, w2, w3, w4, w5⟩ := part_w hp0
    have k1 : Str.ofString "#.:" = S [35, 46, 58] := by decide +kernel
    have k2 : Str.ofString "ABCD" = S kU := by decide +kernel
    have k3 : Str.ofString "abcd" = S kL := by decide +kernel
    have k4 : Str.ofString "" = S [] := by decide +kernel
    simp only [k1, k2, k3, k4, ods_eq]
    refine q_first ?_
    refine cons_fst ⟨_, rfl, ?_⟩
    refine ⟨_, rfl, a, ns, k, rfl, hs, hk0, hk1, fun bx H1 hbx e1 b1 => ?_⟩
    try dsimp only [gName]
    refine q_asg (v := .int (F.length : Int)) (ev_lenG (ev_w2 (wd := wd) (p := (p : Int)) (b := b) (by exact ev_var rfl) (e1 _ _ hwd)) (hF.ex e1)) fun H2 e2 => ?_
    refine q_asg (v := .str (S (sgn F.length))) (ev_sgn (n := F.length) (by exact ev_var rfl) (by exact ev_var rfl)) fun H3 e3 => ?_
    have b3 := b1.ex (e2.trans e3)
    refine q_asgI (b := bx) (ei_take (many := 9) rfl (fun H => ev_c) (by decide) (by decide)) b3 fun s0 H4 hs0 x4 b4 => ?_
    have X4 : ExB bx H1 H4 := (ExB.of (e2.trans e3)).trans x4
    refine q_cut (M := fun σ' H' => ∃ sz : Nat, σ' = [some (.ref a), some (.int k), some (.ref o), some (.ref wd), some (.ref bx), some (.int (F.length : Int)), some (.str (S (sgn F.length))), some (.int (sz : Int)), none, none, none, none, none, none, none, none, none] ∧ ExB bx H1 H' ∧ Bx H' bx ∧ sz ≤ 60) ?_ ?_
    · refine ifs_fst ?_
      refine op_fst ?_
      refine sp_take_then (b := bx) (i := 4) (many := 4) rfl b4 ev_c (by decide) (by decide) fun d H5 d0 d1 x5 b5 => ?_
      refine ⟨rfl, _, rfl, ?_⟩
      by_cases hd : V.int d = V.int 3
      · rw [decide_eq_true hd, if_pos rfl]
        refine asg_fst ?_
        refine sp_take_then (b := bx) (i := 4) (many := 60) rfl b5 ev_c (by decide) (by decide) fun s1 H6 d0 d1 x6 b6 => ?_
        obtain ⟨sz, rfl⟩ : ∃ n : Nat, s1 = (n : Int) := ⟨s1.toNat, by omega⟩
        exact ⟨sz, rfl, (X4.trans x5).trans x6, b6, by omega⟩
      · rw [decide_eq_false hd, if_neg (by decide)]
        obtain ⟨sz, rfl⟩ : ∃ n : Nat, s0 = (n : Int) := ⟨s0.toNat, by omega⟩
        exact ⟨sz, rfl, X4.trans x5, b5, by omega⟩
    rintro σ' H5 ⟨sz, rfl, X5, b5, hsz⟩
    refine q_first ?_
    refine sp_take_then (b := bx) (i := 4) (many := (sz : Int) + 1) rfl b5 (ev_op (by exact ev_var rfl) ev_c rv_I0) (by omega) (Nat.lt_of_le_of_lt (show ((sz : Int) + 1).natAbs ≤ 61 by omega) (by decide)) fun d H6 d0 d1 x6 b6 => ?_
    obtain ⟨at_, rfl⟩ : ∃ n : Nat, d = (n : Int) := ⟨d.toNat, by omega⟩
    have hat : at_ ≤ sz := by omega
    try dsimp only [gName]
    refine st_is (σ' := [some (.ref a), some (.int k), some (.ref o), some (.ref wd), some (.ref bx), some (.int (F.length : Int)), some (.str (S (sgn F.length))), some (.int (sz : Int)), some (.int (at_ : Int)), none, none, none, none, none, none, none, none]) rfl ?_
    refine q_asg ev_c fun H7 e7 => ?_
    have hfr : ∀ {σ : L2.St} {HH : Hp} {z : List Nat} {ti : TE}, z.length ≤ 4 → Ev ti σ HH (.int (F.length : Int)) → Ev (tSl rSlS (tC (.str (S z))) (tPart ti) tNoPart) σ HH (.str (S (z.drop F.length))) := fun hz h => ev_from ev_c h (by omega)
    refine q_asg (v := .str (S (kL.drop F.length ++ kU.drop F.length))) (ev_op (hfr (by decide) (by exact ev_var rfl)) (hfr (by decide) (by exact ev_var rfl)) (rv_catSS (by rw [List.length_drop, List.length_drop]; simp only [kL, kU, List.length_cons, List.length_nil]; omega))) fun H8 e8 => ?_
    refine st_is (σ' := [some (.ref a), some (.int k), some (.ref o), some (.ref wd), some (.ref bx), some (.int (F.length : Int)), some (.str (S (sgn F.length))), some (.int (sz : Int)), some (.int (at_ : Int)), some (.str (S ods)), some (.str (S (kL.drop F.length ++ kU.drop F.length))), none, none, none, none, none, none]) rfl ?_
    have e78 := e7.trans e8
    have b8 := b6.ex e78
    have X8 := (X5.trans x6).trans (ExB.of e78)
    refine q_cut (M := fun σ' H' => ∃ od : List Nat, σ' = [some (.ref a), some (.int k), some (.ref o), some (.ref wd), some (.ref bx), some (.int (F.length : Int)), some (.str (S (sgn F.length))), some (.int (sz : Int)), some (.int (at_ : Int)), some (.str (S od)), some (.str (S (kL.drop F.length ++ kU.drop F.length))), none, none, none, none, none, none] ∧ ExB bx H1 H' ∧ Bx H' bx ∧ 0 < od.length ∧ od.length ≤ 1000 ∧ (∀ c ∈ od, ¬ (c ∈ SG ∧ kd c < (F.length : Int)) ∧ c < 128)) ?_ ?_
    · have hods : ∀ c ∈ ods, ¬ (c ∈ SG ∧ kd c < (F.length : Int)) ∧ c < 128 := fun c hc => ⟨fun z => (ods_no c hc).1 z.1, (ods_no c hc).2⟩
      refine s_ifAnd (a := !decide (kL.drop F.length ++ kU.drop F.length = [])) (et_test (ev_op (by exact ev_var rfl) ev_c rv_neSS)) (fun ha H9 e9 => ?_) (fun ha H9 e9 => ?_)
      · refine op_fst ?_
        refine sp_take_then (b := bx) (i := 4) (many := 2) rfl (b8.ex e9) ev_c (by decide) (by decide) fun d H10 d0 d1 x10 b10 => ?_
        refine ⟨rfl, _, rfl, ?_⟩
        by_cases hd : V.int d = V.int 1
        · rw [decide_eq_true hd, if_pos rfl]
          refine s_asg (by exact ev_var rfl) fun H11 e11 => ?_
          have hne : kL.drop F.length ++ kU.drop F.length ≠ [] := of_decide_eq_false (not_t ha)
          refine ⟨kL.drop F.length ++ kU.drop F.length, rfl, (((X8.trans (ExB.of e9)).trans x10).trans (ExB.of e11)), b10.ex e11, List.length_pos_iff.mpr hne, ?_, fun c hc => ?_⟩
          · rw [List.length_append, List.length_drop, List.length_drop]
            simp only [kL, kU, List.length_cons, List.length_nil]
            omega
          · have := bey_no F.length w2 c hc
            exact ⟨fun z => by omega, this.2⟩
        · rw [decide_eq_false hd, if_neg (by decide)]
          exact ⟨ods, rfl, (X8.trans (ExB.of e9)).trans x10, b10, by decide, by decide, hods⟩
      · exact ⟨ods, rfl, X8.trans (ExB.of e9), b8.ex e9, by decide, by decide, hods⟩
    rintro σ' H9 ⟨od, rfl, X9, b9, ho0, ho1, hod⟩
    refine q_first ?_
    refine op_fst ⟨_, rfl, ?_⟩
    refine sp_take_then (b := bx) (i := 4) (many := (od.length : Int)) rfl b9 (ev_cb (ea_cons (by exact ev_var rfl) ea_nil) (rc_lenStr (by omega))) (by omega) (Nat.lt_of_le_of_lt (show (od.length : Int).natAbs ≤ 1000 by omega) (by decide)) fun d H10 d0 d1 x10 b10 => ?_
    obtain ⟨i, rfl⟩ : ∃ n : Nat, d = (n : Int) := ⟨d.toNat, by omega⟩
    have hi : i < od.length := by omega
    refine ⟨S od, (i : Int), od.getD i 0, rfl, rfl, sz_of (by rw [S_len]; omega), by
      have := atI_i (xs := od) (i := (i : Int)) (by omega) (by omega) 0
      rwa [Int.toNat_natCast] at this, ?_⟩
    try dsimp only [gName]
    refine st_is (σ' := [some (.ref a), some (.int k), some (.ref o), some (.ref wd), some (.ref bx), some (.int (F.length : Int)), some (.str (S (sgn F.length))), some (.int (sz : Int)), some (.int (at_ : Int)), some (.str (S od)), some (.str (S (kL.drop F.length ++ kU.drop F.length))), some (.str (S [od.getD i 0])), none, none, none, none, none]) rfl ?_
    refine q_asgI (b := bx) (ei_entry rfl (ei_take (many := 3) rfl (fun H => ev_c) (by decide) (by decide))) b10 fun f H11 hf x11 b11 => ?_
    refine st_is (σ' := [some (.ref a), some (.int k), some (.ref o), some (.ref wd), some (.ref bx), some (.int (F.length : Int)), some (.str (S (sgn F.length))), some (.int (sz : Int)), some (.int (at_ : Int)), some (.str (S od)), some (.str (S (kL.drop F.length ++ kU.drop F.length))), some (.str (S [od.getD i 0])), some (.int f), none, none, none, none]) rfl ?_
    have hsl := sgn_len F.length
    refine q_first ?_
    refine cons_fst ⟨_, rfl, ?_⟩
    refine cons_fst ⟨_, rfl, ?_⟩
    refine cons_fst ⟨_, rfl, ?_⟩
    refine ⟨bx, sgn F.length, sz, rfl, b11, by omega, by omega, by omega, fun l H12 hll hlm x12 b12 => ?_⟩
    try dsimp only [gName]
    refine st_is (σ' := [some (.ref a), some (.int k), some (.ref o), some (.ref wd), some (.ref bx), some (.int (F.length : Int)), some (.str (S (sgn F.length))), some (.int (sz : Int)), some (.int (at_ : Int)), some (.str (S od)), some (.str (S (kL.drop F.length ++ kU.drop F.length))), some (.str (S [od.getD i 0])), some (.int f), some (.str (S l)), none, none, none]) rfl ?_
    have X12 : Ex H H12 := ex_new hbx e1 (((X9.trans x10).trans x11).trans x12)
    have hok : OkS F.length l := fun c hc => ⟨(sgn_ok _ w2 c (hlm c hc)).1, (sgn_ok _ w2 c (hlm c hc)).2.1⟩
    have hrow : Row l := ⟨by omega, fun c hc => (sgn_ok _ w2 c (hlm c hc)).2.2⟩
    refine q_asg (v := .int (wS F p l 0 l.length)) (ev_call (ea_cons (ev_w2 (wd := wd) (p := (p : Int)) (b := b) (by exact ev_var rfl) (X12 _ _ hwd)) (ea_cons (ev_w0 (wd := wd) (g := g) (b := b) (by exact ev_var rfl) (X12 _ _ hwd)) (ea_cons (by exact ev_var rfl) (ea_cons ev_c ea_nil)))) fun H13 e13 Q2 q2 E2 => ⟨g, F, p, l, 0, rfl, hF.ex (X12.trans e13), hwF, by omega, by omega, hok, q2⟩) fun H13 e13 => ?_
    refine st_is (σ' := [some (.ref a), some (.int k), some (.ref o), some (.ref wd), some (.ref bx), some (.int (F.length : Int)), some (.str (S (sgn F.length))), some (.int (sz : Int)), some (.int (at_ : Int)), some (.str (S od)), some (.str (S (kL.drop F.length ++ kU.drop F.length))), some (.str (S [od.getD i 0])), some (.int f), some (.str (S l)), some (.int (wS F p l 0 l.length)), none, none]) rfl ?_
    have X13 := X12.trans e13
    refine q_asg (ev_val (ew_var (by exact rfl) (hw.ex X13)) (fun H => by exact ev_var rfl) hrow (by rw [red_len]; exact hok)) fun H14 e14 => ?_
    rw [rem_wS]
    refine st_is (σ' := [some (.ref a), some (.int k), some (.ref o), some (.ref wd), some (.ref bx), some (.int (F.length : Int)), some (.str (S (sgn F.length))), some (.int (sz : Int)), some (.int (at_ : Int)), some (.str (S od)), some (.str (S (kL.drop F.length ++ kU.drop F.length))), some (.str (S [od.getD i 0])), some (.int f), some (.str (S l)), some (.int (wS F p l 0 l.length)), some (.int (rem b (wS F p l 0 l.length))), none]) rfl ?_
    have X14 := X13.trans e14
    refine q_when (b := (!true || !decide (rem b (wS F p l 0 l.length) = rem b (wS F p l 0 l.length)))) (et_or (et_not (et_B (ev_isI (by exact ev_var rfl)))) fun _ => et_test (ev_op (by exact ev_var rfl) (ev_red (by exact ev_var rfl) (ev_w1 (wd := wd) (g := g) (p := (p : Int)) (by exact ev_var rfl) (X14 _ _ hwd)) (by omega)) rv_neII)) (fun hc => by simp at hc) (fun _ H15 e15 => ?_)
    have X15 := X14.trans e15
    refine q_first ?_
    refine ew_mul (ew_var (by exact rfl) (hw.ex X15)) (fun H => by exact ev_var rfl) hf.1 hf.2 hwF H15 (Ex.refl H15) _ fun o2 H16 e16 hw2 => ?_
    try dsimp only [gName]
    refine st_is (σ' := [some (.ref a), some (.int k), some (.ref o), some (.ref wd), some (.ref bx), some (.int (F.length : Int)), some (.str (S (sgn F.length))), some (.int (sz : Int)), some (.int (at_ : Int)), some (.str (S od)), some (.str (S (kL.drop F.length ++ kU.drop F.length))), some (.str (S [od.getD i 0])), some (.int f), some (.str (S l)), some (.int (wS F p l 0 l.length)), some (.int (rem b (wS F p l 0 l.length))), some (.ref o2)]) rfl ?_
    have X16 := X15.trans e16
    refine q_asg (ev_val (ew_var (by exact rfl) hw2) (fun H => by exact ev_var rfl) hrow (by rw [red_len, gr_len]; exact hok)) fun H17 e17 => ?_
    rw [rem_wS, wS_mul (by omega) hok (Nat.le_refl _)]
    refine st_is (σ' := [some (.ref a), some (.int k), some (.ref o), some (.ref wd), some (.ref bx), some (.int (F.length : Int)), some (.str (S (sgn F.length))), some (.int (sz : Int)), some (.int (at_ : Int)), some (.str (S od)), some (.str (S (kL.drop F.length ++ kU.drop F.length))), some (.str (S [od.getD i 0])), some (.int f), some (.str (S l)), some (.int (wS F p l 0 l.length)), some (.int (rem b (wS F p l 0 l.length * f))), some (.ref o2)]) rfl ?_
    have X17 := X16.trans e17
    refine q_when (b := (!true || !decide (rem b (wS F p l 0 l.length * f) = rem b (wS F p l 0 l.length * f)))) (et_or (et_not (et_B (ev_isI (by exact ev_var rfl)))) fun _ => et_test (ev_op (by exact ev_var rfl) (ev_red (ev_op (by exact ev_var rfl) (by exact ev_var rfl) (rv_I (.inr ⟨by omega, by omega⟩))) (ev_w1 (wd := wd) (g := g) (p := (p : Int)) (by exact ev_var rfl) (X17 _ _ hwd)) (by omega)) rv_neII)) (fun hc => by simp at hc) (fun _ H18 e18 => ?_)
    have X18 := X17.trans e18
    have hbad : ¬ OkS F.length (l.take at_ ++ [od.getD i 0] ++ l.drop at_) := fun z => (hod _ (getD_in hi)).1 (z _ (by simp))
    have hbl : (l.take at_ ++ [od.getD i 0] ++ l.drop at_).length ≤ 1000 := by
      rw [List.length_append, List.length_append, List.length_take, List.length_drop]
      simp only [List.length_cons, List.length_nil]
      omega
    have hbrow : Row (l.take at_ ++ [od.getD i 0] ++ l.drop at_) := ⟨hbl, fun c hc => by
      rcases List.mem_append.mp hc with hc | hc
      · rcases List.mem_append.mp hc with hc | hc
        · exact hrow.2 c (List.mem_of_mem_take hc)
        · have : c = od.getD i 0 := by simpa using hc
          rw [this]
          exact (hod _ (getD_in hi)).2
      · exact hrow.2 c (List.mem_of_mem_drop hc)⟩
    refine s_ret (v := .bl true) (ev_call (ea_cons (by exact ev_var rfl) (ea_cons (by exact ev_var rfl) (ea_cons (ev_op (ev_op (ev_to (by exact ev_var rfl) (by exact ev_var rfl) (by omega)) (by exact ev_var rfl) (rv_catSS (by rw [List.length_take]; simp only [List.length_cons, List.length_nil]; omega))) (ev_from (by exact ev_var rfl) (by exact ev_var rfl) (by omega)) (rv_catSS (by rw [← List.length_append]; omega))) (ea_cons (ev_red (by exact ev_var rfl) (ev_w1 (wd := wd) (g := g) (p := (p : Int)) (by exact ev_var rfl) (X18 _ _ hwd)) (by omega)) ea_nil)))) fun H19 e19 Q2 q2 E2 => ⟨o, p, b, _, red b F, l, _, rfl, hw.ex (X18.trans e19), hrow, by rw [red_len]; exact hok, hbrow, by rw [red_len]; exact hbad, by rw [rem_wS], q2⟩) fun H19 e19 => ?_
    exact q H19 (X18.trans e19)
end
end K54
namespace K54
open PySem PySem.Spec PyProof.Rows L2 Lc Evl
section
variable {P : Program} {w : World} {K : PySem.W.Frag} {mg : Str → Option Value} {base : Heap}
/-! ### the law -/
theorem exB_ref {b : Addr} (H : Hp) : ExB b H H := ExB.refl H
theorem Wt.exL {H H' : Hp} {r o : Addr} {p m : Int} {T : List (List Int)} {xs : List V} (hb : H r = some (.lst xs)) (h : Wt K H o p m T) (e : ExB r H H') : Wt K H' o p m T := by
  obtain ⟨h0, dx, t, rs, h1, h2, h3⟩ := h
  refine ⟨h0, dx, t, rs, e _ _ (fun z => ?_) h1, e _ _ (fun z => ?_) h2, h3.len, fun k hk => e _ _ (fun z => ?_) (h3.row k hk)⟩
  · rw [z, hb] at h1
    cases h1
  · rw [z, hb] at h2
    cases h2
  · have := h3.row k hk
    rw [z, hb] at this
    cases this
theorem ev_neG {σ : L2.St} {H : Hp} {te tb : TE} {q : Addr} {F G : List (List Int)} (h : EvG .lst te σ H G) (hb : ∀ H1, Ev tb σ H1 (.ref q)) (hq : Gd H q F) : Ev (tOp (rNeD K) te tb) σ H (.bl (!decide (G = F))) := fun H1 e Q k => by
  refine h H1 e _ fun c cs H2 hc e2 h2 hr2 _ _ => hb H2 H2 (Ex.refl H2) _ fun H3 e3 => ?_
  obtain ⟨rs, k1, k2⟩ := hq.ex ((e.trans e2).trans e3)
  exact rv_neGL (e3 _ _ h2) (hr2.ex e3) k1 k2 H3 (Ex.refl H3) _ fun H4 e4 => k H4 ((e2.trans e3).trans e4)
theorem rv_ixTb {H : Hp} {h : Addr} {cs : List Addr} {i : Nat} (hh : H h = some (.lst (cs.map V.ref)) ∨ H h = some (.tup (cs.map V.ref))) (hi : i < cs.length) : RV (rIx K) (.ref h) (.int (i : Int)) H (.ref (cs.getD i 0)) := by
  have hat : atI (cs.map V.ref) (i : Int) = some (.ref (cs.getD i 0)) := by
    have := atI_ref (rs := cs) (i := (i : Int)) (by omega) (by omega)
    rwa [Int.toNat_natCast] at this
  intro H1 e Q q
  rcases hh with hh | hh
  · exact .inl ⟨h, _, _, _, rfl, rfl, sq_of (e _ _ hh), hat, q H1 (Ex.refl H1)⟩
  · exact .inr (.inl ⟨h, _, _, _, rfl, rfl, st_of (e _ _ hh), hat, q H1 (Ex.refl H1)⟩)
theorem new_seq6 {H H6 H' : Hp} {a bx : Addr} {xs : List V} (hs : SqL K H a xs) (hb : H bx = none) (e : Ex H H6) (x : ExB bx H6 H') : SqL K H' a xs := by
  have k : ∀ o, H a = some o → H' a = some o := fun o h => x a o (fun z => by rw [z, hb] at h; cases h) (e a o h)
  rcases hs with (h | ⟨o, h⟩) | h
  · exact .inl (.inl (k _ h))
  · exact .inl (.inr ⟨o, k _ h⟩)
  · exact .inr h
def sp_law (K : PySem.W.Frag) : Sp := fun vs H Q _ => ∃ (a : Addr) (ns : List Int), vs = [.ref a] ∧ SqL K H a (ns.map V.int) ∧ ∀ H1, Q (.bl true) H1
theorem ok_law (T : Tx K mg w) : OkD P w K mg base 10 d_law ps_law (sp_law K) := by
  refine (h_law T).ok sc_law (fun vs H Q E h => ?_) (fun cdv A outer s H vs Q E hr h => ⟨_,
      (pss_cons (ps_set (i := 1) sc_law.nd rfl (Or.inl rfl) (pe_call (ok_law_box (P := P) (w := w) (base := base) T) (hr.mono (by decide)) (by rfl) (m_law_box T) (k_law_box T) (b_law_box T) .nil passN (pa_cons (pv 0) (pa_cons pe_int pa_nil))))
      (pss_cons (ps_set (i := 2) sc_law.nd rfl (Or.inl rfl) (pe_op op_add pe_int (pe_call (ok_law_take (P := P) (w := w) (base := base) T) (hr.mono (by decide)) (by rfl) (m_law_take T) (k_law_take T) (b_law_take T) .nil passN (pa_cons (pv 1) (pa_cons pe_int pa_nil)))))
      (pss_cons (ps_set (i := 3) sc_law.nd rfl (Or.inl rfl) pe_int)
      (Evl.pss_cut (ps_if (pt_cmpR op_gt (pe_call (ok_law_take (P := P) (w := w) (base := base) T) (hr.mono (by decide)) (by rfl) (m_law_take T) (k_law_take T) (b_law_take T) .nil passN (pa_cons (pv 1) (pa_cons pe_int pa_nil))) pe_int (nomark _)) (pss_one (ps_set (i := 3) sc_law.nd rfl (Or.inl rfl) (pe_op op_add pe_int (pe_call (ok_law_take (P := P) (w := w) (base := base) T) (hr.mono (by decide)) (by rfl) (m_law_take T) (k_law_take T) (b_law_take T) .nil passN (pa_cons (pv 1) (pa_cons pe_int pa_nil)))))) pss_nil)
      (pss_cons (ps_set (i := 4) sc_law.nd rfl (Or.inl rfl) (pe_op op_add pe_int (pe_call (ok_law_take (P := P) (w := w) (base := base) T) (hr.mono (by decide)) (by rfl) (m_law_take T) (k_law_take T) (b_law_take T) .nil passN (pa_cons (pv 1) (pa_cons pe_int pa_nil)))))
      (pss_cons (ps_set (i := 5) sc_law.nd rfl (Or.inl rfl) (pe_call (ok_law_grid (P := P) (w := w) (base := base) T) (hr.mono (by decide)) (by rfl) (m_law_grid T) (k_law_grid T) (b_law_grid T) .nil passN (pa_cons (pe_call (ok_law_box (P := P) (w := w) (base := base) T) (hr.mono (by decide)) (by rfl) (m_law_box T) (k_law_box T) (b_law_box T) .nil passN (pa_cons (pv 0) (pa_cons pe_int pa_nil))) (pa_cons (pv 2) (pa_cons (pv 4) (pa_cons (pe_call (ok_law_take (P := P) (w := w) (base := base) T) (hr.mono (by decide)) (by rfl) (m_law_take T) (k_law_take T) (b_law_take T) .nil passN (pa_cons (pv 1) (pa_cons pe_int pa_nil))) pa_nil))))))
      (pss_cons (ps_set (i := 6) sc_law.nd rfl (Or.inl rfl) (pe_call (ok_law_grid (P := P) (w := w) (base := base) T) (hr.mono (by decide)) (by rfl) (m_law_grid T) (k_law_grid T) (b_law_grid T) .nil passN (pa_cons (pe_call (ok_law_box (P := P) (w := w) (base := base) T) (hr.mono (by decide)) (by rfl) (m_law_box T) (k_law_box T) (b_law_box T) .nil passN (pa_cons (pv 0) (pa_cons pe_int pa_nil))) (pa_cons (pv 2) (pa_cons (pv 4) (pa_cons (pe_call (ok_law_take (P := P) (w := w) (base := base) T) (hr.mono (by decide)) (by rfl) (m_law_take T) (k_law_take T) (b_law_take T) .nil passN (pa_cons (pv 1) (pa_cons pe_int pa_nil))) pa_nil))))))
      (pss_cons (ps_set (i := 7) sc_law.nd rfl (Or.inl rfl) (pe_call (ok_law_copy (P := P) (w := w) (base := base) T) (hr.mono (by decide)) (by rfl) (m_law_copy T) (k_law_copy T) (b_law_copy T) .nil passN (pa_cons (pv 5) pa_nil)))
      (Evl.pss_cut (ps_if (pt_cmpR op_eq (pe_call (ok_law_take (P := P) (w := w) (base := base) T) (hr.mono (by decide)) (by rfl) (m_law_take T) (k_law_take T) (b_law_take T) .nil passN (pa_cons (pv 1) (pa_cons pe_int pa_nil))) pe_int (nomark _)) (pss_one (ps_set (i := 7) sc_law.nd rfl (Or.inl rfl) (pe_callTy (show CallR _ (.type "tuple") (rTupOf K) from call_tuple_of) (by rfl) (m_tuple T) (by decide +kernel) (pa_cons (pv 7) pa_nil)))) pss_nil)
      (pss_cons (ps_set (i := 8) sc_law.nd rfl (Or.inl rfl) (pe_make (mk_Weights T) (ok_Weights_init (P := P) (w := w) (base := base) T) (hr.mono (by decide)) (by rfl) (m_Weights T) (b_Weights_init T) .nil passN (pa_cons (pv 2) (pa_cons (pv 3) (pa_cons (pv 7) pa_nil)))))
      (pss_cons (ps_if (PW.pt (pw_or (pt_cmpR op_ne (pe_callB call_len (by rfl) (m_len T) (by decide +kernel) (pa_cons (pv 7) pa_nil)) (pv 4) (nomark _)) (pw_or1 (pt_cmpR (op_neD hr.units) (pe_lc (own := [("entries", 12)]) (g := gName 12) rfl sc_law.nd (pi_seq (pv 7)) (blkOk_by (own := [("entries", 12)]) (N := ns_law) (sc := (defScope st_law)) (by decide +kernel)) (fun _ _ _ _ _ => pg_name (i := 12) sc_law.nd rfl (Or.inl rfl)) (fun _ _ _ _ _ => pts_nil) (fun _ _ _ _ _ => (pe_callTy (show CallR _ (.type "list") (rListOf K) from call_list_of) (by rfl) (m_list T) (by decide +kernel) (pa_cons (pv 12) pa_nil)))) (pv 5) (nomark _))))) (pss_one (ps_ret pe_bl)) pss_nil)
      (pss_cons (ps_if (pt_not (pt_val (pe_call (ok_law_is_weights (P := P) (w := w) (base := base) T) (hr.mono (by decide)) (by rfl) (m_law_is_weights T) (k_law_is_weights T) (b_law_is_weights T) .nil passN (pa_cons (pv 8) (pa_cons (pv 2) (pa_cons (pv 3) (pa_cons (pv 5) pa_nil))))))) (pss_one (ps_ret pe_bl)) pss_nil)
      (pss_cons (ps_set (i := 9) sc_law.nd rfl (Or.inl rfl) (pe_lst (pa_cons (pv 2) (pa_cons (pv 3) (pa_cons (pv 5) pa_nil)))))
      (pss_cons (ps_if (pt_not (pt_val (pe_call (ok_law_rows (P := P) (w := w) (base := base) T) (hr.mono (by decide)) (by rfl) (m_law_rows T) (k_law_rows T) (b_law_rows T) .nil passN (pa_cons (pv 0) (pa_cons pe_int (pa_cons (pv 8) (pa_cons (pv 9) pa_nil))))))) (pss_one (ps_ret pe_bl)) pss_nil)
      (pss_cons (ps_set (i := 10) sc_law.nd rfl (Or.inl rfl) (pe_ix ix_seq (pv 7) (pe_op op_sub (pv 4) pe_int) (fun _ _ => rfl)))
      (pss_cons (ps_asg (pe_op op_add (pe_ix ix_list (pv 10) pe_int (fun _ _ => rfl)) pe_int) (pg_sub (pv 10) pe_int set_list))
      (pss_cons (ps_set (i := 10) sc_law.nd rfl (Or.inl rfl) (pe_ix ix_seq (pv 7) pe_int (fun _ _ => rfl)))
      (pss_cons (ps_expr (pe_bm PySem.F.plainAttrs_list PySem.F.slot_list_append PySem.F.type_list_append mt_append (pv 10) (pa_cons pe_int pa_nil)))
      (Evl.pss_cut (ps_if (pt_val (pe_callB call_isi (by rfl) (m_isinstance T) (by decide +kernel) (pa_cons (pv 7) (pa_cons (pe_bltn (v := .ty "list") (u := .type "list") (by rfl) (m_list T) (by decide +kernel) rfl) pa_nil)))) (pss_one (ps_expr (pe_bm PySem.F.plainAttrs_list PySem.F.slot_list_append PySem.F.type_list_append mt_append (pv 7) (pa_cons (pe_lst (pa_cons pe_int pa_nil)) pa_nil)))) pss_nil)
      (pss_cons (ps_if (PW.pt (pw_or (pt_not (pt_val (pe_call (ok_law_is_weights (P := P) (w := w) (base := base) T) (hr.mono (by decide)) (by rfl) (m_law_is_weights T) (k_law_is_weights T) (b_law_is_weights T) .nil passN (pa_cons (pv 8) (pa_cons (pv 2) (pa_cons (pv 3) (pa_cons (pv 5) pa_nil))))))) (pw_or1 (pt_not (pt_val (pe_call (ok_law_rows (P := P) (w := w) (base := base) T) (hr.mono (by decide)) (by rfl) (m_law_rows T) (k_law_rows T) (b_law_rows T) .nil passN (pa_cons (pv 0) (pa_cons pe_int (pa_cons (pv 8) (pa_cons (pv 9) pa_nil)))))))))) (pss_one (ps_ret pe_bl)) pss_nil)
      (pss_cons (ps_if (pt_not (pt_val (pe_call (ok_law_bad_arguments (P := P) (w := w) (base := base) T) (hr.mono (by decide)) (by rfl) (m_law_bad_arguments T) (k_law_bad_arguments T) (b_law_bad_arguments T) .nil passN (pa_cons (pv 1) (pa_cons (pv 2) (pa_cons (pv 3) (pa_cons (pv 5) pa_nil))))))) (pss_one (ps_ret pe_bl)) pss_nil)
      (pss_cons (ps_if (PW.pt (pw_or (pt_not (pt_val (pe_call (ok_law_joined (P := P) (w := w) (base := base) T) (hr.mono (by decide)) (by rfl) (m_law_joined T) (k_law_joined T) (b_law_joined T) .nil passN (pa_cons (pv 0) (pa_cons (pv 8) (pa_cons (pv 9) (pa_cons (pv 6) pa_nil))))))) (pw_or1 (pt_not (pt_val (pe_call (ok_law_equal (P := P) (w := w) (base := base) T) (hr.mono (by decide)) (by rfl) (m_law_equal T) (k_law_equal T) (b_law_equal T) .nil passN (pa_cons (pv 0) (pa_cons (pv 8) (pa_cons (pv 9) pa_nil))))))))) (pss_one (ps_ret pe_bl)) pss_nil)
      (pss_cons (ps_if (pt_not (pt_val (pe_call (ok_law_unlike (P := P) (w := w) (base := base) T) (hr.mono (by decide)) (by rfl) (m_law_unlike T) (k_law_unlike T) (b_law_unlike T) .nil passN (pa_cons (pv 0) (pa_cons (pv 8) (pa_cons (pv 9) pa_nil)))))) (pss_one (ps_ret pe_bl)) pss_nil)
      (pss_cons (ps_for (passes_of rfl) rfl (pi_range2 rfl (m_range T) (pa_cons pe_int (pa_cons (pe_callB (call_min2 rfl) (by rfl) (m_min T) (by decide +kernel) (pa_cons pe_int (pa_cons (pe_callB call_len (by rfl) (m_len T) (by decide +kernel) (pa_cons (pv 0) pa_nil)) pa_nil))) pa_nil))) (pg_name (i := 11) sc_law.nd rfl (Or.inl rfl)) (pss_one (ps_if (pt_not (pt_val (pe_call (ok_law_rows (P := P) (w := w) (base := base) T) (hr.mono (by decide)) (by rfl) (m_law_rows T) (k_law_rows T) (b_law_rows T) .nil passN (pa_cons (pv 0) (pa_cons (pv 11) (pa_cons (pv 8) (pa_cons (pv 9) pa_nil))))))) (pss_one (ps_ret pe_bl)) pss_nil)))
      (pss_one (ps_ret (pe_call (ok_law_is_weights (P := P) (w := w) (base := base) T) (hr.mono (by decide)) (by rfl) (m_law_is_weights T) (k_law_is_weights T) (b_law_is_weights T) .nil passN (pa_cons (pv 8) (pa_cons (pv 2) (pa_cons (pv 3) (pa_cons (pv 5) pa_nil))))))))))))))))))))))))))))))), ?_⟩)
  · obtain ⟨a, ns, rfl, _⟩ := h
    rfl
  · obtain ⟨a, ns, rfl, hs, q⟩ := h
    refine q_first ?_
    refine cons_fst ⟨_, rfl, ?_⟩
    refine ⟨a, ns, 0, rfl, hs, by decide, by decide, fun bx H1 hbx e1 b1 => ?_⟩
    try dsimp only [gName]
    refine q_asgI (b := bx) (Pd := fun x => 1 ≤ x ∧ x ≤ 12) (ei_op ei_c (ei_take (many := 12) rfl (fun H => ev_c) (by decide) (by decide)) fun x y hx hy => by subst hx; omega) b1 fun pz H2 hpz x2 b2 => ?_
    obtain ⟨p, rfl⟩ : ∃ n : Nat, pz = (n : Int) := ⟨pz.toNat, by omega⟩
    refine q_asg ev_c fun H3 e3 => ?_
    have x3 := x2.trans (ExB.of e3)
    have b3 := b2.ex e3
    refine q_cut (M := fun σ' H' => ∃ b : Int, σ' = [some (.ref a), some (.ref bx), some (.int (p : Int)), some (.int b), none, none, none, none, none, none, none, none, none] ∧ ExB bx H1 H' ∧ Bx H' bx ∧ (b = 0 ∨ (2 ≤ b ∧ b ≤ 97))) ?_ ?_
    · refine ifs_fst ?_
      refine op_fst ?_
      refine sp_take_then (b := bx) (i := 1) (many := 3) rfl b3 ev_c (by decide) (by decide) fun d H4 d0 d1 x4 b4 => ?_
      refine ⟨d, 0, rfl, rfl, _, rfl, ?_⟩
      by_cases hd : d > 0
      · rw [decide_eq_true hd, if_pos rfl]
        refine asg_fst ?_
        refine ei_op (b := bx) (Pd := fun x => 2 ≤ x ∧ x ≤ 97) ei_c (ei_take (many := 96) rfl (fun H => ev_c) (by decide) (by decide)) (fun x y hx hy => by subst hx; omega) H4 b4 _ fun b H5 hb x5 b5 => ?_
        exact ⟨b, rfl, (x3.trans x4).trans x5, b5, .inr hb⟩
      · rw [decide_eq_false hd, if_neg (by decide)]
        exact ⟨0, rfl, x3.trans x4, b4, .inl rfl⟩
    rintro σ' H4 ⟨b, rfl, x4, b4, hbm⟩
    refine q_asgI (b := bx) (Pd := fun x => 1 ≤ x ∧ x ≤ 4) (ei_op ei_c (ei_take (many := 4) rfl (fun H => ev_c) (by decide) (by decide)) fun x y hx hy => by subst hx; omega) b4 fun nz H40 hnz x40 b40 => ?_
    obtain ⟨n, rfl⟩ : ∃ n : Nat, nz = (n : Int) := ⟨nz.toNat, by omega⟩
    refine st_is (σ' := [some (.ref a), some (.ref bx), some (.int (p : Int)), some (.int b), some (.int (n : Int)), none, none, none, none, none, none, none, none]) rfl ?_
    have X40 : Ex H H40 := ex_new hbx e1 (x4.trans x40)
    refine q_first ?_
    refine cons_fst ?_
    refine ⟨_, rfl, a, ns, 1, rfl, ex_l X40 hs, by decide, by decide, fun by5 G1 hby ey bb => ?_⟩
    have hne5 : by5 ≠ bx := bx_ne b40 hby
    refine cons_fst ⟨_, rfl, ?_⟩
    refine cons_fst ⟨_, rfl, ?_⟩
    refine cons_fst ?_
    refine sp_take_then (b := bx) (i := 1) (many := 3) rfl (b40.ex ey) ev_c (by decide) (by decide) fun sc G2 d0 d1 yx yb => ?_
    have bb2 : Bx G2 by5 := yx.bx hne5 bb
    refine ⟨by5, p, n, sc, rfl, bb2, by omega, by omega, fun g gs F H5 ng z5 bz5 hg rg fg _ hG5 => ?_⟩
    obtain ⟨lF, wF⟩ := hG5
    have b5 : Bx H5 bx := z5.bx (Ne.symm hne5) yb
    have X5 : Ex H H5 := ex_new (fresh_back X40 hby) (ex_new hbx X40 (((ExB.of ey).trans yx))) z5
    have B5 : GdB bx H5 g F := gdB_new yb ng hg rg fg
    have hbyH5 : H40 by5 = none := hby
    have Y5 : ExB bx H40 H5 := fun c v hc hv => z5 c v (fun zz => by rw [zz, hby] at hv; cases hv) (((ExB.of ey).trans yx) c v hc hv)
    try dsimp only [gName]
    refine st_is (σ' := [some (.ref a), some (.ref bx), some (.int (p : Int)), some (.int b), some (.int (n : Int)), some (.ref g), none, none, none, none, none, none, none]) rfl ?_
    refine q_first ?_
    refine cons_fst ?_
    refine ⟨_, rfl, a, ns, 2, rfl, ex_l X5 hs, by decide, by decide, fun by6 G1 hby ey bb => ?_⟩
    have hne6 : by6 ≠ bx := bx_ne b5 hby
    refine cons_fst ⟨_, rfl, ?_⟩
    refine cons_fst ⟨_, rfl, ?_⟩
    refine cons_fst ?_
    refine sp_take_then (b := bx) (i := 1) (many := 3) rfl (b5.ex ey) ev_c (by decide) (by decide) fun sc G2 d0 d1 yx yb => ?_
    have bb2 : Bx G2 by6 := yx.bx hne6 bb
    refine ⟨by6, p, n, sc, rfl, bb2, by omega, by omega, fun g2 g2s G H6 ng2 z6 bz6 hg2 rg2 fg2 _ hG6 => ?_⟩
    obtain ⟨lG, wG⟩ := hG6
    have b6 : Bx H6 bx := z6.bx (Ne.symm hne6) yb
    have X6 : Ex H H6 := ex_new (fresh_back X5 hby) (ex_new hbx X5 (((ExB.of ey).trans yx))) z6
    have B6 : GdB bx H6 g2 G := gdB_new yb ng2 hg2 rg2 fg2
    have hbyH6 : H5 by6 = none := hby
    have Y6 : ExB bx H5 H6 := fun c v hc hv => z6 c v (fun zz => by rw [zz, hby] at hv; cases hv) (((ExB.of ey).trans yx) c v hc hv)
    try dsimp only [gName]
    refine st_is (σ' := [some (.ref a), some (.ref bx), some (.int (p : Int)), some (.int b), some (.int (n : Int)), some (.ref g), some (.ref g2), none, none, none, none, none, none]) rfl ?_
    have BF : GdB bx H6 g F := B5.exB Y6
    have hsm : Sm F := ⟨by omega, fun row hr => by have := wF row hr; omega⟩
    have hpF : part (p : Int) b F = none := part_n (by omega) hbm (by
      unfold isTb
      rw [lF, decide_eq_true (show (1 : Int) ≤ (n : Int) by omega), decide_eq_true (show (n : Int) ≤ 4 by omega)]
      simp only [Bool.and_self, Bool.true_and]
      refine List.all_eq_true.mpr fun x hx => ?_
      obtain ⟨row, hrow, rfl⟩ := List.mem_map.mp hx
      rw [wF row hrow]
      simp)
    clear Y5 B5 z5 z6 bz5 bz6 hg hg2 rg rg2 fg fg2 ng ng2 hbyH5 hbyH6 Y6
    refine q_first ?_
    refine ⟨_, rfl, g, F, rfl, BF.gd, by omega, fun c cs H7 hc e7 h7 hr7 hf7 hnd7 => ?_⟩
    try dsimp only [gName]
    have hcb : c ≠ bx := bx_ne b6 hc
    have hcsb : ∀ r ∈ cs, r ≠ bx := fun r hr => bx_ne b6 (hf7 r hr)
    have b7 := b6.ex e7
    refine q_cut (M := fun σ' H' => ∃ h : Addr, σ' = [some (.ref a), some (.ref bx), some (.int (p : Int)), some (.int b), some (.int (n : Int)), some (.ref g), some (.ref g2), some (.ref h), none, none, none, none, none] ∧ ExB bx H6 H' ∧ Bx H' bx ∧ (H' h = some (.lst (cs.map V.ref)) ∨ H' h = some (.tup (cs.map V.ref))) ∧ Rw .lst H' cs F ∧ h ∉ cs ∧ H6 h = none) ?_ ?_
    · refine ifs_fst ?_
      refine op_fst ?_
      refine sp_take_then (b := bx) (i := 1) (many := 3) rfl b7 ev_c (by decide) (by decide) fun d H8 d0 d1 x8 b8 => ?_
      refine ⟨rfl, _, rfl, ?_⟩
      have h8 := x8 _ _ hcb h7
      have hr8 := hr7.exB x8 hcsb
      by_cases hd : V.int d = V.int 2
      · rw [decide_eq_true hd, if_pos rfl]
        refine s_asgU (eu_tupL (K := K) (p := c) (by exact ev_var rfl) (sq_of h8)) fun h H9 hh e9 h9 => ?_
        exact ⟨h, rfl, ((ExB.of e7).trans x8).trans (ExB.of e9), b8.ex e9, .inr h9, hr8.ex e9, fun hm => rw_some hr8 hm hh, fresh_back e7 (fresh_b x8 b8 hh)⟩
      · rw [decide_eq_false hd, if_neg (by decide)]
        exact ⟨c, rfl, (ExB.of e7).trans x8, b8, .inl h8, hr8, (List.nodup_cons.mp hnd7).1, hc⟩
    rintro σ' H8 ⟨h, rfl, x8, b8, hh8, hr8, hhc, hhn⟩
    have hcn : cs.Nodup := (List.nodup_cons.mp hnd7).2
    have lc : cs.length = n := by rw [hr8.len, lF]
    refine q_first ?_
    refine ew_mk (K := K) (p := (p : Int)) (b := b) (G := F) (fun HH ee Q' q' => (ea_cons (by exact ev_var rfl) (ea_cons (by exact ev_var rfl) (ea_cons (by exact ev_var rfl) ea_nil))) HH (Ex.refl HH) _ fun H9 e9 => q' h H9 e9 ⟨cs, hh8.imp ((ee.trans e9) _ _) ((ee.trans e9) _ _), hr8.ex (ee.trans e9)⟩) hpF H8 (Ex.refl H8) _ fun o H9 e9 hw9 => ?_
    try dsimp only [gName]
    refine st_is (σ' := [some (.ref a), some (.ref bx), some (.int (p : Int)), some (.int b), some (.int (n : Int)), some (.ref g), some (.ref g2), some (.ref h), some (.ref o), none, none, none, none]) rfl ?_
    have hF9 : Gd H9 g F := (BF.exB x8).gd.ex e9
    have hh9 := hh8.imp (e9 h _) (e9 h _)
    have hr9 := hr8.ex e9
    have hlen := rc_lenSq (K := K) (sq_tb hh9)
    rw [List.length_map, lc] at hlen
    refine q_when (b := (!decide ((n : Int) = n) || !decide (F = F))) (et_or (et_test (ev_op (ev_cb (ea_cons (by exact ev_var rfl) ea_nil) hlen) (by exact ev_var rfl) rv_neII)) fun _ => et_test (ev_neG (eg_S (K := K) (c := .lst) (G := F) (a := h) (xs := cs.map V.ref) (by exact ev_var rfl) (sq_tb hh9) (by rw [List.length_map, lc, lF]) (by omega) (fun x => rfl) fun i x H10 e10 hi => by
      obtain ⟨hk, rfl, hrow⟩ := hr9.at_ hi
      exact el_listOf (ev_var rfl) (.inl (sq_of (e10 _ _ hrow)))) (fun H => by exact ev_var rfl) hF9)) (fun hc => by simp at hc) (fun _ H10 e10 => ?_)
    refine q_when (b := !true) (et_not (et_B (ev_isW (ew_var (by exact rfl) (hw9.ex e10)) (fun H => by exact ev_var rfl) (fun H => by exact ev_var rfl) (fun H e => by exact ev_var rfl) (hF9.ex e10)))) (fun hc => by cases hc) (fun _ H11 e11 => ?_)
    have e911 := e10.trans e11
    refine q_asgL (el_lst (ea_cons (by exact ev_var rfl) (ea_cons (by exact ev_var rfl) (ea_cons (by exact ev_var rfl) ea_nil))) (by simp)) fun wd H12 hwd e12 h12 => ?_
    refine st_is (σ' := [some (.ref a), some (.ref bx), some (.int (p : Int)), some (.int b), some (.int (n : Int)), some (.ref g), some (.ref g2), some (.ref h), some (.ref o), some (.ref wd), none, none, none]) rfl ?_
    have e912 := e911.trans e12
    have hs6 : SqL K H6 a (ns.map V.int) := ex_l X6 hs
    have hab : a ≠ bx ∨ True := .inr trivial
    have hsx : ∀ {H'}, ExB bx H6 H' → SqL K H' a (ns.map V.int) := fun {H'} x => new_seq6 hs hbx X6 x
    have x12 : ExB bx H6 H12 := x8.trans (ExB.of (e9.trans e912))
    have hw12 := hw9.ex e912
    have hF12 := hF9.ex e912
    refine q_when (b := !true) (et_not (et_B (ev_call (ea_cons (by exact ev_var rfl) (ea_cons ev_c (ea_cons (by exact ev_var rfl) (ea_cons (by exact ev_var rfl) ea_nil)))) fun HH ee Q2 q2 E2 => ⟨a, o, wd, g, _, ns, p, b, F, rfl, ex_l ee (hsx x12), by omega, by omega, (hw12).ex ee, ee _ _ h12, (hF12).ex ee, wF, q2⟩))) (fun hc => by cases hc) (fun _ H13 e13 => ?_)
    have hh13 := hh9.imp ((e912.trans e13) h _) ((e912.trans e13) h _)
    have hr13 := hr9.ex (e912.trans e13)
    have hw13 := hw12.ex e13
    have x13 : ExB bx H6 H13 := x12.trans (ExB.of e13)
    have b13 := b8.ex ((e9.trans e912).trans e13)
    have hwl13 : Wl H13 wd g p b := e13 _ _ h12
    have hwdr : ∀ r ∈ cs, wd ≠ r := fun r hr z => rw_some (hr9.ex e911) hr (by rw [← z]; exact hwd)
    have hwdh : wd ≠ h := fun z => by
      rw [z] at hwd
      rcases hh9.imp (e911 h _) (e911 h _) with k | k <;> (rw [hwd] at k; cases k)
    -- the handed table changed
    have hn1 : n - 1 < cs.length := by omega
    have h0l : 0 < cs.length := by omega
    refine q_asg (v := .ref (cs.getD (n - 1) 0)) (ev_op (x := .ref h) (y := .int ((n - 1 : Nat) : Int)) (by exact ev_var rfl) (ev_is (v := .int ((n : Int) - 1)) (ev_op (x := .int (n : Int)) (y := .int 1) (by exact ev_var rfl) ev_c rv_I0) (congrArg V.int (by omega))) (rv_ixTb hh13 hn1)) fun H14 e14 => ?_
    have hr14 := hr13.ex e14
    have hrow14 := hr14.row (n - 1) (by omega)
    have lw1 := wF.at_ (k := n - 1) (by omega)
    have hat0 := atI_int (row := F.getD (n - 1) []) (i := 0) (by decide) (by rw [lw1]; omega)
    refine q_setL (l := cs.getD (n - 1) 0) (xs := (F.getD (n - 1) []).map V.int) (j := 0) (v := .int (cl F (n - 1) 0 + 1)) hrow14 (ev_op (x := .int (cl F (n - 1) 0)) (ev_op (by exact ev_var rfl) ev_c (rv_ixL (sq_of hrow14) hat0)) ev_c rv_I0) (by exact ev_var rfl) ev_c (by rw [List.length_map, lw1]; omega) fun H15 e15 => ?_
    have hset : ((F.getD (n - 1) []).map V.int).set 0 (.int (cl F (n - 1) 0 + 1)) = ((F.getD (n - 1) []).set 0 (cl F (n - 1) 0 + 1)).map V.int := List.map_set.symm
    rw [hset]
    have hr1n : cs.getD (n - 1) 0 ∈ cs := getD_mem hn1
    have e1315 := e14.trans e15
    have hr15 := hr13.ex e1315
    have mut1 := rw_mut (i := n - 1) (row := (F.getD (n - 1) []).set 0 (cl F (n - 1) 0 + 1)) hr15 hcn (by omega)
    have x16 : ExB bx H6 (upd H15 (cs.getD (n - 1) 0) (.lst (((F.getD (n - 1) []).set 0 (cl F (n - 1) 0 + 1)).map V.int))) := (x13.trans (ExB.of e1315)).mut (hf7 _ hr1n)
    have b16 := (b13.ex e1315).put2 (o := .lst (((F.getD (n - 1) []).set 0 (cl F (n - 1) 0 + 1)).map V.int)) (hcsb _ hr1n)
    have hw16 := (hw13.ex e1315).exL (hr15.row (n - 1) (by omega)) (ExB.upd (b := cs.getD (n - 1) 0) (o := .lst (((F.getD (n - 1) []).set 0 (cl F (n - 1) 0 + 1)).map V.int)))
    have hwl16 : Wl (upd H15 (cs.getD (n - 1) 0) (.lst (((F.getD (n - 1) []).set 0 (cl F (n - 1) 0 + 1)).map V.int))) wd g p b := by
      unfold Wl
      rw [upd_ne (hwdr _ hr1n)]
      exact e1315 _ _ hwl13
    have hh16 : upd H15 (cs.getD (n - 1) 0) (.lst (((F.getD (n - 1) []).set 0 (cl F (n - 1) 0 + 1)).map V.int)) h = some (.lst (cs.map V.ref)) ∨ upd H15 (cs.getD (n - 1) 0) (.lst (((F.getD (n - 1) []).set 0 (cl F (n - 1) 0 + 1)).map V.int)) h = some (.tup (cs.map V.ref)) := by
      rw [upd_ne (fun z => hhc (by rw [z]; exact hr1n))]
      exact hh13.imp (e1315 h _) (e1315 h _)
    generalize upd H15 (cs.getD (n - 1) 0) (.lst (((F.getD (n - 1) []).set 0 (cl F (n - 1) 0 + 1)).map V.int)) = H16 at mut1 x16 b16 hw16 hwl16 hh16 ⊢
    refine q_asg (v := .ref (cs.getD 0 0)) (ev_op (x := .ref h) (y := .int ((0 : Nat) : Int)) (by exact ev_var rfl) ev_c (rv_ixTb hh16 h0l)) fun H17 e17 => ?_
    have hr0n : cs.getD 0 0 ∈ cs := getD_mem h0l
    have hrow17 := (mut1.ex e17).row 0 (by rw [List.length_set]; omega)
    have hl17 : (((F.set (n - 1) ((F.getD (n - 1) []).set 0 (cl F (n - 1) 0 + 1))).getD 0 []).map V.int).length < 100000 := by
      rw [List.length_map, (wd_set wF (by rw [List.length_set, lw1])).at_ (k := 0) (by rw [List.length_set]; omega)]
      omega
    refine q_app (l := cs.getD 0 0) hrow17 (by exact ev_var rfl) ev_c hl17 fun H18 e18 => ?_
    have hrow18 := e18 _ _ hrow17
    have hw18 := ((hw16.ex e17).ex e18).exL hrow18 (ExB.upd (b := cs.getD 0 0) (o := .lst ((((F.set (n - 1) ((F.getD (n - 1) []).set 0 (cl F (n - 1) 0 + 1))).getD 0 []).map V.int) ++ [V.int 5])))
    have x18 := ((x16.trans (ExB.of e17)).trans (ExB.of e18)).mut (o := .lst ((((F.set (n - 1) ((F.getD (n - 1) []).set 0 (cl F (n - 1) 0 + 1))).getD 0 []).map V.int) ++ [V.int 5])) (hf7 _ hr0n)
    have b18 := ((b16.ex e17).ex e18).put2 (o := .lst ((((F.set (n - 1) ((F.getD (n - 1) []).set 0 (cl F (n - 1) 0 + 1))).getD 0 []).map V.int) ++ [V.int 5])) (hcsb _ hr0n)
    have hwl18 : Wl (upd H18 (cs.getD 0 0) (.lst ((((F.set (n - 1) ((F.getD (n - 1) []).set 0 (cl F (n - 1) 0 + 1))).getD 0 []).map V.int) ++ [V.int 5]))) wd g p b := by
      unfold Wl
      rw [upd_ne (hwdr _ hr0n)]
      exact (e17.trans e18) _ _ hwl16
    have hh18 : upd H18 (cs.getD 0 0) (.lst ((((F.set (n - 1) ((F.getD (n - 1) []).set 0 (cl F (n - 1) 0 + 1))).getD 0 []).map V.int) ++ [V.int 5])) h = some (.lst (cs.map V.ref)) ∨ upd H18 (cs.getD 0 0) (.lst ((((F.set (n - 1) ((F.getD (n - 1) []).set 0 (cl F (n - 1) 0 + 1))).getD 0 []).map V.int) ++ [V.int 5])) h = some (.tup (cs.map V.ref)) := by
      rw [upd_ne (fun z => hhc (by rw [z]; exact hr0n))]
      exact hh16.imp ((e17.trans e18) h _) ((e17.trans e18) h _)
    generalize upd H18 (cs.getD 0 0) (.lst ((((F.set (n - 1) ((F.getD (n - 1) []).set 0 (cl F (n - 1) 0 + 1))).getD 0 []).map V.int) ++ [V.int 5])) = H19 at hw18 x18 b18 hwl18 hh18 ⊢
    refine st_is (σ' := [some (.ref a), some (.ref bx), some (.int (p : Int)), some (.int b), some (.int (n : Int)), some (.ref g), some (.ref g2), some (.ref h), some (.ref o), some (.ref wd), some (.ref (cs.getD 0 0)), none, none]) rfl ?_
    refine q_cut (M := fun σ' H' => σ' = [some (.ref a), some (.ref bx), some (.int (p : Int)), some (.int b), some (.int (n : Int)), some (.ref g), some (.ref g2), some (.ref h), some (.ref o), some (.ref wd), some (.ref (cs.getD 0 0)), none, none] ∧ ExB bx H6 H' ∧ Bx H' bx ∧ Wt K H' o p b (red b F) ∧ Wl H' wd g p b) ?_ ?_
    · rcases hh18 with hh | hh
      · refine s_when (b := true) (et_B (ev_cb (ea_cons (by exact ev_var rfl) (ea_cons ev_c ea_nil)) (rc_isLst hh))) (fun _ H20 e20 => ?_) (fun hc => by cases hc)
        refine s_appL (l := h) (xs := cs.map V.ref) (ys := [.int 7]) (e20 _ _ hh) (by exact ev_var rfl) (el_lst (ea_cons ev_c ea_nil) (by simp)) (by rw [List.length_map]; omega) fun m H21 hm e21 h21 => ?_
        have e := e20.trans e21
        have hhb : h ≠ bx := fun z => by
          rw [z] at hhn
          exact bx_ne b6 hhn rfl
        refine ⟨rfl, (x18.trans (ExB.of e)).mut hhn, (b18.ex e).put2 hhb, (hw18.ex e).exL (e _ _ hh) ExB.upd, ?_⟩
        unfold Wl
        rw [upd_ne hwdh]
        exact e _ _ hwl18
      · refine s_when (b := false) (et_B (ev_cb (ea_cons (by exact ev_var rfl) (ea_cons ev_c ea_nil)) (rc_isLstT hh))) (fun hc => by cases hc) (fun _ H20 e20 => ?_)
        exact ⟨rfl, x18.trans (ExB.of e20), b18.ex e20, hw18.ex e20, e20 _ _ hwl18⟩
    rintro σ' H20 ⟨rfl, x20, b20, hw20, hwl20⟩
    have hF20 := BF.exB x20
    refine q_when (b := (!true || !true)) (et_or (et_not (et_B (ev_isW (ew_var (by exact rfl) hw20) (fun H => by exact ev_var rfl) (fun H => by exact ev_var rfl) (fun H e => by exact ev_var rfl) hF20.gd))) fun _ => et_not (et_B (ev_call (ea_cons (by exact ev_var rfl) (ea_cons ev_c (ea_cons (by exact ev_var rfl) (ea_cons (by exact ev_var rfl) ea_nil)))) fun HH ee Q2 q2 E2 => ⟨a, o, wd, g, _, ns, p, b, F, rfl, ex_l ee (hsx x20), by omega, by omega, (hw20).ex ee, ee _ _ hwl20, (hF20.gd).ex ee, wF, q2⟩))) (fun hc => by cases hc) (fun _ H21 e21 => ?_)
    have b21 := b20.ex e21
    refine not_fst ?_
    refine ⟨_, rfl, ?_⟩
    refine cons_fst ⟨_, rfl, ?_⟩
    refine cons_fst ⟨_, rfl, ?_⟩
    refine cons_fst ⟨_, rfl, ?_⟩
    refine ⟨bx, g, p, b, F, rfl, b21, hF20.ex e21, hpF, fun H22 x22 b22 => ⟨true, rfl, iteF ?_⟩⟩
    have x622 : ExB bx H6 H22 := (x20.trans (ExB.of e21)).trans x22
    have hw22 : Wt K H22 o p b (red b F) := (hw20.ex e21).exB b21 x22
    have hwdb : wd ≠ bx := fun z => by
      have k : H20 wd = _ := hwl20
      obtain ⟨i, j, kk, hb⟩ := b20
      rw [z, hb] at k
      injection k with k
      injection k with k
      injection k with _ k
      injection k with _ k
      injection k with k
      cases k
    have hwl22 : Wl H22 wd g p b := x22 _ _ hwdb (e21 _ _ hwl20)
    have hF22 := BF.exB x622
    have hG22 := B6.exB x622
    dsimp only [tNext]
    refine st_is (σ' := [some (.ref a), some (.ref bx), some (.int (p : Int)), some (.int b), some (.int (n : Int)), some (.ref g), some (.ref g2), some (.ref h), some (.ref o), some (.ref wd), some (.ref (cs.getD 0 0)), none, none]) rfl ?_
    refine q_when (b := (!true || !true)) (et_or (et_not (et_B (ev_call (ea_cons (by exact ev_var rfl) (ea_cons (by exact ev_var rfl) (ea_cons (by exact ev_var rfl) (ea_cons (by exact ev_var rfl) ea_nil)))) fun HH ee Q2 q2 E2 => ⟨a, o, wd, g, g2, ns, p, b, F, G, rfl, ex_l ee (hsx x622), hw22.ex ee, ee _ _ hwl22, (hF22.ex ee).gd, (hG22.ex ee).gd, wF, wG, by omega, q2⟩))) fun _ => et_not (et_B (ev_call (ea_cons (by exact ev_var rfl) (ea_cons (by exact ev_var rfl) (ea_cons (by exact ev_var rfl) ea_nil))) fun HH ee Q2 q2 E2 => ⟨a, o, wd, g, ns, p, b, F, rfl, ex_l ee (hsx x622), hw22.ex ee, ee _ _ hwl22, (hF22.ex ee).gd, wF, q2⟩))) (fun hc => by cases hc) (fun _ H23 e23 => ?_)
    refine q_when (b := !true) (et_not (et_B (ev_call (ea_cons (by exact ev_var rfl) (ea_cons (by exact ev_var rfl) (ea_cons (by exact ev_var rfl) ea_nil))) fun HH ee Q2 q2 E2 => ⟨a, o, wd, g, ns, p, b, F, rfl, ex_l (e23.trans ee) (hsx x622), hw22.ex (e23.trans ee), (e23.trans ee) _ _ hwl22, (hF22.ex (e23.trans ee)).gd, wF, q2⟩))) (fun hc => by cases hc) (fun _ H24 e24 => ?_)
    have e224 := e23.trans e24
    have hl := rc_lenL (K := K) (ex_l e224 (hsx x622))
    rw [List.length_map] at hl
    refine q_forR2 (lo := 7) (n := if (ns.length : Int) < 63 then (ns.length : Int) else 63) (ea_cons ev_c (ea_cons (ev_cb (ea_cons ev_c (ea_cons (ev_cb (ea_cons (by exact ev_var rfl) ea_nil) hl) ea_nil)) rc_min2) ea_nil)) (by split <;> omega) (fun i σ' H' => Ex H24 H' ∧ ∃ v11 : Option V, σ' = [some (.ref a), some (.ref bx), some (.int (p : Int)), some (.int b), some (.int (n : Int)), some (.ref g), some (.ref g2), some (.ref h), some (.ref o), some (.ref wd), some (.ref (cs.getD 0 0)), v11, none]) (fun H25 e25 => ⟨e25, none, rfl⟩) ?_ ?_
    · rintro i σ' H' hi ⟨ei, v11, rfl⟩
      have hi2 : (7 : Int) + i < 63 := by
        split at hi <;> omega
      dsimp only [List.set]
      refine s_when (b := !true) (et_not (et_B (ev_call (ea_cons (by exact ev_var rfl) (ea_cons (by exact ev_var rfl) (ea_cons (by exact ev_var rfl) (ea_cons (by exact ev_var rfl) ea_nil)))) fun HH ee Q2 q2 E2 => ⟨a, o, wd, g, _, ns, p, b, F, rfl, ex_l ee (ex_l (e224.trans ei) (hsx x622)), by omega, by omega, (hw22.ex (e224.trans ei)).ex ee, ee _ _ ((e224.trans ei) _ _ hwl22), ((hF22.ex (e224.trans ei)).gd).ex ee, wF, q2⟩))) (fun hc => by cases hc) (fun _ H25 e25 => ?_)
      exact ⟨ei.trans e25, _, rfl⟩
    · rintro σ' H' ⟨ei, v11, rfl⟩
      have e2 := e224.trans ei
      refine s_ret (v := .bl true) (ev_isW (ew_var (by exact rfl) (hw22.ex e2)) (fun H => by exact ev_var rfl) (fun H => by exact ev_var rfl) (fun H e => by exact ev_var rfl) (hF22.ex e2).gd) fun H26 e26 => q H26
end
end K54
namespace K54
open PySem PySem.Spec PyProof.Rows L2 Lc Evl
theorem walkX {l : PySem.W.OpenLaw} {m lev : Nat} {qp : Program} {los : List Str} {Xq : (Str → Option Value) → Heap → Prop} {Yq : World → Heap → Prop} {dr : DefRec} {z : Str}
    (h1 : l.most = some m) (h2 : m ≤ sizeLine) (h3 : dr.params.defaults = []) (h4 : Room lev callerA)
    (F : ∀ (w : World) (mg : Str → Option Value) (g : Addr) (hp : Heap), Yq w hp → hp.Ns mainGlobals mg → mg dr.name = some (.ref g) → ∃ (K : PySem.W.Frag) (fd : FuncData) (sp : Sp), K.In hp ∧
        (∀ (t : Shared) (v : Value), BindsTo t fd ⟨[v], []⟩ [(z, v)]) ∧ (∀ (H : Hp) (c : Addr) (is : List Int), SqL K H c (is.map V.int) → sp [.ref c] H (fun r _ => r = .bl true) fun _ _ _ => False) ∧
        ∀ b : Heap, K.In b → b.Ns mainGlobals mg → FnOk l.prog w K mg b (L2N.CX l.prog w) lev g fd [z] sp) : PySem.W.WalkO qp los Xq Yq l.row.toRowW dr [] (fun f vs => PySem.call f vs) := by
  refine Att.attach_call h1 h3 fun w _ _ mg _ g _ _ _ _ _ _ is G Y _ _ _ k1 ho hi hl hg => ?_
  obtain ⟨K, fd, sp, KX, hb, hsp, hF⟩ := F w mg g _ Y G.T.g k1
  refine law_call KX G.T.g G.T.b G.T.builtins G.T.nolimit hg ho hi (Nat.le_trans hl h2) h4 hF hb (fun H _ hS => hsp H _ is hS) ?_
  intro H e s' h
  obtain ⟨_, _, _, _, _, _, _, _, _, _, _, _, no⟩ := h
  exact no
theorem facts {P : Program} {w : World} {K : PySem.W.Frag} {h : Heap} {mg : Str → Option Value} {f : Addr} (X : K.In h) (G : h.Ns mainGlobals mg) (hfa : mg ("law" : Str) = some (.ref f)) (c : SaysM fa fn ts ex w K) :
    ∃ fd : FuncData, (∀ (s : Shared) (v : Value), BindsTo s fd ⟨[v], []⟩ [("script", v)]) ∧ ∀ base : Heap, K.In base → base.Ns mainGlobals mg → FnOk P w K mg base (L2N.CX P w) 10 f fd ["script"] (sp_law K) := by
  have T : Tx K mg w := ⟨⟨h, X, G⟩, c⟩
  have e := hfa.symm.trans (m_law T)
  cases e
  have b := FunD.bindsA (ps := ["script"]) (h_law T) fun _ _ _ _ _ _ us hl => match us, hl with | [_], _ => rfl
  exact ⟨_, fun s v => b s [v] rfl, fun base _ _ => ok_law T⟩
end K54
open PySem PySem.W PySem.Calls PyProof.Rows
theorem PySem.Challenge.cw_leapcard_k54_weights_checked_holds : PySem.Challenge.rw_leapcard_k54_weights_checked.Holds := by
  w_on; o_law
  refine HandSHeadRun.head_any (r := OpenLaw.row PySem.Challenge.rw_leapcard_k54_weights_checked) (q := view (OpenLaw.row PySem.Challenge.rw_leapcard_k54_weights_checked).prog [41]) (H := K54.hk) (ob := K54.ob) (M := 24000) (loose := K54.names) (d := HandSHeadRun.topDef (OpenLaw.row PySem.Challenge.rw_leapcard_k54_weights_checked).prog 41) (kwd := []) K54.ob_eq
    (by kernel_rfl) (fun s => by kernel_rfl) K54.run (by kernel_rfl) (by kernel_rfl) (by kernel_rfl) (by rfl) (by first | assumption | decide +kernel) (by decide +kernel) ⟨rfl, rfl, rfl, rfl, rfl, by decide +kernel⟩ ?hw ?hc
  case hw => w_witness2
  case hc =>
    refine K54.walkX (l := PySem.Challenge.rw_leapcard_k54_weights_checked) (m := 63) (lev := 10) (z := "script") rfl (by decide) (by kernel_rfl) ⟨rfl, by decide, by decide⟩ ?F
    intro w mg fa h Y G hmg0
    obtain ⟨K, KX, c⟩ := Y
    have hmg : mg ("law" : PySem.Str) = some (.ref fa) := by
      have e : (HandSHeadRun.topDef (OpenLaw.row PySem.Challenge.rw_leapcard_k54_weights_checked).prog 41).name = ("law" : PySem.Str) := by kernel_rfl
      rw [← e]
      exact hmg0
    obtain ⟨fd, hb, hF⟩ := K54.facts (P := (PySem.Challenge.rw_leapcard_k54_weights_checked).prog) (w := w) KX G hmg c
    exact ⟨K, fd, K54.sp_law K, KX, hb, fun H a ns hS => ⟨a, ns, rfl, hS, fun _ => rfl⟩, hF⟩
