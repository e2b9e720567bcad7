import PyProof.Rows.All
import Wide.All
import OpenK.AllK
import Wide.FinOn
import HandS.ForMost
import HandS.Exc
import HandS.ExcInit
import HandS.ExcCtx
import HandS.ExcField
import HandS.ExcIs
import HandS.TryOnly
import HandS.ExcOwn
import HandS.CallSlots
import HandS.WordsExc
import HandS.HotCalls
import HandS.SuiteRaise
import HandS.Defaults
import HandS.Wide
import HandS.FStr
import HandS.StrMore
import HandS.IsInst
import HandS.Evl
import HandS.Head0
import HandS.Head1
import HandS.Head2
import HandS.HeadEnd
import HandS.HeadHook1
import HandS.HeadHook2
import HandS.EndBits
import HandS.HeadHook3
import HandS.HeadNt
import HandS.More
import HandS.ClsMeth
import HandS.Style
import HandS.SortKw
import KE.KRevSl
import KE.DatumOrd
import KE.KCallOwn
import HandS.OwnEq
import PySem.Challenge.RW_leapcard_k03_jumps_checked_and_written
import HandS.MakeKw
set_option Elab.async false
set_option linter.all false
set_option maxRecDepth 100000
set_option maxHeartbeats 2000000
namespace Lc
open PySem PySem.Spec PyProof.Rows L2

/-! ### an error class, whatever own classes stand between it and ValueError -/
def excC (K : PySem.W.Frag) (C : Addr) : Bool := match K.lookup C with
  | some ⟨.type "type", _, .cls cd, sl⟩ => (match cd.mro, sl.toList with
    | .ref C' :: bm, [_, _, _, _, some (.builtin n), _] => C' == C && (n == "ValueError.__new__" && (!cd.hasDel && (cd.hasDict && PySem.HandSPX.refsVE bm)))
    | _, _ => false)
  | _ => false
theorem excC_ok {K : PySem.W.Frag} {C : Addr} (q : excC K C = true) :
    ∃ nm q N bs bm sn sub ab col dd k0 k1 k2 k3 k5, K.lookup C = some (excClassObj nm q C N bs bm true sn sub ab col dd k0 k1 k2 k3 k5 "ValueError.__new__") ∧ PySem.HandSPX.refsVE bm = true := by
  unfold excC at q
  split at q
  · rename_i dd cd sl ho
    split at q
    · rename_i C' bm k0 k1 k2 k3 n k5 hm hs
      simp only [Bool.and_eq_true, beq_iff_eq, Bool.not_eq_true'] at q
      obtain ⟨rfl, rfl, hdel, hd, hv⟩ := q
      obtain ⟨nm, bs, mro, ns, qn, hdd, sn, sub, ab, col, del⟩ := cd
      dsimp only at hm hdel hd
      subst hm hdel hd
      have hsl : sl = #[k0, k1, k2, k3, some (.builtin "ValueError.__new__"), k5] := by
        obtain ⟨l⟩ := sl
        simp only at hs
        rw [hs]
      subst hsl
      exact ⟨nm, qn, ns, bs, bm, sn, sub, ab, col, dd, k0, k1, k2, k3, k5, ho, hv⟩
    · cases q
  · cases q
def oexB (K : PySem.W.Frag) (C : Addr) : Bool := excC K C && (decide (PySem.W.findIn K (.ref C) "__setattr__" = some (some (.builtin "object.__setattr__"))) && (decide (PySem.W.subIn K (.ref C) (.type "BaseException") = some true) &&
  (decide (PySem.W.typeIn K (.ref C) = some (.type "type")) && PySem.W.keepIn K (.ref C))))
theorem oexB_ok {K : PySem.W.Frag} {C : Addr} (h : oexB K C = true) : OexC K C := by
  obtain ⟨h1, h⟩ := Bool.and_eq_true_iff.mp h
  obtain ⟨h2, h⟩ := Bool.and_eq_true_iff.mp h
  obtain ⟨h3, h⟩ := Bool.and_eq_true_iff.mp h
  obtain ⟨h4, h5⟩ := Bool.and_eq_true_iff.mp h
  exact ⟨excC_ok h1, of_decide_eq_true h2, of_decide_eq_true h3, of_decide_eq_true h4, h5⟩

/-! ### the facts of a head: names, defs, tables with text keys, one more Bool -/
abbrev AlE : Type := He.AlD × (List (Option (List (Option (Str × Int)))) × Bool)
def asM (g : Addr → Option Obj) (n : Nat) : List Addr := He.asD g n ++ [cStatics]
def obsE (fa : List He.Fa) (fn : List He5.DefA) (ts : List He.Tab) (ex : PySem.W.Frag → Bool) (K : PySem.W.Frag) : AlE := (He5.obsA fa fn K, ts.map (fun t => He.dicW K (t.1 K)), ex K)
def obsEG (n : Nat) (fa : List He.Fa) (fn : List He5.DefA) (ts : List He.Tab) (ex : PySem.W.Frag → Bool) (g : Addr → Option Obj) : AlE := obsE fa fn ts ex (He.frG g (asM g n))
structure SaysM (fa : List He.Fa) (fn : List He5.DefA) (ts : List He.Tab) (ex : PySem.W.Frag → Bool) (w : World) (K : PySem.W.Frag) : Prop where
  a : He5.SaysA fa fn K
  t : ts.map (fun t => He.dicW K (t.1 K)) = ts.map fun t => some (He.keysIn w.params t.2)
  e : ex K = true
def hookM (n : Nat) (fa : List He.Fa) (fn : List He5.DefA) (ts : List He.Tab) (ex : PySem.W.Frag → Bool) : PySem.W.Hook where
  α := AlE
  obs := fun s => obsEG n fa fn ts ex s.heap.get?
  val := fun w => (He5.valA fn, ts.map (fun t : He.Tab => some (He.keysIn w.params t.2)), true)
  says := fun w h => ∃ K : PySem.W.Frag, K.In h ∧ SaysM fa fn ts ex w K
  of := fun _ _ e => ⟨_, He.frG_in, congrArg (fun z : AlE => z.1) e, congrArg (fun z : AlE => z.2.1) e, congrArg (fun z : AlE => z.2.2) e⟩
  keeps := fun _ _ _ ⟨K, hK, c⟩ k => ⟨K, PySem.W.Frag.In.keeps hK k, c⟩
theorem obsEG_eq {n : Nat} {fa : List He.Fa} {fn : List He5.DefA} {ts : List He.Tab} {ex : PySem.W.Frag → Bool} {g : Addr → Option Obj} {s : Shared} (h : ∀ a, g a = s.heap.get? a) : obsEG n fa fn ts ex g = (hookM n fa fn ts ex).obs s := by
  have e : g = s.heap.get? := funext h
  rw [e] <;> rfl
theorem SaysM.tab {fa : List He.Fa} {fn : List He5.DefA} {ts : List He.Tab} {ex : PySem.W.Frag → Bool} {w : World} {K : PySem.W.Frag} (c : SaysM fa fn ts ex w K) (i : Nat) {t : He.Tab} (h : ts[i]? = some t := by rfl) : ∃ es n, KDict K w (t.1 K) es n := by
  have e : (ts.map fun t => He.dicW K (t.1 K))[i]? = (ts.map fun t => some (He.keysIn w.params t.2))[i]? := by rw [c.t]
  rw [List.getElem?_map, List.getElem?_map, h] at e
  exact He.dicW_ok (Option.some.inj e)

/-! ### a def of the text, found by where it stands -/
instance : Inhabited FuncData := ⟨PySem.W.fnOf "" "" { posonlyargs := [], args := [], vararg := none, kwonlyargs := [], kw_defaults := [], kwarg := none, defaults := [] } [] { kind := .function, names := [], isGenerator := false, isCoroutine := false } .none .none .none .none none .none .none⟩
def fdOf (K : PySem.W.Frag) (f : Addr) : FuncData := match K.lookup f with
  | some ⟨_, _, .func fd, _⟩ => fd
  | _ => default
abbrev HasD (K : PySem.W.Frag) (d : He5.DefA) : Prop := FunD K d.name d.qual d.params d.body d.scope (d.dvs K) (d.kws K) (d.at_ K) (fdOf K (d.at_ K))
theorem fdOf_eq {K : PySem.W.Frag} {x qual : Str} {pa : Arguments} {bd : List Stmt} {sc : Scope} {dvs : List V} {kws : List (Str × V)} {f : Addr} {fd : FuncData} (F : FunD K x qual pa bd sc dvs kws f fd) : fdOf K f = fd := by
  obtain ⟨oc, od, dV, kV, doc, pm, an, cdv, ct, osl, rfl, lk, _⟩ := F.ex
  unfold fdOf
  rw [lk]
theorem has_of {fa : List He.Fa} {fn : List He5.DefA} {K : PySem.W.Frag} (c : He5.SaysA fa fn K) (i : Nat) {d : He5.DefA} (h : fn[i]? = some d) : HasD K d := by
  obtain ⟨fd, F⟩ := c.def_ i h
  show FunD K d.name d.qual d.params d.body d.scope (d.dvs K) (d.kws K) (d.at_ K) (fdOf K (d.at_ K))
  rw [fdOf_eq F]
  exact F
abbrev OkD (P : Program) (w : World) (K : PySem.W.Frag) (mg : Str → Option Value) (base : Heap) (k : Nat) (d : He5.DefA) (ps : List Str) (sp : Sp) : Prop := FnOk P w K mg base (L2N.CX P w) k (d.at_ K) (fdOf K (d.at_ K)) ps sp
end Lc
namespace Lc
open PySem PySem.Spec PyProof.Rows L2
section
variable {X : Cx}
/-! ### s[::-1] of a text -/
def revS (z : Str) : Str := ⟨z.cps.toList.reverse.toArray⟩
def tRevS (te : TE) : TE := fun σ H Q => te σ H fun x H1 => ∃ z, x = .str z ∧ z.length ≤ sizeLine ∧ Q (.str (revS z)) H1
theorem revS_picks (z : Str) : ((Builtin.Str.strSliceIndices none none (-1) z.length).filterMap (z.cps[·]?)).toArray = z.cps.toList.reverse.toArray := by
  have e : Builtin.Str.strSliceIndices none none (-1) z.length = sliceRange ((z.length : Int) - 1) (-1) (-1) := by
    first
      | rfl
      | simp [Builtin.Str.strSliceIndices]
  rw [e, PySem.W.krv_sliceRange, PySem.W.krv_range, List.filterMap_reverse]
  have h := PySem.W.krv_all z.cps
  exact congrArg (fun l : List Nat => l.reverse.toArray) h
theorem pe_revS {e : Expr} {te : TE} {k : Nat} {p1 p2 p3 pos : Pos} (he : PE X e te) : PE X (.Subscript e (.Slice none none (some (.UnaryOp .USub (.Constant (.int 1) k p1) p2)) p3) pos) (tRevS te) := by
  refine ⟨fun pins s σ H Q I h => ?_⟩
  refine Subscript_ (thn (he.run pins s σ H _ I h) fun v s1 ⟨x, H1, I1, r1, q1⟩ => ?_)
  obtain ⟨z, ex, hz, q⟩ := q1
  subst ex
  obtain ⟨t, rfl⟩ := r1
  have hst : PO X (some (.UnaryOp .USub (.Constant (.int 1) k p1) p2)) (tPart (tUn (rU fun i => .int (-i)) (tC (.int 1)))) := po_some (pe_un un_neg pe_int)
  refine wpAny_Slice (thn (po_none.run pins s1 σ H1 (fun o H2 => o = none ∧ H2 = H1) I1 ⟨rfl, rfl⟩) fun vl s2 ⟨l, H2, I2, pl, el, e2⟩ => ?_)
  subst el e2
  refine thn (po_none.run pins s2 σ H2 (fun o H3 => o = none ∧ H3 = H2) I2 ⟨rfl, rfl⟩) fun vu s3 ⟨u, H3, I3, pu, eu, e3⟩ => ?_
  subst eu e3
  refine thn (hst.run pins s3 σ H3 (fun o H4 => o = some (-1) ∧ H4 = H3) I3 ⟨1, rfl, -1, rfl, rfl, rfl⟩) fun vs s4 ⟨o, H4, I4, ps, eo, e4⟩ => ?_
  subst eo e4
  have I5 : Inv X pins σ H4 { s4 with heap := s4.heap.push { cls := .type "slice", data := .fields #[vl, vu, vs] } } := I4.kept (t' := s4.toks) fun b ob q => Heap.get?_push_of_some _ q
  cases pl
  cases pu
  cases ps with
  | int _ t5 =>
  show wpAny (model X.prog X.w) X.A (subscriptTail e (.Slice none none (some (.UnaryOp .USub (.Constant (.int 1) k p1) p2)) p3) (.str z t) (.ref s4.heap.objs.size)) (EP X pins σ Q) X.xe { s4 with heap := s4.heap.push { cls := .type "slice", data := .fields #[.none, .none, .int (-1) t5] } }
  refine tail_any (ops := [.str z t, .ref s4.heap.objs.size]) (typeIs_str _ _ _) F.slot_str_getitem.lookup ?_ (by with_unfolding_all rfl)
  refine wpAny_getItem_str_slice (l := none) (u := none) (st := some (-1, t5)) (Heap.IsSliceOf.new _ .none .none (.int (-1) t5)) (by rfl) ?_
  show Made.post (if ((-1 : Int) == 1 && (Builtin.Str.strSliceIndices none none (-1) z.length).length == z.length) = true then Made.val (.str z t)
    else Made.str ⟨((Builtin.Str.strSliceIndices none none (-1) z.length).filterMap (z.cps[·]?)).toArray⟩) (EP X pins σ Q) _
  rw [if_neg (by rw [show ((-1 : Int) == 1) = false by decide, Bool.false_and]; decide), revS_picks]
  refine ⟨?_, .str (revS z), H4, I5.tok _, ⟨_, rfl⟩, q⟩
  show z.cps.toList.reverse.toArray.size ≤ sizeLine
  have hz2 : z.cps.toList.length ≤ sizeLine := by
    have : z.length = z.cps.toList.length := by simp [Str.length]
    omega
  simpa using hz2

/-! ### min(xs, default=d) of a list of texts -/
def minS : Str → List Str → Str := PySem.W.minOf
def rMinSD (K : PySem.W.Frag) : List V → List V → Hp → VK → Prop := fun vs zs H Q => ∃ (a : Addr) (xs : List Str) (d : V), vs = [.ref a] ∧ zs = [d] ∧ SqL K H a (xs.map V.str) ∧ (xs = [] → Q d H) ∧ ∀ y ys, xs = y :: ys → Q (.str (minS y ys)) H
theorem holdAll_strs {h : Heap} : ∀ {xs : List Str} {its : List Value}, Vals (xs.map V.str) its → PySem.W.HoldAll h its xs
  | [], its, r => by
    cases r
    exact ⟨_, .nil⟩
  | x :: xs, its, r => by
    cases r with
    | cons r1 r2 =>
      obtain ⟨t, rfl⟩ := r1
      obtain ⟨as, q⟩ := holdAll_strs (h := h) r2
      exact ⟨_, .cons (.str x t) q⟩
theorem cr_minSD (hc : X.calm = true) (hu : X.A.units + 1 < cLine) : CallRK X (.builtin "min") [("default" : Str)] (rMinSD X.K) := by
  intro pins s σ H vs zs us ws Q I r rz h
  obtain ⟨a, xs, d, rfl, rfl, hs, q0, q1⟩ := h
  obtain ⟨its, rv, hl, _⟩ := I.list hs
  rw [Vals.ref1 r]
  cases rz with
  | cons rd rn =>
    cases rn
    rename_i dv
    show wpAny _ _ (call (.builtin "min") [.ref a] [(Str.ofString "default", dv)]) _ _ _
    refine PySem.W.min_list_datum_default (α := Str) (xs := xs) (I.ok.hd hc) hl.isList (by simpa using holdAll_strs rv) hu (fun e h' tk hk => ?_) fun y ys i v h' tk e hi hv hk => ?_
    · exact ⟨d, H, I.kept hk, rd, q0 e⟩
    · refine ⟨.str (minS y ys), H, I.kept hk, ?_, q1 y ys e⟩
      obtain ⟨as, rr⟩ := hv
      have rr' : Reads h' v (.str (minS y ys)) as := rr
      cases rr' with
      | str _ t => exact ⟨t, rfl⟩
/-- the call -/
theorem pe_minSD {e : Expr} {t : TA} {tk : TA} {p pos : Pos} {kw : Keyword} (hc : X.calm = true) (hu : X.A.units + 1 < cLine) (hg : Gl X "min") (hm : X.mg "min" = none) (ha : PA X [e] t) (hk : PK X [kw] tk)
    (he : backTo pos (starEach (e :: []) X.env) = (false, eval e X.env) :: backTo pos (starEach [] X.env) := by rfl) (hpl : (backTo pos (starEach (e :: []) X.env)).any (·.1) = false := by rfl)
    (hall : (backToKw pos (keywordEach [kw] X.env)).all (·.1.isSome) = true := by rfl) (hnone : (backToKw pos (keywordEach [kw] X.env)).any (·.1.isNone) = false := by rfl) (hks : (backToKw pos (keywordEach [kw] X.env)).filterMap (·.1) = [("default" : Str)] := by rfl) :
    PE X (.Call (.Name "min" p) [e] [kw] pos) (tCKw (rMinSD X.K) t tk) :=
  pe_callBK (cr_minSD hc hu) hg hm (by decide +kernel) ha hk (by decide) (by decide) he hpl hall hnone hks

/-! ### C.__init__(self, ..) of an own class C between the error's class and ValueError -/
theorem pe_ownInit {x : Str} {CL : Addr} {e : Expr} {es : List Expr} {ta : TA} {p1 p2 pos : Pos} {pl : Sem Bool} (hg : Gl X x) (hm : X.mg x = some (.ref CL)) (hdb : (x == ("__debug__" : Str)) = false := by decide)
    (sp : PySem.W.specialIn X.K (.ref CL) "__getattribute__" = some (some (.builtin "type.__getattribute__"))) (rd : PySem.W.readsIn X.K CL (.type "type") = true)
    (vV : PySem.W.findCls X.K (.ref CL) (.type "type") "__init__" = some (.val (.builtin "ValueError.__init__"))) (ha : PA X (e :: es) ta)
    (hc : eval (.Call (.Attribute (.Name x p1) "__init__" p2) (e :: es) [] pos) X.env = (do
      let ov ← eval (.Name x p1) X.env
      standAt p2.atName
      let (f, first) ← holding [ov] (getMethod ov "__init__" pl)
      callWith pos f first (backTo pos (starEach (e :: es) X.env)) (backToKw pos (keywordEach [] X.env))) := by rfl)
    (he : starEach (e :: es) X.env = (false, eval e X.env) :: starEach es X.env := by rfl) (hpl : (backTo pos (starEach es X.env)).any (·.1) = false := by rfl) :
    PE X (.Call (.Attribute (.Name x p1) "__init__" p2) (e :: es) [] pos) (tVeI X.K ta) := by
  refine ⟨fun pins s σ H Q I h => ?_⟩
  refine PySem.W.methodCall_KW (ld_glob I hg hm ?_ hdb) hc
  refine PySem.W.method_cls I.kIn sp (PySem.W.cls_value I.kIn rd vV (by decide +kernel) ?_)
  show wpAny _ _ (callWith pos (Value.builtin "ValueError.__init__") [] (backTo pos (starEach (e :: es) X.env)) []) _ _ _
  refine PyProof.Rows.callWith_method1 (thn (ha.run pos pins _ σ H _ (I.tok _) h) fun us s1 ⟨vs, H1, I1, r1, a, C, ws, ev, hl, T, ea, q⟩ => ?_) he hpl
  subst ev
  cases r1 with
  | @cons _ u0 _ ur ra rw' =>
    obtain rfl : u0 = Value.ref a := ra
    have hlen : ur.length ≤ sizeLine := by
      rw [← Paired.length rw', sizeLine_eq]
      omega
    exact oinit_ok T I1 ea hlen fun s' J => ⟨.non, H1, J, rfl, q⟩

/-! ### an error with its own __init__ made where nothing is handled: its context is None -/
theorem passN : Passes (L2N.CX X.prog X.w) X E0 := fun _ _ _ _ _ _ _ h => by
  obtain ⟨_, _, _, _, _, _, _, _, _, _, _, _, no⟩ := h
  exact absurd no id
theorem pmkN_oex {CY : CXT} {nm : Str} {C g : Addr} {lev : Nat} {fdI : FuncData} {prs : List Str} {pr : Sp} {xs : List Value} {ws : List V} {arg : Expr} {more : List Expr} {tA : TA} {q1 q2 : Pos}
    (ox : OexC X.K C) (at_ : PySem.W.findIn X.K (.ref C) "__init__" = some (some (.ref g))) (isf : PySem.W.typeIn X.K (.ref g) = some (.type "function"))
    (keeps : FnOk X.prog X.w X.K X.mg X.base CY lev g fdI prs pr) (room : Room (lev + 1) X.A) (bnd : Binds X.K fdI prs xs) (vls : Vals ws xs) (ps : Passes CY X E0) (gl : Gl X nm) (mgx : X.mg nm = some (.ref C)) (pa : PA X (arg :: more) tA)
    (ndb : (nm == ("__debug__" : Str)) = false := by decide) (plain1 : starEach (arg :: more) X.env = (false, eval arg X.env) :: starEach more X.env := by rfl) (plain2 : (backTo q2 (starEach more X.env)).any (·.1) = false := by rfl) :
    L2N.PMk X (.Call (.Name nm q1) (arg :: more) [] q2) (tMkO C pr ws tA) := by
  intro pins s σ H Q I goal
  obtain ⟨_, _, _, _, mro, _, _, _, _, _, _, _, _, _, _, lkC, ve⟩ := ox.cls
  refine wpAny_Call_Name_kw (ld_glob I gl mgx ?_ ndb)
  refine PySem.W.callWith_K (h₀ := X.base) I.ok.mod.kin ox.kC (thn (pa.run q2 pins s σ H _ I goal) ?_) plain1 plain2
  rintro us ⟨hp, gs, dr, tk, os⟩ ⟨vs, Ha, Ia, ra, small, each⟩
  refine ⟨Ia.kIn, ?_⟩
  show wpAny _ _ (call (.ref C) us) _ _ _
  have above : hp.objs.size ≤ hp.objs.size + 1 := by omega
  have free : Ha (hp.objs.size + 1) = none := Ia.hok.fresh above
  have pr1 := each (hp.objs.size + 1) free
  let hp2 := (hp.push (PySem.W.kdv_tup us)).push (PySem.HandSPX.excO C hp.objs.size)
  have kept : ∀ b o, hp.get? b = some o → hp2.get? b = some o := fun b o e => Heap.get?_push_of_some _ (Heap.get?_push_of_some _ e)
  have here : hp2.get? (hp.objs.size + 1) = some (PySem.HandSPX.excO C hp.objs.size) := by show ((hp.push (PySem.W.kdv_tup us)).push (PySem.HandSPX.excO C hp.objs.size)).get? _ = _; heap_get
  have Ib : Inv X pins σ (upd Ha (hp.objs.size + 1) (exo (hp.objs.size + 1) C none)) ⟨hp2, gs, dr, tk, os⟩ := Ia.laid (t' := tk) (a := hp.objs.size + 1) (o := exo (hp.objs.size + 1) C none) (h' := hp2) kept above (exo_ok here)
  have rb : Vals (V.ref (hp.objs.size + 1) :: (vs ++ ws)) (Value.ref (hp.objs.size + 1) :: (us ++ xs)) := .cons rfl (ra.append vls)
  have many : (Value.ref (hp.objs.size + 1) :: us ++ xs).length = prs.length := by rw [← keeps.len _ _ _ _ pr1]; exact rb.length.symm
  have fits : us.length ≤ sizeLine := by rw [← Paired.length ra, sizeLine_eq]; omega
  have body := keeps.run _ X.stack _ _ ⟨Value.ref (hp.objs.size + 1) :: us, []⟩ (Value.ref (hp.objs.size + 1) :: (us ++ xs)) _ _ E0 (room.make C us []) (Ib.env0.make C us []) (bnd _ (Value.ref (hp.objs.size + 1) :: us) Ib.kIn many) rb pr1
  refine wpAny_call (PySem.HandSPX.call_own F.excBase_ValueError (fun Y => PySem.HandSPX.refsVE_contains Y mro ve) (Ia.kIn _ _ lkC) (PySem.W.looks_findIn Ia.kIn at_) (fun self => PySem.W.bind_fn Ia.kIn self isf) fits (codeAny_mono body ?_))
  intro r s' after
  match r, after with
  | .error er, after => exact ps pins σ _ _ er s' Ib after
  | .ok (.ret u), after =>
    obtain ⟨v, Hb, os2, bare2, un2, hok2, rv, none_, d, fs, oa, od, newd, fin⟩ := after
    subst none_
    obtain ⟨h2, g2, d2, t2, os'⟩ := s'
    refine ⟨rv, ?_⟩
    obtain ⟨t0, G, J, kG, ge, hoe, na⟩ := mk_end0 (d2 := d2) (t2 := t2) Ia above kept un2 hok2 os2 bare2 oa od newd
    exact ⟨hp.objs.size + 1, _, _, ⟨G, g2, d2, t2, os'⟩, _, .ref C, some d, rfl, J, kG, ge, hoe, ⟨rfl, rfl, fun vs hv => by cases hv; rfl⟩, rfl, rfl, na, rfl, bare2, raises_own ox.exC ox.tyC, fin⟩
  | .ok .next, after => exact False.elim after
  | .ok .brk, after => exact False.elim after
  | .ok .cont, after => exact False.elim after

/-! ### isinstance(e, C), e the caught error, C its very class -/
theorem isi_same {x D : Addr} {ox : Obj} {od : Option Obj} {prog : Program} {w : World} {A : Around} {E : Value → Shared → Prop} {s : Shared} {Q : Value → Shared → Prop} (J : PySem.W.InstAt s.heap x ox D od) (h : ∀ tk, Q (.bool true) { s with toks := tk }) :
    wpAny (model prog w) A (call (.builtin "isinstance") [.ref x, .ref D]) Q E s := by
  refine call_isinstance (S := fun _ R s => PySem.W.InstAt s.heap x ox D od ∧ ∀ tk, R (.ok (.ret (.bool true))) { s with toks := tk }) (fun prog w A R s hs => isinstance_outer ?_ (fun z => nomatch z)) ⟨J, h⟩
  obtain ⟨hp, g, d, tt, os⟩ := s
  obtain ⟨J2, hq⟩ := hs
  have LT := J2.type (M := model prog w)
  unfold Builtin.«isinstance.nested»
  refine wpAny_bind (LT.at ?_)
  rw [if_pos (beq_self_eq_true _)]
  first
    | exact wpAny_bind (wpAny_rule (wpAny_pure (hq tt)))
    | exact wpAny_bind (wpAny_rule (hq tt))
def rIsX (D a : Addr) (cls : Value) (d : Option Addr) : List V → Hp → VK → Prop := fun xs H Q => ∃ (dd : Addr) (fs : List (Str × V)), xs = [.ref a, .ref D] ∧ cls = .ref D ∧ d = some dd ∧ H dd = some (.xd fs) ∧ Q (.bl true) H
theorem call_isX {a D : Addr} {oe : Obj} {cls : Value} {d : Option Addr} {pn : List (Addr × Obj)} (hz : Zc cls d oe) (hf : ∃ vs, oe.data = .fields vs) : CallR (X.suite a ((a, oe) :: pn)) (.builtin "isinstance") (rIsX D a cls d) := by
  intro pins s σ H xs us Q I r h
  obtain ⟨dd, fs, rfl, rfl, rfl, ha, q⟩ := h
  obtain ⟨u1, u2, rfl, r1, r2⟩ := vals2 r
  obtain rfl : u1 = Value.ref a := r1
  obtain rfl : u2 = Value.ref D := r2
  obtain ⟨hget, _⟩ := I.pin (a, oe) (List.mem_append.mpr (.inl List.mem_cons_self))
  obtain ⟨vs, hv⟩ := hf
  have hx : ObjOk X.prog X.w H s.heap dd (.xd fs) := I.hok dd _ ha
  obtain ⟨mA, hns, _⟩ := hx
  obtain ⟨od, ho, _⟩ := lookIn_ns hns
  have J : PySem.W.InstAt s.heap a oe D (some od) := ⟨hget, hz.1, by unfold PySem.W.notCls; rw [hv] <;> rfl, by rw [hz.2]; exact ho⟩
  exact isi_same J fun tk => ⟨.bl true, H, I.tok _, rfl, q⟩
theorem hot_suite {a : Addr} {oe : Obj} {cls : Value} {d : Option Addr} {pn : List (Addr × Obj)} (hz : L2N.Zn cls d oe) (hf : ∃ vs, oe.data = .fields vs) : L2H.HotC (X.suite a ((a, oe) :: pn)) := by
  obtain ⟨vs, hv⟩ := hf
  exact ⟨(a, oe), ⟨rfl, vs, hv, hz.2.2 vs hv⟩, List.mem_cons_self⟩
theorem takes0N : L2N.Takes X (fun _ _ _ _ => False) := fun _ _ x => by
  obtain ⟨_, _, _, _, _, _, _, _, _, _, _, _, _, _, _, _, no⟩ := x
  exact absurd no id
theorem passAtN {σ : L2.St} : PassesAt (L2N.CX X.prog X.w) X σ E0 := fun _ _ _ _ _ _ h => by
  obtain ⟨_, _, _, _, _, _, _, _, _, _, _, _, no⟩ := h
  exact absurd no id
end
end Lc
namespace Lc
open PySem PySem.Spec PyProof.Rows L2 Evl
section
variable {K : PySem.W.Frag} {σ : L2.St} {H H' : Hp} {ta tb te tx : TE} {t u : TT} {x y z v : V} {r : R2} {D : Ends}
theorem rv_catS {a b : Str} (h : a.length + b.length ≤ 100000) : RV (fun x y H Q => ∃ i j, x = .str i ∧ y = .str j ∧ i.length + j.length ≤ sizeLine ∧ Q (.str (i ++ j)) H) (.str a) (.str b) H (.str (a ++ b)) := fun H1 _ _ q => ⟨a, b, rfl, rfl, sz_of h, q H1 (Ex.refl H1)⟩
theorem rv_ltS {a b : Str} : RV (fun x y H Q => ∃ i j, x = .str i ∧ y = .str j ∧ Q (.bl (decide (i.cps.toList < j.cps.toList))) H) (.str a) (.str b) H (.bl (decide (a.cps.toList < b.cps.toList))) := fun H1 _ _ q => ⟨a, b, rfl, rfl, q H1 (Ex.refl H1)⟩
theorem rv_inC {c : Nat} {b : Str} : RV (fun x y H Q => ∃ (c : Nat) (z : Str), x = .str ⟨#[c]⟩ ∧ y = .str z ∧ Q (.bl (decide (c ∈ z.cps.toList))) H) (.str ⟨#[c]⟩) (.str b) H (.bl (decide (c ∈ b.cps.toList))) := fun H1 _ _ q => ⟨c, b, rfl, rfl, q H1 (Ex.refl H1)⟩
theorem rv_notInC {c : Nat} {b : Str} : RV (fun x y H Q => ∃ (c : Nat) (z : Str), x = .str ⟨#[c]⟩ ∧ y = .str z ∧ Q (.bl (!decide (c ∈ z.cps.toList))) H) (.str ⟨#[c]⟩) (.str b) H (.bl (!decide (c ∈ b.cps.toList))) := fun H1 _ _ q => ⟨c, b, rfl, rfl, q H1 (Ex.refl H1)⟩
theorem rc_lenS {w : Str} (h : w.length ≤ 100000) : RC (fun xs H Q => ∃ x n, xs = [x] ∧ LenV K x H n ∧ Q (.int n) H) [.str w] H (.int w.length) := fun H1 _ _ q => ⟨.str w, w.length, rfl, ⟨sz_of h, rfl⟩, q H1 (Ex.refl H1)⟩
theorem rc_lenL {p : Addr} {xs : List V} (h : SqL K H p xs) : RC (fun xs H Q => ∃ x n, xs = [x] ∧ LenV K x H n ∧ Q (.int n) H) [.ref p] H (.int xs.length) := fun H1 e _ q => ⟨.ref p, xs.length, rfl, .inl ⟨xs, ex_l e h, rfl⟩, q H1 (Ex.refl H1)⟩
theorem rc_lenT {p : Addr} {xs : List V} (h : SqT K H p xs) : RC (fun xs H Q => ∃ x n, xs = [x] ∧ LenV K x H n ∧ Q (.int n) H) [.ref p] H (.int xs.length) := fun H1 e _ q => ⟨.ref p, xs.length, rfl, .inr ⟨xs, ex_t e h, rfl⟩, q H1 (Ex.refl H1)⟩
theorem rc_intI {i : Int} : RC (fun xs H Q => (∃ i, xs = [V.int i] ∧ Q (V.int i) H) ∨ ∃ k, xs = [V.bl k] ∧ Q (V.int (if k = true then 1 else 0)) H) [.int i] H (.int i) := fun H1 _ _ q => .inl ⟨i, rfl, q H1 (Ex.refl H1)⟩
theorem rc_intB {k : Bool} : RC (fun xs H Q => (∃ i, xs = [V.int i] ∧ Q (V.int i) H) ∨ ∃ k, xs = [V.bl k] ∧ Q (V.int (if k = true then 1 else 0)) H) [.bl k] H (.int (if k = true then 1 else 0)) := fun H1 _ _ q => .inr ⟨k, rfl, q H1 (Ex.refl H1)⟩
theorem rc_sum {p : Addr} {ns : List Int} (h : SqL K H p (ns.map V.int)) : RC (rSum K) [.ref p] H (.int ns.sum) := fun H1 e _ q => ⟨p, ns, rfl, ex_l e h, q H1 (Ex.refl H1)⟩
theorem rc_min2 {i j : Int} : RC (fun xs H Q => ∃ i j, xs = [V.int i, V.int j] ∧ Q (.int (if j < i then j else i)) H) [.int i, .int j] H (.int (if j < i then j else i)) := fun H1 _ _ q => ⟨i, j, rfl, q H1 (Ex.refl H1)⟩
theorem rc_isStr {w : Str} : RC (rIsi K) [.str w, .ty "str"] H (.bl true) := fun H1 _ _ q => ⟨.str w, .ty "str", .type "str", .type "str", true, rfl, .ty _, .base (.str _), kit_ty (by decide +kernel), q H1 (Ex.refl H1)⟩
theorem ev_slS {tl th : TO} {w : Str} {lo hi : Option Int} (h : Ev te σ H (.str w)) (h1 : EvO tl σ H lo) (h2 : EvO th σ H hi) (hz : w.length ≤ 100000) : Ev (tSl rSlS te tl th) σ H (.str (cutS w lo hi)) := fun H1 e _ q =>
  h H1 e _ fun H2 e2 => h1 H2 (e.trans e2) _ fun H3 e3 => h2 H3 ((e.trans e2).trans e3) _ fun H4 e4 => ⟨w, rfl, sz_of hz, q H4 ((e2.trans e3).trans e4)⟩
theorem ev_revS {w : Str} (h : Ev te σ H (.str w)) (hz : w.length ≤ 100000) : Ev (tRevS te) σ H (.str (revS w)) := fun H1 e _ q => h H1 e _ fun H2 e2 => ⟨w, rfl, sz_of hz, q H2 e2⟩
theorem ev_join {a : Str} {ys : List Str} (h : Ev ta σ H (.str a)) (hl : EvL te σ H (ys.map V.str)) (hz : (ys.map (·.length)).sum + ys.length * a.length ≤ 16777216) :
    Ev (tM1 (fun x xs H Q => ∃ a p, ∃ ys : List Str, x = .str a ∧ xs = [.ref p] ∧ (SqL K H p (ys.map V.str) ∨ SqT K H p (ys.map V.str)) ∧ (ys.map (·.length)).sum + ys.length * a.length ≤ 16777216 ∧ Q (.str (Txt.join a ys)) H) ta te) σ H (.str (Txt.join a ys)) := fun H1 e _ q =>
  h H1 e _ fun H2 e2 => ⟨⟨a, rfl⟩, hl H2 (e.trans e2) _ fun p H3 _ e3 hp => ⟨a, p, ys, rfl, rfl, .inl (sq_of hp), hz, q H3 (e2.trans e3)⟩⟩
def minD (d : Str) : List Str → Str
  | [] => d
  | y :: ys => minS y ys
theorem ev_minSD {xs : List Str} {d : Str} (hl : EvL te σ H (xs.map V.str)) (hd : Ev ta σ H (.str d)) : Ev (tCKw (rMinSD K) (tCons te tNil) (tCons ta tNil)) σ H (.str (minD d xs)) := fun H1 e Q q =>
  hl H1 e _ fun p H2 _ e2 hp => hd H2 (e.trans e2) _ fun H3 e3 => ⟨p, xs, .str d, rfl, rfl, sq_of (e3 p _ hp), fun ex => by
    subst ex
    exact q H3 (e2.trans e3), fun y ys ex => by
    subst ex
    exact q H3 (e2.trans e3)⟩
end
end Lc
namespace Lc
open PySem PySem.Spec PyProof.Rows L2
section
variable {X : Cx} {CX : CXT} {k : Nat} {C f g p : Addr} {fd : FuncData} {ps : List Str} {sp : Sp} {E : XK} {pins : List (Addr × Obj)} {σ : L2.St} {H : Hp} {s : Shared}
/-! ### a def run where the room is another -/
theorem run_at {A : Around} {us : List Value} {vs : List V} {Q : VK} (hA : A.frames = X.A.frames) (F : FnOk X.prog X.w X.K X.mg X.base CX k f fd ps sp) (hr : Room k A) (hb : Binds X.K fd ps []) (hx : Passes CX X E)
    (I : Inv X pins σ H s) (r : Vals vs us) (h : sp vs H Q E) : wpAny (model X.prog X.w) A (call (.ref f) us) (EP X pins σ Q) X.xe s := by
  have e0 : Env0 X.prog X.w X.K X.mg X.base A X.stack s H := by
    have e := I.env0
    exact ⟨by rw [hA]; exact e.frames, e.mod, e.bs, e.bsz, e.funs, e.frf, e.hok, e.bare⟩
  have hl : us.length = ps.length := by rw [← r.length]; exact F.len _ _ _ _ h
  refine wpAny_call (codeAny_mono (F.run A X.stack s H ⟨us, []⟩ us vs Q E hr e0 (by
    have h2 := hb s us I.kIn (by simpa using hl)
    simpa using h2) r h) fun r s' hq => ?_)
  cases r with
  | error e => exact hx pins σ H s e s' I hq
  | ok fl =>
    cases fl with
    | ret u => exact I.after hq
    | next => exact False.elim hq
    | brk => exact False.elim hq
    | cont => exact False.elim hq
/-! ### str(o) by an own __str__ -/
def rStrOwn (C : Addr) (sp : Sp) (E : XK) : List V → Hp → VK → Prop := fun xs H Q => ∃ a dx fs, xs = [.ref a] ∧ H a = some (.ins C dx fs) ∧ sp [.ref a] H (fun v H' => ∃ z, v = .str z ∧ Q v H') E
theorem call_strOwn (F : FnOk X.prog X.w X.K X.mg X.base CX k f fd ps sp) (hr : Room (k + 2) X.A) (hs : PySem.W.findIn X.K (.ref C) "__str__" = some (some (.ref f))) (hf : PySem.W.isFn X.K (.ref f) = true) (hb : Binds X.K fd ps []) (hx : Passes CX X E) :
    CallR X (.type "str") (rStrOwn C sp E) := by
  intro pins s σ H xs us Q I r h
  obtain ⟨a, dx, fs, rfl, ha, hsp⟩ := h
  obtain ⟨u, rfl, r1⟩ := vals1 r
  obtain rfl : u = Value.ref a := r1
  obtain ⟨mA, J, _⟩ := ins_get I.hok ha
  obtain ⟨od, J, _⟩ := J.look
  refine PySem.W.kso_call hr.in1.in1.units0 I.kIn J hs hf (wpAny_mono (run_at (A := X.A.in1.in1) rfl F hr.in1.in1 hb hx I r hsp) (fun w s' hw => ?_) fun _ _ x => x)
  obtain ⟨v, H', I', rv, z, rfl, q⟩ := hw
  obtain ⟨t, rfl⟩ := rv
  exact ⟨.str z, H', I', ⟨t, rfl⟩, q⟩
/-! ### a == b by an own __eq__, both answers -/
def rEqOwn (C : Addr) (sp : Sp) (E : XK) : R2 := fun x y H Q => ∃ a dx fs b dy gs, x = .ref a ∧ H a = some (.ins C dx fs) ∧ y = .ref b ∧ H b = some (.ins C dy gs) ∧ sp [.ref a, .ref b] H (fun v H' => ∃ k, v = .bl k ∧ Q v H') E
theorem op_eqOwn (F : FnOk X.prog X.w X.K X.mg X.base CX k f fd ps sp) (hr : Room k X.A) (hs : PySem.W.findIn X.K (.ref C) "__eq__" = some (some (.ref f))) (hf : PySem.W.isFn X.K (.ref f) = true) (hb : Binds X.K fd ps []) (hx : Passes CX X E) :
    OpR X (compareOp .Eq) (rEqOwn C sp E) := by
  intro pins s σ H x y v u Q I rx ry h
  obtain ⟨a, dx, fs, b, dy, gs, rfl, ha, rfl, hb', hsp⟩ := h
  obtain rfl : v = Value.ref a := rx
  obtain rfl : u = Value.ref b := ry
  show wpAny (model X.prog X.w) X.A (richCompare .Eq (.ref a) (.ref b)) (EP X pins σ Q) X.xe s
  obtain ⟨mA, J, _⟩ := ins_get I.hok ha
  obtain ⟨mB, J', _⟩ := ins_get I.hok hb'
  obtain ⟨od, J, _⟩ := J.look
  obtain ⟨od', J', _⟩ := J'.look
  obtain ⟨m, hF⟩ := I.fr
  refine PySem.W.cmp_K (op := .Eq) (tb := .ref C) hr.units0 hF I.ok.mod.kin J J'.type (by simp [PySem.W.notFirst]) hs hf (wpAny_mono (run_at (A := X.A) (vs := [.ref a, .ref b]) rfl F hr hb hx I (.cons (show RelV (.ref a) (Value.ref a) from rfl) (.cons (show RelV (.ref b) (Value.ref b) from rfl) .nil)) hsp) (fun w s' hw => ?_) fun _ _ x => x)
  obtain ⟨v, H', I', rv, k, rfl, q⟩ := hw
  cases rv
  exact ⟨.bl k, H', I', rfl, q⟩
/-! ### C.m(..), m a static method -/
structure SMet (K : PySem.W.Frag) (C : Addr) (mc : Value) (m : Str) (p g : Addr) : Prop where
  at_ : PySem.W.findCls K (.ref C) mc m = some (.get (.builtin "staticmethod.__get__") (.ref p) .none (.ref C))
  rc : ∃ rest, PySem.W.recIn K p "staticmethod" = some (.ref g :: rest)
  kp : PySem.W.keepIn K (.ref g) = true
def tSMeth (C : Addr) (sp : Sp) (dvs : List V) (E : L2.St → XK) (ta : TE) (t : TA) : TE := fun σ H Q => ta σ H fun x H1 => x = .ref C ∧ t σ H1 fun vs H2 => sp (vs ++ dvs) H2 Q (E σ)
theorem pe_smeth {mc : Value} {m : Str} {dvs : List V} {ds : List Value} {E : L2.St → XK} {o e : Expr} {es : List Expr} {pos apos : Pos} {ta : TE} {t : TA} {pl : Sem Bool} (he : PE X o ta) (r : ClX.CRead X.K C mc) (c : SMet X.K C mc m p g)
    (F : FnOk X.prog X.w X.K X.mg X.base CX k g fd ps sp) (hr : Room k X.A) (hb : Binds X.K fd ps ds) (hd : Vals dvs ds) (hx : ∀ σ, PassesAt CX X σ (E σ)) (ha : PA X (e :: es) t)
    (hst : starEach (e :: es) X.env = (false, eval e X.env) :: starEach es X.env := by rfl) (hpl : (backTo pos (starEach es X.env)).any (·.1) = false := by rfl)
    (ht : eval (.Call (.Attribute o m apos) (e :: es) [] pos) X.env = (do
      let ov ← eval o X.env
      standAt apos.atName
      let (f, first) ← holding [ov] (getMethod ov m pl)
      callWith pos f first (backTo pos (starEach (e :: es) X.env)) (backToKw pos (keywordEach [] X.env))) := by rfl) :
    PE X (.Call (.Attribute o m apos) (e :: es) [] pos) (tSMeth C sp dvs E ta t) := by
  refine ⟨fun pins s σ H Q I h => ?_⟩
  refine PySem.W.methodCall_KW (pl := pl) (thn (he.run pins s σ H _ I h) fun u s1 ⟨x, H1, I1, rx, ex, q⟩ => ?_) ht
  subst ex
  obtain rfl : u = Value.ref C := rx
  obtain ⟨rest, hp⟩ := c.rc
  refine PySem.W.method_cls I1.kIn r.ga (PySem.W.cls_bind I1.kIn r.rd c.at_ (wpAny_call (PySem.W.sm_get (s := { s1 with toks := s1.toks + 1 }) I1.kIn hp (PySem.W.handed_on rfl ?_))))
  have I2 := I1.tok (s1.toks + 1)
  refine PySem.W.callWith_K (h₀ := X.base) (first := []) I2.ok.mod.kin c.kp (thn (ha.run pos pins _ σ H1 _ I2 q) fun us s3 ⟨vs, H2, I3, rv, q2⟩ => ⟨I3.kIn, ?_⟩) hst hpl
  exact run_fnSD F hr hb hd (hx σ) I3 rv q2
end
/-! ### d.get(k, x) of a written table -/
def tKGet (K : PySem.W.Frag) (d : Addr) (td ty tx : TE) : TE := fun σ H Q => td σ H fun x H1 => x = .ref d ∧ ty σ H1 fun y H2 => tx σ H2 fun z H3 => ∃ (n : Str) (r : Option Value) (o : Option V), y = .str n ∧ PySem.W.nsIn K d n = some r ∧
  (match o, r with
    | some v, some u => RelV v u
    | none, none => True
    | _, _ => False) ∧ Q (o.getD z) H3
section
variable {X : Cx} {o e f : Expr} {apos cpos : Pos} {td ty tx : TE} {d : Addr} {es : Array DictEntry} {n : Nat}
theorem pe_kget (D : KDict X.K X.w d es n) (ho : PE X o td) (he : PE X e ty) (hf : PE X f tx) (m : M2 X o "get" apos e f cpos) : PE X (.Call (.Attribute o "get" apos) [e, f] [] cpos) (tKGet X.K d td ty tx) := by
  refine ⟨fun pins s σ H Q I h => ?_⟩
  refine wpAny_Call_method m.base m.few m.line PySem.F.plainAttrs_dict PySem.F.slot_dict_get PySem.F.type_dict_get (thn (ho.run pins s σ H _ I h) fun u s1 ⟨x, H1, I1, rx, ex, q1⟩ => ?_)
  subst ex
  obtain rfl : u = Value.ref d := rx
  refine ⟨kd_type D I1, fun b q => ?_, ?_⟩
  · cases q
    exact ⟨_, I1.kIn _ _ D.at_, rfl⟩
  rw [m.trees]
  refine Calls.callWith_builtin rfl (Calls.evalArgs_plain (Calls.spliced_cons (thn (he.run pins s1 σ H1 _ I1 q1) fun iv s2 ⟨y, H2, I2, ry, q2⟩ =>
    Calls.spliced_cons (thn (hf.run pins s2 σ H2 _ I2 q2) fun fv s3 ⟨z, H3, I3, rz, nm, r, ov, ey, ns, rel, q3⟩ => Calls.spliced_nil ?_))))
  subst ey
  obtain ⟨t, rfl⟩ := ry
  refine call_meetsIn PySem.F.slot_dict_get (kd_type D I3) PySem.F.entry_dict_get (PySem.F.args_dict_get_3 _ _ _) (meets_dict_get_default (strKind X.prog X.w) d (strKind_is X.prog X.w nm t) D.low fv) ⟨_, PySem.W.mapOf_K (prog := X.prog) I3.kIn D.at_ D.lit, ?_⟩
  rw [PySem.W.find_K D.at_ ns]
  refine ⟨ov.getD z, H3, I3.tok _, ?_, q3⟩
  cases ov with
  | none =>
    cases r with
    | none => exact rz
    | some u => exact False.elim rel
  | some v =>
    cases r with
    | none => exact False.elim rel
    | some u => exact rel
end
end Lc
namespace Lc
open PySem PySem.Spec PyProof.Rows L2
/-! ### the facts of classes, as Bools -/
section
variable {K : PySem.W.Frag} {c c2 f m : Str} {b : Bool}
def topB (K : PySem.W.Frag) : Bool := decide (PySem.W.specialIn K (.ref (He.ga K "LeapError")) "__getattribute__" = some (some (.builtin "type.__getattribute__"))) && (PySem.W.readsIn K (He.ga K "LeapError") (.type "type") &&
  ((match PySem.W.findCls K (.ref (He.ga K "LeapError")) (.type "type") "__init__" with
    | some (.val (.builtin b)) => b == "ValueError.__init__"
    | _ => false) && PySem.W.keepIn K (.ref (He.ga K "LeapError"))))
def errB (K : PySem.W.Frag) (c f : Str) : Bool := oexB K (He.ga K c) && (xfB K (He.ga K c) && (decide (PySem.W.findIn K (.ref (He.ga K c)) "__init__" = some (some (.ref (He.ma K (He.ga K c) "__init__")))) &&
  (decide (PySem.W.typeIn K (.ref (He.ma K (He.ga K c) "__init__")) = some (.type "function")) && (decide (PySem.W.findIn K (.ref (He.ga K c)) f = some none) && decide (PySem.W.exmOne K (.ref (He.ga K c)) (.ref (He.ga K "LeapError")) = some true)))))
structure XF (K : PySem.W.Frag) (c f : Str) : Prop where
  oex : OexC K (He.ga K c)
  xf : XfC K (He.ga K c)
  iC : PySem.W.findIn K (.ref (He.ga K c)) "__init__" = some (some (.ref (He.ma K (He.ga K c) "__init__")))
  tI : PySem.W.typeIn K (.ref (He.ma K (He.ga K c) "__init__")) = some (.type "function")
  no : PySem.W.findIn K (.ref (He.ga K c)) f = some none
  exm : PySem.W.exmOne K (.ref (He.ga K c)) (.ref (He.ga K "LeapError")) = some true
  sp : PySem.W.specialIn K (.ref (He.ga K "LeapError")) "__getattribute__" = some (some (.builtin "type.__getattribute__"))
  rd : PySem.W.readsIn K (He.ga K "LeapError") (.type "type") = true
  vV : PySem.W.findCls K (.ref (He.ga K "LeapError")) (.type "type") "__init__" = some (.val (.builtin "ValueError.__init__"))
  kL : PySem.W.keepIn K (.ref (He.ga K "LeapError")) = true
theorem errB_ok (ht : topB K = true) (h : errB K c f = true) : XF K c f := by
  unfold topB at ht
  unfold errB at h
  simp only [Bool.and_eq_true, decide_eq_true_eq] at ht h
  obtain ⟨t1, t2, t3, t4⟩ := ht
  obtain ⟨h1, h2, h3, h4, h5, h6⟩ := h
  refine ⟨oexB_ok h1, xfB_ok h2, h3, h4, h5, h6, t1, t2, ?_, t4⟩
  split at t3
  · rename_i b hb
    rw [hb, beq_iff_eq.mp t3]
  · cases t3
def kitB (K : PySem.W.Frag) (c c2 : Str) (b : Bool) : Bool := decide (PySem.W.kitOne K (.ref (He.ga K c)) (.ref (He.ga K c2)) = some b)
theorem kitB_ok (h : kitB K c c2 b = true) : PySem.W.kitOne K (.ref (He.ga K c)) (.ref (He.ga K c2)) = some b := of_decide_eq_true h
def clsB (K : PySem.W.Frag) (c : Str) : Bool := PySem.W.readsIn K (He.ga K c) (.type "type") && decide (PySem.W.specialIn K (.ref (He.ga K c)) "__getattribute__" = some (some (.builtin "type.__getattribute__")))
theorem clsB_ok (h : clsB K c = true) : ClX.CRead K (He.ga K c) (.type "type") := by
  obtain ⟨h1, h2⟩ := Bool.and_eq_true_iff.mp h
  exact ⟨h1, of_decide_eq_true h2⟩
def smB (K : PySem.W.Frag) (c m : Str) : Bool := He5.wrapB K (He.ga K c) "staticmethod" "staticmethod.__get__" m && PySem.W.keepIn K (.ref (He5.wf K (He.ga K c) "staticmethod" m))
theorem smB_ok (h : smB K c m = true) : SMet K (He.ga K c) (.type "type") m (He.ma K (He.ga K c) m) (He5.wf K (He.ga K c) "staticmethod" m) := by
  obtain ⟨h1, h2⟩ := Bool.and_eq_true_iff.mp h
  obtain ⟨h3, h4⟩ := He5.wrapB_ok h1
  exact ⟨h3, h4, h2⟩
end
/-! ### a name that a table does not have -/
theorem dicW_no {K : PySem.W.Frag} {P : Params} {a : Addr} {ks : List Str} (h : He.dicW K a = some (He.keysIn P ks)) {z : Str} (hz : z ∉ ks) : PySem.W.nsIn K a z = some none := by
  unfold He.dicW at h
  unfold PySem.W.nsIn
  split at h
  · rename_i oc es n sl hk
    rw [hk]
    split at h
    · have e := Option.some.inj h
      have key : ∀ d ∈ es.toList, ∃ k ∈ ks, ∃ t, d.key = .str k t := fun d hd => by
        have hm : He.keyOf d ∈ es.toList.map He.keyOf := List.mem_map_of_mem hd
        rw [e] at hm
        unfold He.keysIn at hm
        obtain ⟨k, hk, ek⟩ := List.mem_map.mp hm
        unfold He.keyOf at ek
        split at ek
        · rename_i x t q
          have e2 := Option.some.inj ek
          have e3 : k = x := congrArg Prod.fst e2
          exact ⟨k, hk, t, by rw [q, e3]⟩
        · cases ek
      have hf : es.toList.find? (fun d => d.key.isStr z) = none := by
        rw [List.find?_eq_none]
        intro d hd
        obtain ⟨k, hk, t, ek⟩ := key d hd
        rw [ek]
        have hne : k ≠ z := fun q => hz (by rw [← q]; exact hk)
        show ¬ (Value.isStr (.str k t) z) = true
        simp [Value.isStr, hne]
      show (match es.toList.find? (fun d => d.key.isStr z) with
        | some e => some (some e.val)
        | none => if es.toList.any (·.refKey) then none else some none) = some none
      rw [hf]
      have ha : es.toList.any (·.refKey) = false := by
        rw [List.any_eq_false]
        intro d hd
        obtain ⟨k, hk, t, ek⟩ := key d hd
        unfold DictEntry.refKey
        rw [ek]
        simp
      simp only [ha]
      rfl
    · cases h
  · cases h
theorem SaysM.tab_no {fa : List He.Fa} {fn : List He5.DefA} {ts : List He.Tab} {ex : PySem.W.Frag → Bool} {w : World} {K : PySem.W.Frag} (c : SaysM fa fn ts ex w K) (i : Nat) {t : He.Tab} (h : ts[i]? = some t) {z : Str} (hz : z ∉ t.2) : PySem.W.nsIn K (t.1 K) z = some none := by
  have e : (ts.map fun t => He.dicW K (t.1 K))[i]? = (ts.map fun t => some (He.keysIn w.params t.2))[i]? := by rw [c.t]
  rw [List.getElem?_map, List.getElem?_map, h] at e
  exact dicW_no (Option.some.inj e) hz
theorem passX {X : Cx} {E : XK} (tk : L2N.Takes X fun cls d _ H' => E cls d H') : Passes (L2N.CX X.prog X.w) X E := fun pins σ H s e s' I c => L2N.passAt tk σ pins H s e s' I c
end Lc
namespace Lc
open PySem PySem.Spec PyProof.Rows L2
/-! ### isinstance(x, C) of an instance of C itself -/
def rIsOwn (C : Addr) : List V → Hp → VK → Prop := fun xs H Q => ∃ a dx fs, xs = [.ref a, .ref C] ∧ H a = some (.ins C dx fs) ∧ Q (.bl true) H
theorem call_isOwn {X : Cx} {C : Addr} : CallR X (.builtin "isinstance") (rIsOwn C) := by
  intro pins s σ H xs us Q I r h
  obtain ⟨a, dx, fs, rfl, ha, q⟩ := h
  obtain ⟨u1, u2, rfl, r1, r2⟩ := vals2 r
  obtain rfl : u1 = Value.ref a := r1
  obtain rfl : u2 = Value.ref C := r2
  obtain ⟨mA, J, _⟩ := ins_get I.hok ha
  obtain ⟨od, J, _⟩ := J.look
  exact isi_same J fun tk => ⟨.bl true, H, I.tok _, rfl, q⟩
end Lc
namespace Lc
open PySem PySem.Spec PyProof.Rows L2 Evl
/-- a text by its signs -/
def S (l : List Nat) : Str := ⟨l.toArray⟩
theorem tl_S (l : List Nat) : (S l).cps.toList = l := rfl
theorem S_tl (z : Str) : S z.cps.toList = z := by
  apply Str.ext'
  simp [S]
theorem S_len (l : List Nat) : (S l).length = l.length := by simp [S, Str.length]
theorem S_inj {a b : List Nat} (h : S a = S b) : a = b := by
  have := congrArg (fun z : Str => z.cps.toList) h
  exact this
theorem S_app (a b : List Nat) : S a ++ S b = S (a ++ b) := by
  have h := TL.tl_append (S a) (S b)
  rw [← S_tl (S a ++ S b)]
  exact congrArg S h
theorem join_S : ∀ l : List Nat, Txt.join (S []) (l.map fun c => S [c]) = S l := by
  intro l
  rw [TL.join_eq, ← S_tl (Str.join (S []) _)]
  refine congrArg S ?_
  have h := TL.tl_join (S []) (l.map fun c => S [c])
  refine Eq.trans h ?_
  rw [List.map_map]
  show TL.joinL [] (l.map fun c => [c]) = l
  induction l with
  | nil => rfl
  | cons a r ih =>
    cases r with
    | nil => rfl
    | cons b r =>
      show [a] ++ ([] ++ TL.joinL [] ((b :: r).map fun c => [c])) = a :: b :: r
      rw [ih (TL.tl_join _ _)]
      rfl
theorem join_sz (l : List Nat) (h : l.length ≤ 100000) : (((l.map fun c => S [c]).map (·.length)).sum + (l.map fun c => S [c]).length * (S []).length) ≤ 16777216 := by
  have e : ∀ l : List Nat, ((l.map fun c => S [c]).map (·.length)).sum = l.length := by
    intro l
    induction l with
    | nil => rfl
    | cons a r ih =>
      rw [List.map_cons, List.map_cons, List.sum_cons, ih, S_len]
      simp
      omega
  rw [e]
  have : (S []).length = 0 := rfl
  rw [this]
  omega
theorem cut_from (l : List Nat) (i : Nat) : cutS (S l) (some (i : Int)) none = S (l.drop i) := by
  unfold cutS
  rw [S_len, HT.sIx_nat, HT.sIx_none, tl_S]
  refine congrArg S ?_
  rw [List.take_of_length_le (by rw [List.length_drop]; omega)]
  by_cases h : i ≤ l.length
  · rw [Nat.min_eq_left h]
  · rw [Nat.min_eq_right (by omega), List.drop_of_length_le (Nat.le_refl _), List.drop_of_length_le (by omega)]
theorem cut_to (l : List Nat) (i : Nat) : cutS (S l) none (some (i : Int)) = S (l.take i) := by
  unfold cutS
  rw [S_len, HT.sIx_nat, HT.sIx_none, tl_S]
  refine congrArg S ?_
  rw [List.drop_zero, Nat.sub_zero]
  by_cases h : i ≤ l.length
  · rw [Nat.min_eq_left h]
  · rw [Nat.min_eq_right (by omega), List.take_of_length_le (Nat.le_refl _), List.take_of_length_le (by omega)]
theorem atI_i {α : Type} {xs : List α} {i : Int} (h0 : 0 ≤ i) (h1 : i < xs.length) (d : α) : atI xs i = some (xs.getD i.toNat d) := by
  have e : i = (i.toNat : Int) := by omega
  have hl : i.toNat < xs.length := by omega
  rw [e]
  refine atI_nat ?_
  rw [Int.toNat_natCast, List.getElem?_eq_getElem hl, List.getD_eq_getElem?_getD, List.getElem?_eq_getElem hl]
  rfl
theorem revS_S (l : List Nat) : revS (S l) = S l.reverse := rfl
section
variable {K : PySem.W.Frag} {σ : L2.St} {H H' : Hp} {ta tb te tx : TE} {t u : TT} {x y z v : V} {r : R2} {D : Ends}
theorem rv_ixSS {l : List Nat} {i : Int} (hl : l.length ≤ 100000) (h0 : 0 ≤ i) (h1 : i < l.length) : RV rIxS (.str (S l)) (.int i) H (.str (S [l.getD i.toNat 0])) := rv_ixS (by rw [S_len]; exact hl) (atI_i h0 h1 0)
theorem ev_cbL {r : List V → Hp → VK → Prop} {xs : List V} (h : EvL te σ H xs) (hr : ∀ p H1, H1 p = some (.lst xs) → Ex H H1 → RC r [.ref p] H1 z) : Ev (tCB r (tCons te tNil)) σ H z := fun H1 e Q q =>
  h H1 e _ fun p H2 _ e2 hp => hr p H2 hp (e.trans e2) H2 (Ex.refl H2) Q fun H3 e3 => q H3 (e2.trans e3)
theorem cutV_ints (ns : List Int) (lo hi : Option Int) : ∃ ms : List Int, cutV (ns.map V.int) lo hi = ms.map V.int := by
  unfold cutV
  exact ⟨_, by rw [← List.map_drop, ← List.map_take]⟩
end
/-! ### a box of three ints that a call changes -/
def Bx (H : Hp) (b : Addr) : Prop := ∃ i j k : Int, H b = some (.lst [.int i, .int j, .int k])
def ExB (b : Addr) (H H' : Hp) : Prop := ∀ c o, c ≠ b → H c = some o → H' c = some o
theorem ExB.refl {b : Addr} (H : Hp) : ExB b H H := fun _ _ _ h => h
theorem ExB.trans {b : Addr} {H H1 H2 : Hp} (h : ExB b H H1) (h2 : ExB b H1 H2) : ExB b H H2 := fun c o hc e => h2 c o hc (h c o hc e)
theorem ExB.of {b : Addr} {H H1 : Hp} (h : Ex H H1) : ExB b H H1 := fun c o _ e => h c o e
theorem Bx.ex {b : Addr} {H H1 : Hp} (h : Bx H b) (e : Ex H H1) : Bx H1 b := by
  obtain ⟨i, j, k, h⟩ := h
  exact ⟨i, j, k, e b _ h⟩
theorem ExB.upd {b : Addr} {H : Hp} {o : HO} : ExB b H (upd H b o) := fun c o hc e => by rw [upd_ne hc]; exact e
theorem Bx.put {b : Addr} {H : Hp} {i j k : Int} : Bx (upd H b (.lst [.int i, .int j, .int k])) b := ⟨i, j, k, upd_same⟩
theorem ExB.seq {K : PySem.W.Frag} {b a : Addr} {H H' : Hp} {xs : List V} (e : ExB b H H') (hab : a ≠ b) (h : SqL K H a xs) : SqL K H' a xs := by
  rcases h with (h | ⟨o, h⟩) | h
  · exact .inl (.inl (e _ _ hab h))
  · exact .inl (.inr ⟨o, e _ _ hab h⟩)
  · exact .inr h
theorem ExB.bx {b c : Addr} {H H' : Hp} (e : ExB b H H') (hcb : c ≠ b) (h : Bx H c) : Bx H' c := by
  obtain ⟨i, j, k, h⟩ := h
  exact ⟨i, j, k, e c _ hcb h⟩

section
variable {H : Hp}
theorem rv_inSS {c : Nat} {g : List Nat} : RV (fun x y H Q => ∃ (c : Nat) (z : Str), x = .str ⟨#[c]⟩ ∧ y = .str z ∧ Q (.bl (decide (c ∈ z.cps.toList))) H) (.str (S [c])) (.str (S g)) H (.bl (decide (c ∈ g))) := fun H1 _ _ q => ⟨c, S g, rfl, rfl, q H1 (Ex.refl H1)⟩
theorem rv_notInSS {c : Nat} {g : List Nat} : RV (fun x y H Q => ∃ (c : Nat) (z : Str), x = .str ⟨#[c]⟩ ∧ y = .str z ∧ Q (.bl (!decide (c ∈ z.cps.toList))) H) (.str (S [c])) (.str (S g)) H (.bl (!decide (c ∈ g))) := fun H1 _ _ q => ⟨c, S g, rfl, rfl, q H1 (Ex.refl H1)⟩
theorem rv_ltSS {a b : List Nat} : RV (fun x y H Q => ∃ i j, x = .str i ∧ y = .str j ∧ Q (.bl (decide (i.cps.toList < j.cps.toList))) H) (.str (S a)) (.str (S b)) H (.bl (decide (a < b))) := fun H1 _ _ q => ⟨S a, S b, rfl, rfl, q H1 (Ex.refl H1)⟩
theorem rv_catSS {a b : List Nat} (h : a.length + b.length ≤ 100000) : RV (fun x y H Q => ∃ i j, x = .str i ∧ y = .str j ∧ i.length + j.length ≤ sizeLine ∧ Q (.str (i ++ j)) H) (.str (S a)) (.str (S b)) H (.str (S (a ++ b))) := by
  have h2 := rv_catS (H := H) (a := S a) (b := S b) (by rw [S_len, S_len]; exact h)
  rw [S_app] at h2
  exact h2
theorem rc_lenSS {K : PySem.W.Frag} {l : List Nat} (h : l.length ≤ 100000) : RC (fun xs H Q => ∃ x n, xs = [x] ∧ LenV K x H n ∧ Q (.int n) H) [.str (S l)] H (.int l.length) := by
  have h2 := rc_lenS (K := K) (H := H) (w := S l) (by rw [S_len]; exact h)
  rw [S_len] at h2
  exact h2
theorem rc_lenStr {l : List Nat} (h : l.length ≤ 100000) : RC (fun xs H Q => ∃ z, xs = [V.str z] ∧ z.length ≤ sizeLine ∧ Q (.int z.length) H) [.str (S l)] H (.int l.length) := fun H1 _ _ q => ⟨S l, rfl, sz_of (by rw [S_len]; exact h), by rw [S_len]; exact q H1 (Ex.refl H1)⟩
theorem rv_eqII {a b : Int} : RV rEq (.int a) (.int b) H (.bl (decide (a = b))) := by
  have h2 := rv_eq (H := H) (x := .int a) (y := .int b) rfl
  have e : decide (V.int a = V.int b) = decide (a = b) := decide_eq_decide.mpr ⟨fun h => by injection h, fun h => by rw [h]⟩
  rw [e] at h2
  exact h2
theorem rv_neII {a b : Int} : RV rNe (.int a) (.int b) H (.bl (!decide (a = b))) := by
  have h2 := rv_ne (H := H) (x := .int a) (y := .int b) rfl
  have e : decide (V.int a = V.int b) = decide (a = b) := decide_eq_decide.mpr ⟨fun h => by injection h, fun h => by rw [h]⟩
  rw [e] at h2
  exact h2
theorem rv_neSS {a b : List Nat} : RV rNe (.str (S a)) (.str (S b)) H (.bl (!decide (a = b))) := by
  have h2 := rv_ne (H := H) (x := .str (S a)) (y := .str (S b)) rfl
  have e : decide (V.str (S a) = V.str (S b)) = decide (a = b) := decide_eq_decide.mpr ⟨fun h => S_inj (by injection h), fun h => by rw [h]⟩
  rw [e] at h2
  exact h2
theorem rv_eqSS {a b : List Nat} : RV rEq (.str (S a)) (.str (S b)) H (.bl (decide (a = b))) := by
  have h2 := rv_eq (H := H) (x := .str (S a)) (y := .str (S b)) rfl
  have e : decide (V.str (S a) = V.str (S b)) = decide (a = b) := by
    apply decide_eq_decide.mpr
    constructor
    · intro h
      exact S_inj (by injection h)
    · intro h
      rw [h]
  rw [e] at h2
  exact h2
end
/-! ### loops and comprehensions over a text -/
section
variable {K : PySem.W.Frag} {σ : L2.St} {H H' : Hp} {ta tb te tx : TE} {t : TT} {x y z v : V} {r : R2} {D : Ends} {tu tz : TS}
theorem its_at {l : List Nat} {i : Nat} {c : Nat} (h : (S l).cps[i]? = some c) : l[i]? = some c := by
  have h2 : l.toArray[i]? = some c := h
  simpa using h2
theorem its_sz (l : List Nat) : (S l).cps.size = l.length := by
  show l.toArray.size = l.length
  simp
theorem s_forS {l : List Nat} {j : Nat} (h : Ev te σ H (.str (S l))) (Pv : Nat → L2.St → Hp → Prop) (h0 : ∀ H1, Ex H H1 → Pv 0 σ H1)
    (hs : ∀ i c σ' H', l[i]? = some c → Pv i σ' H' → tu { D with nx := Pv (i + 1), ct := Pv (i + 1), bk := D.nx } (σ'.set j (some (.str (S [c])))) H') (hd : ∀ σ' H', Pv l.length σ' H' → D.nx σ' H') : tFor (iStr te) (gName j) tu D σ H :=
  h H (Ex.refl H) _ fun H1 e => ⟨S l, rfl, fun i m σ' H' => m = l.length - i ∧ i ≤ l.length ∧ Pv i σ' H', ⟨l.length, by simp, Nat.zero_le _, h0 H1 e⟩, fun i m σ' H' hw => by
    obtain ⟨rfl, hi, p⟩ := hw
    by_cases hlt : i < l.length
    · refine .inr ⟨by show i < (S l).cps.size; rw [its_sz]; exact hlt, Pv (i + 1), fun σ2 H2 p2 => ⟨l.length - (i + 1), by omega, rfl, hlt, p2⟩, fun x H2 hy => ?_⟩
      obtain ⟨e2, c, hc, ex⟩ := hy
      subst e2 ex
      exact hs i c σ' _ (its_at hc) p
    · have ei : i = l.length := by omega
      subst ei
      exact .inl ⟨by show (S l).cps.size ≤ l.length; rw [its_sz]; exact Nat.le_refl _, hd σ' H' p⟩⟩
theorem q_forS {l : List Nat} {j : Nat} (h : Ev te σ H (.str (S l))) (Pv : Nat → L2.St → Hp → Prop) (h0 : ∀ H1, Ex H H1 → Pv 0 σ H1)
    (hs : ∀ i c σ' H', l[i]? = some c → Pv i σ' H' → tu { D with nx := Pv (i + 1), ct := Pv (i + 1), bk := tz D } (σ'.set j (some (.str (S [c])))) H') (hd : ∀ σ' H', Pv l.length σ' H' → tz D σ' H') : tSeq (tFor (iStr te) (gName j) tu) tz D σ H :=
  s_forS (D := { D with nx := tz D }) h Pv h0 hs hd
theorem el_lcS {l : List Nat} {tl : TE} {j : Nat} {vs : List Nat} (f : Nat → Bool) (v : Nat → V) (h : Ev tl σ H (.str (S l))) (hz : l.length ≤ 40000) (hw : ∀ x, wipe ((wipe σ vs).set j (some x)) vs = wipe σ vs)
    (ht : ∀ (i : Nat) (c : Nat) H1, Ex H H1 → l[i]? = some c → EvT t ((wipe σ vs).set j (some (.str (S [c])))) H1 (f i)) (he : ∀ (i : Nat) (c : Nat) H1, Ex H H1 → l[i]? = some c → f i = true → Ev te ((wipe σ vs).set j (some (.str (S [c])))) H1 (v i)) :
    EvL (tLc (iStr tl) (gName j) t te vs) σ H (given l.length f v) := fun H0 e Q q => h H0 e _ fun H1 e1 => ⟨S l, rfl, fun Dl hD => by
  refine ⟨fun i m H' => m = l.length - i ∧ i ≤ l.length ∧ Cw H1 f v Dl i H', ⟨l.length, by simp, Nat.zero_le _, ⟨hD, Ex.new hD, upd_same⟩⟩, ?_⟩
  rintro i m H' ⟨rfl, hi, p⟩
  by_cases hlt : i < l.length
  · refine .inr ⟨by show i < (S l).cps.size; rw [its_sz]; exact hlt, Cw H1 f v Dl (i + 1), fun H2 p2 => ⟨l.length - (i + 1), by omega, rfl, hlt, p2⟩, fun x H2 hy => ?_⟩
    obtain ⟨e2, c, hc, ex⟩ := hy
    subst e2 ex
    have hc' := its_at hc
    exact ⟨hw _, cw_turn p (by omega) (ht i c H1 (e.trans e1) hc') (fun hf => he i c H1 (e.trans e1) hc' hf)⟩
  · have ei : i = l.length := by omega
    subst ei
    exact .inl ⟨by show (S l).cps.size ≤ l.length; rw [its_sz]; exact Nat.le_refl _, q Dl H' (fresh_back e1 p.1) (e1.trans p.2.1) p.2.2⟩⟩
end
theorem et_yes {σ : L2.St} {H : Hp} : EvT tYes σ H true := fun H1 _ _ q => q H1 (Ex.refl H1)
theorem given_all (n : Nat) (v : Nat → V) : given n (fun _ => true) v = (List.range n).map v := by
  unfold given
  rw [List.filter_eq_self.mpr (fun _ _ => rfl)]
theorem ev_index {K : PySem.W.Frag} {W : WX} {σ : L2.St} {H : Hp} {to : TE} {ta : TA} {z b : Str} {k : Nat} (ho : Ev to σ H (.str z)) (ha : EvA ta σ H [.str b]) (hk : Txt.index0 z b = some k) : Ev (tBMS K "str" (rIndexX W) to ta) σ H (.int (k : Int)) := fun H1 e _ q =>
  ho H1 e _ fun H2 e2 => ⟨rfl, ha H2 (e.trans e2) _ fun H3 e3 => ⟨z, b, rfl, rfl, fun j hj => by
    rw [hk] at hj
    cases hj
    exact q H3 (e2.trans e3), fun hn => by
    rw [hk] at hn
    cases hn⟩⟩
theorem given_filter {α : Type} (l : List α) (d : α) (p : α → Bool) (g : α → V) : given l.length (fun i => p (l.getD i d)) (fun i => g (l.getD i d)) = (l.filter p).map g := by
  unfold given
  have e : l = (List.range l.length).map fun i => l.getD i d := by
    apply List.ext_getElem
    · simp
    · intro i h1 h2
      simp [h1]
  conv => rhs; rw [e]
  rw [List.filter_map, List.map_map]
  rfl
theorem ev_pow10 {σ : L2.St} {H : Hp} {n v : Int} (h : (10 : Int) ^ n.toNat = v) (h0 : 0 ≤ n) (h1 : n ≤ 1000) : Ev (tOp (rI CPow fun i j => V.int (i ^ j.toNat)) (tC (V.int 10)) (tC (V.int n))) σ H (.int v) := by
  rw [← h]
  exact ev_op ev_c ev_c (rv_I ⟨h0, by omega, by decide⟩)
theorem getD_map_str (cs : List Nat) (k : Nat) : (cs.map fun c => V.str (S [c])).getD k (V.str (S [0])) = V.str (S [cs.getD k 0]) := by
  rw [List.getD_eq_getElem?_getD, List.getD_eq_getElem?_getD, List.getElem?_map]
  cases cs[k]? <;> rfl
theorem getD_in {l : List Nat} {k : Nat} (h : k < l.length) : l.getD k 0 ∈ l := by
  rw [List.getD_eq_getElem?_getD, List.getElem?_eq_getElem h]
  exact List.getElem_mem h
theorem emod_le_nat (i : Nat) {u : Int} (h : 0 < u) : (i : Int) % u ≤ i := by
  have h1 : (i : Int) % u + u * ((i : Int) / u) = i := by
    first
      | exact Int.emod_add_mul_ediv _ _
      | exact Int.emod_add_ediv _ _
  have h2 : 0 ≤ (i : Int) / u := Int.ediv_nonneg (by omega) (by omega)
  have h3 : 0 ≤ u * ((i : Int) / u) := Int.mul_nonneg (by omega) h2
  omega
theorem ev_to {σ : L2.St} {H : Hp} {te ti : TE} {l : List Nat} {k : Nat} (h : Ev te σ H (.str (S l))) (hi : Ev ti σ H (.int (k : Int))) (hl : l.length ≤ 100000) : Ev (tSl rSlS te tNoPart (tPart ti)) σ H (.str (S (l.take k))) := by
  have h := ev_slS h eo_none (eo_some hi) (by rw [S_len]; exact hl)
  rw [cut_to] at h
  exact h
theorem ev_from {σ : L2.St} {H : Hp} {te ti : TE} {l : List Nat} {k : Nat} (h : Ev te σ H (.str (S l))) (hi : Ev ti σ H (.int (k : Int))) (hl : l.length ≤ 100000) : Ev (tSl rSlS te (tPart ti) tNoPart) σ H (.str (S (l.drop k))) := by
  have h := ev_slS h (eo_some hi) eo_none (by rw [S_len]; exact hl)
  rw [cut_from] at h
  exact h
theorem op_first {σ : L2.St} {H : Hp} {r : R2} {ta tb : TE} {x : V} {Q : VK} (h : Ev ta σ H x) (k : ∀ H1, Ex H H1 → tb σ H1 fun y H2 => r x y H2 Q) : tOp r ta tb σ H Q := h H (Ex.refl H) _ k
theorem ret_op {σ : L2.St} {H : Hp} {r : R2} {ta tb : TE} {x : V} {D : Ends} (h : Ev ta σ H x) (k : ∀ H1, Ex H H1 → tb σ H1 fun y H2 => r x y H2 D.rt) : tRet (tOp r ta tb) D σ H := h H (Ex.refl H) _ k
end Lc
namespace K03
open PySem PySem.Spec PyProof.Rows L2 Lc
abbrev R : PySem.W.OpenRow := PySem.W.OpenLaw.row PySem.Challenge.rw_leapcard_k03_jumps_checked_and_written
def topS (i : Nat) : Stmt := PySem.Challenge.pw_leapcard_k03_jumps_checked_and_written.main.body.getD i (.Pass ⟨0, 0, 0, 0⟩)
abbrev st_InvalidRow_init : Stmt := inClass (topS 2) 0
abbrev ps_InvalidRow_init : List Str := ["self", "row"]
abbrev ns_InvalidRow_init : List Str := ["self", "row"]
theorem sc_InvalidRow_init : FnScope ns_InvalidRow_init ps_InvalidRow_init (defScope st_InvalidRow_init) := ⟨rfl, rfl, rfl, by decide +kernel, rfl, by decide +kernel, by decide +kernel⟩
abbrev st_InvalidJump_init : Stmt := inClass (topS 3) 0
abbrev ps_InvalidJump_init : List Str := ["self", "text"]
abbrev ns_InvalidJump_init : List Str := ["self", "text"]
theorem sc_InvalidJump_init : FnScope ns_InvalidJump_init ps_InvalidJump_init (defScope st_InvalidJump_init) := ⟨rfl, rfl, rfl, by decide +kernel, rfl, by decide +kernel, by decide +kernel⟩
abbrev st_check_row : Stmt := topS 7
abbrev ps_check_row : List Str := ["row", "signs"]
abbrev ns_check_row : List Str := ["row", "signs", "sign"]
theorem sc_check_row : FnScope ns_check_row ps_check_row (defScope st_check_row) := ⟨rfl, rfl, rfl, by decide +kernel, rfl, by decide +kernel, by decide +kernel⟩
abbrev st_mirror : Stmt := topS 8
abbrev ps_mirror : List Str := ["row"]
abbrev ns_mirror : List Str := ["row"]
theorem sc_mirror : FnScope ns_mirror ps_mirror (defScope st_mirror) := ⟨rfl, rfl, rfl, by decide +kernel, rfl, by decide +kernel, by decide +kernel⟩
abbrev st_is_jump : Stmt := topS 13
abbrev ps_is_jump : List Str := ["before", "after", "ways"]
abbrev ns_is_jump : List Str := ["before", "after", "ways", "sign"]
theorem sc_is_jump : FnScope ns_is_jump ps_is_jump (defScope st_is_jump) := ⟨rfl, rfl, rfl, by decide +kernel, rfl, by decide +kernel, by decide +kernel⟩
abbrev st_Jump_init : Stmt := inClass (topS 14) 0
abbrev ps_Jump_init : List Str := ["self", "before", "after", "ways"]
abbrev ns_Jump_init : List Str := ["self", "before", "after", "ways"]
theorem sc_Jump_init : FnScope ns_Jump_init ps_Jump_init (defScope st_Jump_init) := ⟨rfl, rfl, rfl, by decide +kernel, rfl, by decide +kernel, by decide +kernel⟩
abbrev st_Jump_windows : Stmt := inClass (topS 14) 1
abbrev ps_Jump_windows : List Str := ["self"]
abbrev ns_Jump_windows : List Str := ["self", "pairs"]
theorem sc_Jump_windows : FnScope ns_Jump_windows ps_Jump_windows (defScope st_Jump_windows) := ⟨rfl, rfl, rfl, by decide +kernel, rfl, by decide +kernel, by decide +kernel⟩
abbrev st_Jump_mirrored : Stmt := inClass (topS 14) 2
abbrev ps_Jump_mirrored : List Str := ["self"]
abbrev ns_Jump_mirrored : List Str := ["self"]
theorem sc_Jump_mirrored : FnScope ns_Jump_mirrored ps_Jump_mirrored (defScope st_Jump_mirrored) := ⟨rfl, rfl, rfl, by decide +kernel, rfl, by decide +kernel, by decide +kernel⟩
abbrev st_Jump_eq : Stmt := inClass (topS 14) 3
abbrev ps_Jump_eq : List Str := ["self", "other"]
abbrev ns_Jump_eq : List Str := ["self", "other"]
theorem sc_Jump_eq : FnScope ns_Jump_eq ps_Jump_eq (defScope st_Jump_eq) := ⟨rfl, rfl, rfl, by decide +kernel, rfl, by decide +kernel, by decide +kernel⟩
abbrev st_Jump_str : Stmt := inClass (topS 14) 4
abbrev ps_Jump_str : List Str := ["self"]
abbrev ns_Jump_str : List Str := ["self"]
theorem sc_Jump_str : FnScope ns_Jump_str ps_Jump_str (defScope st_Jump_str) := ⟨rfl, rfl, rfl, by decide +kernel, rfl, by decide +kernel, by decide +kernel⟩
abbrev st_Jump_read : Stmt := inClass (topS 14) 5
abbrev ps_Jump_read : List Str := ["text"]
abbrev ns_Jump_read : List Str := ["text", "middle", "ways", "before", "way", "after"]
theorem sc_Jump_read : FnScope ns_Jump_read ps_Jump_read (defScope st_Jump_read) := ⟨rfl, rfl, rfl, by decide +kernel, rfl, by decide +kernel, by decide +kernel⟩
abbrev st_law_cell : Stmt := topS 16
abbrev ps_law_cell : List Str := ["script", "at"]
abbrev ns_law_cell : List Str := ["script", "at"]
theorem sc_law_cell : FnScope ns_law_cell ps_law_cell (defScope st_law_cell) := ⟨rfl, rfl, rfl, by decide +kernel, rfl, by decide +kernel, by decide +kernel⟩
abbrev st_law_box : Stmt := topS 17
abbrev ps_law_box : List Str := ["script", "at"]
abbrev ns_law_box : List Str := ["script", "at", "cell", "seed"]
theorem sc_law_box : FnScope ns_law_box ps_law_box (defScope st_law_box) := ⟨rfl, rfl, rfl, by decide +kernel, rfl, by decide +kernel, by decide +kernel⟩
abbrev st_law_take : Stmt := topS 18
abbrev ps_law_take : List Str := ["box", "many"]
abbrev ns_law_take : List Str := ["box", "many", "mixed", "drawn"]
theorem sc_law_take : FnScope ns_law_take ps_law_take (defScope st_law_take) := ⟨rfl, rfl, rfl, by decide +kernel, rfl, by decide +kernel, by decide +kernel⟩
abbrev st_law_text : Stmt := topS 19
abbrev ps_law_text : List Str := ["told", "due"]
abbrev ns_law_text : List Str := ["told", "due"]
theorem sc_law_text : FnScope ns_law_text ps_law_text (defScope st_law_text) := ⟨rfl, rfl, rfl, by decide +kernel, rfl, by decide +kernel, by decide +kernel⟩
abbrev st_law_image : Stmt := topS 20
abbrev ps_law_image : List Str := ["row"]
abbrev ns_law_image : List Str := ["row", "at"]
theorem sc_law_image : FnScope ns_law_image ps_law_image (defScope st_law_image) := ⟨rfl, rfl, rfl, by decide +kernel, rfl, by decide +kernel, by decide +kernel⟩
abbrev st_law_is_jump : Stmt := topS 21
abbrev ps_law_is_jump : List Str := ["before", "after", "way"]
abbrev ns_law_is_jump : List Str := ["before", "after", "way", "size", "at"]
theorem sc_law_is_jump : FnScope ns_law_is_jump ps_law_is_jump (defScope st_law_is_jump) := ⟨rfl, rfl, rfl, by decide +kernel, rfl, by decide +kernel, by decide +kernel⟩
abbrev st_law_written : Stmt := topS 22
abbrev ps_law_written : List Str := ["triple"]
abbrev ns_law_written : List Str := ["triple"]
theorem sc_law_written : FnScope ns_law_written ps_law_written (defScope st_law_written) := ⟨rfl, rfl, rfl, by decide +kernel, rfl, by decide +kernel, by decide +kernel⟩
abbrev st_law_read : Stmt := topS 23
abbrev ps_law_read : List Str := ["text"]
abbrev ns_law_read : List Str := ["text", "middle", "way"]
theorem sc_law_read : FnScope ns_law_read ps_law_read (defScope st_law_read) := ⟨rfl, rfl, rfl, by decide +kernel, rfl, by decide +kernel, by decide +kernel⟩
abbrev st_law_windows : Stmt := topS 24
abbrev ps_law_windows : List Str := ["triple"]
abbrev ns_law_windows : List Str := ["triple", "rows"]
theorem sc_law_windows : FnScope ns_law_windows ps_law_windows (defScope st_law_windows) := ⟨rfl, rfl, rfl, by decide +kernel, rfl, by decide +kernel, by decide +kernel⟩
abbrev st_law_swapped : Stmt := topS 25
abbrev ps_law_swapped : List Str := ["triple"]
abbrev ns_law_swapped : List Str := ["triple"]
theorem sc_law_swapped : FnScope ns_law_swapped ps_law_swapped (defScope st_law_swapped) := ⟨rfl, rfl, rfl, by decide +kernel, rfl, by decide +kernel, by decide +kernel⟩
abbrev st_law_good : Stmt := topS 26
abbrev ps_law_good : List Str := ["box"]
abbrev ns_law_good : List Str := ["box", "size", "before", "after", "at"]
theorem sc_law_good : FnScope ns_law_good ps_law_good (defScope st_law_good) := ⟨rfl, rfl, rfl, by decide +kernel, rfl, by decide +kernel, by decide +kernel⟩
abbrev st_law_bend : Stmt := topS 27
abbrev ps_law_bend : List Str := ["box", "text"]
abbrev ns_law_bend : List Str := ["box", "text", "menu", "deed", "at", "sign"]
theorem sc_law_bend : FnScope ns_law_bend ps_law_bend (defScope st_law_bend) := ⟨rfl, rfl, rfl, by decide +kernel, rfl, by decide +kernel, by decide +kernel⟩
abbrev st_law_loose : Stmt := topS 28
abbrev ps_law_loose : List Str := ["box", "most"]
abbrev ns_law_loose : List Str := ["box", "most", "menu", "at"]
theorem sc_law_loose : FnScope ns_law_loose ps_law_loose (defScope st_law_loose) := ⟨rfl, rfl, rfl, by decide +kernel, rfl, by decide +kernel, by decide +kernel⟩
abbrev st_law_odd_way : Stmt := topS 29
abbrev ps_law_odd_way : List Str := ["box"]
abbrev ns_law_odd_way : List Str := ["box", "odd"]
theorem sc_law_odd_way : FnScope ns_law_odd_way ps_law_odd_way (defScope st_law_odd_way) := ⟨rfl, rfl, rfl, by decide +kernel, rfl, by decide +kernel, by decide +kernel⟩
abbrev st_law_drawn : Stmt := topS 30
abbrev ps_law_drawn : List Str := ["box"]
abbrev ns_law_drawn : List Str := ["box", "shape", "before", "after", "way"]
theorem sc_law_drawn : FnScope ns_law_drawn ps_law_drawn (defScope st_law_drawn) := ⟨rfl, rfl, rfl, by decide +kernel, rfl, by decide +kernel, by decide +kernel⟩
abbrev st_law_made : Stmt := topS 31
abbrev ps_law_made : List Str := ["triple", "form"]
abbrev ns_law_made : List Str := ["triple", "form"]
theorem sc_law_made : FnScope ns_law_made ps_law_made (defScope st_law_made) := ⟨rfl, rfl, rfl, by decide +kernel, rfl, by decide +kernel, by decide +kernel⟩
abbrev st_law_shown : Stmt := topS 32
abbrev ps_law_shown : List Str := ["jump", "triple"]
abbrev ns_law_shown : List Str := ["jump", "triple"]
theorem sc_law_shown : FnScope ns_law_shown ps_law_shown (defScope st_law_shown) := ⟨rfl, rfl, rfl, by decide +kernel, rfl, by decide +kernel, by decide +kernel⟩
abbrev st_law_listed : Stmt := topS 33
abbrev ps_law_listed : List Str := ["told", "triple"]
abbrev ns_law_listed : List Str := ["told", "triple", "due", "at"]
theorem sc_law_listed : FnScope ns_law_listed ps_law_listed (defScope st_law_listed) := ⟨rfl, rfl, rfl, by decide +kernel, rfl, by decide +kernel, by decide +kernel⟩
abbrev st_law_jump_asked : Stmt := topS 34
abbrev ps_law_jump_asked : List Str := ["jump", "triple"]
abbrev ns_law_jump_asked : List Str := ["jump", "triple", "told", "image", "due"]
theorem sc_law_jump_asked : FnScope ns_law_jump_asked ps_law_jump_asked (defScope st_law_jump_asked) := ⟨rfl, rfl, rfl, by decide +kernel, rfl, by decide +kernel, by decide +kernel⟩
abbrev st_law_class_asked : Stmt := topS 35
abbrev ps_law_class_asked : List Str := ["triple", "form"]
abbrev ns_law_class_asked : List Str := ["triple", "form", "good", "raised", "jump"]
theorem sc_law_class_asked : FnScope ns_law_class_asked ps_law_class_asked (defScope st_law_class_asked) := ⟨rfl, rfl, rfl, by decide +kernel, rfl, by decide +kernel, by decide +kernel⟩
abbrev st_law_read_asked : Stmt := topS 36
abbrev ps_law_read_asked : List Str := ["text"]
abbrev ns_law_read_asked : List Str := ["text", "due", "raised", "jump"]
theorem sc_law_read_asked : FnScope ns_law_read_asked ps_law_read_asked (defScope st_law_read_asked) := ⟨rfl, rfl, rfl, by decide +kernel, rfl, by decide +kernel, by decide +kernel⟩
abbrev st_law_twins : Stmt := topS 37
abbrev ps_law_twins : List Str := ["box", "triple"]
abbrev ns_law_twins : List Str := ["box", "triple", "other", "mode", "one", "two", "at", "after", "before"]
theorem sc_law_twins : FnScope ns_law_twins ps_law_twins (defScope st_law_twins) := ⟨rfl, rfl, rfl, by decide +kernel, rfl, by decide +kernel, by decide +kernel⟩
abbrev st_law : Stmt := topS 38
abbrev ps_law : List Str := ["script"]
abbrev ns_law : List Str := ["script", "turn", "box", "triple", "text"]
theorem sc_law : FnScope ns_law ps_law (defScope st_law) := ⟨rfl, rfl, rfl, by decide +kernel, rfl, by decide +kernel, by decide +kernel⟩
def d_InvalidRow_init : He5.DefA := ⟨fun K => He.ma K (He.ga K "InvalidRow") "__init__", "__init__", "InvalidRow.__init__", defArgs st_InvalidRow_init, defBody st_InvalidRow_init, defScope st_InvalidRow_init, [], []⟩
def d_InvalidJump_init : He5.DefA := ⟨fun K => He.ma K (He.ga K "InvalidJump") "__init__", "__init__", "InvalidJump.__init__", defArgs st_InvalidJump_init, defBody st_InvalidJump_init, defScope st_InvalidJump_init, [], []⟩
def d_check_row : He5.DefA := ⟨fun K => He.ga K "check_row", "check_row", "check_row", defArgs st_check_row, defBody st_check_row, defScope st_check_row, [.str "#.:ABCDabcd"], []⟩
def d_mirror : He5.DefA := ⟨fun K => He.ga K "mirror", "mirror", "mirror", defArgs st_mirror, defBody st_mirror, defScope st_mirror, [], []⟩
def d_is_jump : He5.DefA := ⟨fun K => He.ga K "is_jump", "is_jump", "is_jump", defArgs st_is_jump, defBody st_is_jump, defScope st_is_jump, [], []⟩
def d_Jump_init : He5.DefA := ⟨fun K => He.ma K (He.ga K "Jump") "__init__", "__init__", "Jump.__init__", defArgs st_Jump_init, defBody st_Jump_init, defScope st_Jump_init, [.str "right"], []⟩
def d_Jump_windows : He5.DefA := ⟨fun K => He.ma K (He.ga K "Jump") "windows", "windows", "Jump.windows", defArgs st_Jump_windows, defBody st_Jump_windows, defScope st_Jump_windows, [], []⟩
def d_Jump_mirrored : He5.DefA := ⟨fun K => He.ma K (He.ga K "Jump") "mirrored", "mirrored", "Jump.mirrored", defArgs st_Jump_mirrored, defBody st_Jump_mirrored, defScope st_Jump_mirrored, [], []⟩
def d_Jump_eq : He5.DefA := ⟨fun K => He.ma K (He.ga K "Jump") "__eq__", "__eq__", "Jump.__eq__", defArgs st_Jump_eq, defBody st_Jump_eq, defScope st_Jump_eq, [], []⟩
def d_Jump_str : He5.DefA := ⟨fun K => He.ma K (He.ga K "Jump") "__str__", "__str__", "Jump.__str__", defArgs st_Jump_str, defBody st_Jump_str, defScope st_Jump_str, [], []⟩
def d_Jump_read : He5.DefA := ⟨fun K => He5.wf K (He.ga K "Jump") "staticmethod" "read", "read", "Jump.read", defArgs st_Jump_read, defBody st_Jump_read, defScope st_Jump_read, [], []⟩
def d_law_cell : He5.DefA := ⟨fun K => He.ga K "_law_cell", "_law_cell", "_law_cell", defArgs st_law_cell, defBody st_law_cell, defScope st_law_cell, [], []⟩
def d_law_box : He5.DefA := ⟨fun K => He.ga K "_law_box", "_law_box", "_law_box", defArgs st_law_box, defBody st_law_box, defScope st_law_box, [], []⟩
def d_law_take : He5.DefA := ⟨fun K => He.ga K "_law_take", "_law_take", "_law_take", defArgs st_law_take, defBody st_law_take, defScope st_law_take, [], []⟩
def d_law_text : He5.DefA := ⟨fun K => He.ga K "_law_text", "_law_text", "_law_text", defArgs st_law_text, defBody st_law_text, defScope st_law_text, [], []⟩
def d_law_image : He5.DefA := ⟨fun K => He.ga K "_law_image", "_law_image", "_law_image", defArgs st_law_image, defBody st_law_image, defScope st_law_image, [], []⟩
def d_law_is_jump : He5.DefA := ⟨fun K => He.ga K "_law_is_jump", "_law_is_jump", "_law_is_jump", defArgs st_law_is_jump, defBody st_law_is_jump, defScope st_law_is_jump, [], []⟩
def d_law_written : He5.DefA := ⟨fun K => He.ga K "_law_written", "_law_written", "_law_written", defArgs st_law_written, defBody st_law_written, defScope st_law_written, [], []⟩
def d_law_read : He5.DefA := ⟨fun K => He.ga K "_law_read", "_law_read", "_law_read", defArgs st_law_read, defBody st_law_read, defScope st_law_read, [], []⟩
def d_law_windows : He5.DefA := ⟨fun K => He.ga K "_law_windows", "_law_windows", "_law_windows", defArgs st_law_windows, defBody st_law_windows, defScope st_law_windows, [], []⟩
def d_law_swapped : He5.DefA := ⟨fun K => He.ga K "_law_swapped", "_law_swapped", "_law_swapped", defArgs st_law_swapped, defBody st_law_swapped, defScope st_law_swapped, [], []⟩
def d_law_good : He5.DefA := ⟨fun K => He.ga K "_law_good", "_law_good", "_law_good", defArgs st_law_good, defBody st_law_good, defScope st_law_good, [], []⟩
def d_law_bend : He5.DefA := ⟨fun K => He.ga K "_law_bend", "_law_bend", "_law_bend", defArgs st_law_bend, defBody st_law_bend, defScope st_law_bend, [], []⟩
def d_law_loose : He5.DefA := ⟨fun K => He.ga K "_law_loose", "_law_loose", "_law_loose", defArgs st_law_loose, defBody st_law_loose, defScope st_law_loose, [], []⟩
def d_law_odd_way : He5.DefA := ⟨fun K => He.ga K "_law_odd_way", "_law_odd_way", "_law_odd_way", defArgs st_law_odd_way, defBody st_law_odd_way, defScope st_law_odd_way, [], []⟩
def d_law_drawn : He5.DefA := ⟨fun K => He.ga K "_law_drawn", "_law_drawn", "_law_drawn", defArgs st_law_drawn, defBody st_law_drawn, defScope st_law_drawn, [], []⟩
def d_law_made : He5.DefA := ⟨fun K => He.ga K "_law_made", "_law_made", "_law_made", defArgs st_law_made, defBody st_law_made, defScope st_law_made, [], []⟩
def d_law_shown : He5.DefA := ⟨fun K => He.ga K "_law_shown", "_law_shown", "_law_shown", defArgs st_law_shown, defBody st_law_shown, defScope st_law_shown, [], []⟩
def d_law_listed : He5.DefA := ⟨fun K => He.ga K "_law_listed", "_law_listed", "_law_listed", defArgs st_law_listed, defBody st_law_listed, defScope st_law_listed, [], []⟩
def d_law_jump_asked : He5.DefA := ⟨fun K => He.ga K "_law_jump_asked", "_law_jump_asked", "_law_jump_asked", defArgs st_law_jump_asked, defBody st_law_jump_asked, defScope st_law_jump_asked, [], []⟩
def d_law_class_asked : He5.DefA := ⟨fun K => He.ga K "_law_class_asked", "_law_class_asked", "_law_class_asked", defArgs st_law_class_asked, defBody st_law_class_asked, defScope st_law_class_asked, [], []⟩
def d_law_read_asked : He5.DefA := ⟨fun K => He.ga K "_law_read_asked", "_law_read_asked", "_law_read_asked", defArgs st_law_read_asked, defBody st_law_read_asked, defScope st_law_read_asked, [], []⟩
def d_law_twins : He5.DefA := ⟨fun K => He.ga K "_law_twins", "_law_twins", "_law_twins", defArgs st_law_twins, defBody st_law_twins, defScope st_law_twins, [], []⟩
def d_law : He5.DefA := ⟨fun K => He.ga K "law", "law", "law", defArgs st_law, defBody st_law, defScope st_law, [], []⟩
def fn : List He5.DefA := [d_InvalidRow_init, d_InvalidJump_init, d_check_row, d_mirror, d_is_jump, d_Jump_init, d_Jump_windows, d_Jump_mirrored, d_Jump_eq, d_Jump_str, d_Jump_read, d_law_cell, d_law_box, d_law_take, d_law_text, d_law_image, d_law_is_jump, d_law_written, d_law_read, d_law_windows, d_law_swapped, d_law_good, d_law_bend, d_law_loose, d_law_odd_way, d_law_drawn, d_law_made, d_law_shown, d_law_listed, d_law_jump_asked, d_law_class_asked, d_law_read_asked, d_law_twins, d_law]
def fa : List He.Fa := [.glo "LeapError", .glo "InvalidRow", .glo "InvalidJump", .str "SIGNS" "#.:ABCDabcd", .str "KINDS" "abcd", .glo "check_row", .glo "mirror", .glo "WAY_SIGNS", .glo "SIGN_WAYS", .glo "OTHER_WAYS", .glo "is_jump", .glo "Jump", .glo "_law_cell", .glo "_law_box", .glo "_law_take", .glo "_law_text", .glo "_law_image", .glo "_law_is_jump", .glo "_law_written", .glo "_law_read", .glo "_law_windows", .glo "_law_swapped", .glo "_law_good", .glo "_law_bend", .glo "_law_loose", .glo "_law_odd_way", .glo "_law_drawn", .glo "_law_made", .glo "_law_shown", .glo "_law_listed", .glo "_law_jump_asked", .glo "_law_class_asked", .glo "_law_read_asked", .glo "_law_twins", .glo "law", .cls "Jump", .mkr "Jump", .noat "Jump" "before", .noat "Jump" "after", .noat "Jump" "ways", .meth "Jump" "windows", .meth "Jump" "mirrored", .meth "Jump" "__eq__", .meth "Jump" "__str__", .free "len", .free "range", .free "min", .free "sum", .free "int", .free "str", .free "list", .free "tuple", .free "isinstance", .free "any", .free "all", .free "ValueError"]
def ts : List He.Tab := [(fun K => He.ga K "WAY_SIGNS", ["right", "left", "both"]), (fun K => He.ga K "SIGN_WAYS", [">", "<", "="]), (fun K => He.ga K "OTHER_WAYS", ["right", "left", "both"])]
def exs (K : PySem.W.Frag) : List Bool := [topB K, errB K "InvalidRow" "row", errB K "InvalidJump" "text", kitB K "InvalidRow" "InvalidRow" true, kitB K "InvalidRow" "InvalidJump" false, kitB K "InvalidRow" "Jump" false, kitB K "InvalidJump" "InvalidRow" false, kitB K "InvalidJump" "InvalidJump" true, kitB K "InvalidJump" "Jump" false, kitB K "Jump" "Jump" true, He.valsB K (He.ga K "WAY_SIGNS") [("right", .str ">"), ("left", .str "<"), ("both", .str "=")], He.valsB K (He.ga K "SIGN_WAYS") [(">", .str "right"), ("<", .str "left"), ("=", .str "both")], He.valsB K (He.ga K "OTHER_WAYS") [("right", .str "left"), ("left", .str "right"), ("both", .str "both")], clsB K "Jump", smB K "Jump" "read"]
def ex (K : PySem.W.Frag) : Bool := (exs K).all id
def names0 : List PySem.Str := ["LeapError", "InvalidRow", "InvalidJump", "SIGNS", "KINDS", "check_row", "mirror", "WAY_SIGNS", "SIGN_WAYS", "OTHER_WAYS", "is_jump", "Jump", "_law_cell", "_law_box"]
def names1 : List PySem.Str := ["_law_take", "_law_text", "_law_image", "_law_is_jump", "_law_written", "_law_read", "_law_windows", "_law_swapped", "_law_good", "_law_bend", "_law_loose", "_law_odd_way", "_law_drawn", "_law_made"]
def names2 : List PySem.Str := ["_law_shown", "_law_listed", "_law_jump_asked", "_law_class_asked", "_law_read_asked", "_law_twins"]
def names : List PySem.Str := names0 ++ names1 ++ names2
abbrev hk : PySem.W.Hook := hookM 5 fa fn ts ex
def ob (s : PySem.W.SharedT) : AlE := obsEG 5 fa fn ts ex (HandSHeadRun.getT s)
theorem ob_eq (s : PySem.W.SharedT) : ob s = hk.obs s.abs := obsEG_eq (HandSHeadRun.getT_eq s)
theorem run0 (w : World) : HandSHeadRun.RunEq R (PySem.W.view R.prog [38]) hk ob 6000 names (w.withFollow "special-get-raises" false) := by
  intro os
  kernel_rfl
theorem run1 (w : World) : HandSHeadRun.RunEq R (PySem.W.view R.prog [38]) hk ob 6000 names (w.withFollow "special-get-raises" true) := by
  intro os
  kernel_rfl
theorem run (w : World) : HandSHeadRun.RunEq R (PySem.W.view R.prog [38]) hk ob 6000 names w := PySem.W.byRow2 "special-get-raises" (P := fun w => HandSHeadRun.RunEq R (PySem.W.view R.prog [38]) hk ob 6000 names w) run0 run1 w
end K03
namespace K03
open PySem PySem.Spec PyProof.Rows L2 Lc
structure Tx (K : PySem.W.Frag) (mg : Str → Option Value) (w : World) : Prop where
  mk ::
  h : ∃ hp : Heap, K.In hp ∧ hp.Ns mainGlobals mg
  c : SaysM fa fn ts ex w K
section
variable {K : PySem.W.Frag} {mg : Str → Option Value} {w : World}
theorem m_LeapError (T : Tx K mg w) : mg "LeapError" = some (.ref (He.ga K "LeapError")) := by obtain ⟨⟨hp, X, G⟩, c⟩ := T; exact He.glo_ok X G (c.a.fact 0 (f := .glo "LeapError") rfl)
theorem m_InvalidRow (T : Tx K mg w) : mg "InvalidRow" = some (.ref (He.ga K "InvalidRow")) := by obtain ⟨⟨hp, X, G⟩, c⟩ := T; exact He.glo_ok X G (c.a.fact 1 (f := .glo "InvalidRow") rfl)
theorem m_InvalidJump (T : Tx K mg w) : mg "InvalidJump" = some (.ref (He.ga K "InvalidJump")) := by obtain ⟨⟨hp, X, G⟩, c⟩ := T; exact He.glo_ok X G (c.a.fact 2 (f := .glo "InvalidJump") rfl)
theorem m_SIGNS (T : Tx K mg w) : ∃ t, mg "SIGNS" = some (.str "#.:ABCDabcd" t) := by obtain ⟨⟨hp, X, G⟩, c⟩ := T; exact He.str_ok X G (c.a.fact 3 (f := .str "SIGNS" "#.:ABCDabcd") rfl)
theorem m_KINDS (T : Tx K mg w) : ∃ t, mg "KINDS" = some (.str "abcd" t) := by obtain ⟨⟨hp, X, G⟩, c⟩ := T; exact He.str_ok X G (c.a.fact 4 (f := .str "KINDS" "abcd") rfl)
theorem m_check_row (T : Tx K mg w) : mg "check_row" = some (.ref (He.ga K "check_row")) := by obtain ⟨⟨hp, X, G⟩, c⟩ := T; exact He.glo_ok X G (c.a.fact 5 (f := .glo "check_row") rfl)
theorem m_mirror (T : Tx K mg w) : mg "mirror" = some (.ref (He.ga K "mirror")) := by obtain ⟨⟨hp, X, G⟩, c⟩ := T; exact He.glo_ok X G (c.a.fact 6 (f := .glo "mirror") rfl)
theorem m_WAY_SIGNS (T : Tx K mg w) : mg "WAY_SIGNS" = some (.ref (He.ga K "WAY_SIGNS")) := by obtain ⟨⟨hp, X, G⟩, c⟩ := T; exact He.glo_ok X G (c.a.fact 7 (f := .glo "WAY_SIGNS") rfl)
theorem m_SIGN_WAYS (T : Tx K mg w) : mg "SIGN_WAYS" = some (.ref (He.ga K "SIGN_WAYS")) := by obtain ⟨⟨hp, X, G⟩, c⟩ := T; exact He.glo_ok X G (c.a.fact 8 (f := .glo "SIGN_WAYS") rfl)
theorem m_OTHER_WAYS (T : Tx K mg w) : mg "OTHER_WAYS" = some (.ref (He.ga K "OTHER_WAYS")) := by obtain ⟨⟨hp, X, G⟩, c⟩ := T; exact He.glo_ok X G (c.a.fact 9 (f := .glo "OTHER_WAYS") rfl)
theorem m_is_jump (T : Tx K mg w) : mg "is_jump" = some (.ref (He.ga K "is_jump")) := by obtain ⟨⟨hp, X, G⟩, c⟩ := T; exact He.glo_ok X G (c.a.fact 10 (f := .glo "is_jump") rfl)
theorem m_Jump (T : Tx K mg w) : mg "Jump" = some (.ref (He.ga K "Jump")) := by obtain ⟨⟨hp, X, G⟩, c⟩ := T; exact He.glo_ok X G (c.a.fact 11 (f := .glo "Jump") rfl)
theorem m_law_cell (T : Tx K mg w) : mg "_law_cell" = some (.ref (He.ga K "_law_cell")) := by obtain ⟨⟨hp, X, G⟩, c⟩ := T; exact He.glo_ok X G (c.a.fact 12 (f := .glo "_law_cell") rfl)
theorem m_law_box (T : Tx K mg w) : mg "_law_box" = some (.ref (He.ga K "_law_box")) := by obtain ⟨⟨hp, X, G⟩, c⟩ := T; exact He.glo_ok X G (c.a.fact 13 (f := .glo "_law_box") rfl)
theorem m_law_take (T : Tx K mg w) : mg "_law_take" = some (.ref (He.ga K "_law_take")) := by obtain ⟨⟨hp, X, G⟩, c⟩ := T; exact He.glo_ok X G (c.a.fact 14 (f := .glo "_law_take") rfl)
theorem m_law_text (T : Tx K mg w) : mg "_law_text" = some (.ref (He.ga K "_law_text")) := by obtain ⟨⟨hp, X, G⟩, c⟩ := T; exact He.glo_ok X G (c.a.fact 15 (f := .glo "_law_text") rfl)
theorem m_law_image (T : Tx K mg w) : mg "_law_image" = some (.ref (He.ga K "_law_image")) := by obtain ⟨⟨hp, X, G⟩, c⟩ := T; exact He.glo_ok X G (c.a.fact 16 (f := .glo "_law_image") rfl)
theorem m_law_is_jump (T : Tx K mg w) : mg "_law_is_jump" = some (.ref (He.ga K "_law_is_jump")) := by obtain ⟨⟨hp, X, G⟩, c⟩ := T; exact He.glo_ok X G (c.a.fact 17 (f := .glo "_law_is_jump") rfl)
theorem m_law_written (T : Tx K mg w) : mg "_law_written" = some (.ref (He.ga K "_law_written")) := by obtain ⟨⟨hp, X, G⟩, c⟩ := T; exact He.glo_ok X G (c.a.fact 18 (f := .glo "_law_written") rfl)
theorem m_law_read (T : Tx K mg w) : mg "_law_read" = some (.ref (He.ga K "_law_read")) := by obtain ⟨⟨hp, X, G⟩, c⟩ := T; exact He.glo_ok X G (c.a.fact 19 (f := .glo "_law_read") rfl)
theorem m_law_windows (T : Tx K mg w) : mg "_law_windows" = some (.ref (He.ga K "_law_windows")) := by obtain ⟨⟨hp, X, G⟩, c⟩ := T; exact He.glo_ok X G (c.a.fact 20 (f := .glo "_law_windows") rfl)
theorem m_law_swapped (T : Tx K mg w) : mg "_law_swapped" = some (.ref (He.ga K "_law_swapped")) := by obtain ⟨⟨hp, X, G⟩, c⟩ := T; exact He.glo_ok X G (c.a.fact 21 (f := .glo "_law_swapped") rfl)
theorem m_law_good (T : Tx K mg w) : mg "_law_good" = some (.ref (He.ga K "_law_good")) := by obtain ⟨⟨hp, X, G⟩, c⟩ := T; exact He.glo_ok X G (c.a.fact 22 (f := .glo "_law_good") rfl)
theorem m_law_bend (T : Tx K mg w) : mg "_law_bend" = some (.ref (He.ga K "_law_bend")) := by obtain ⟨⟨hp, X, G⟩, c⟩ := T; exact He.glo_ok X G (c.a.fact 23 (f := .glo "_law_bend") rfl)
theorem m_law_loose (T : Tx K mg w) : mg "_law_loose" = some (.ref (He.ga K "_law_loose")) := by obtain ⟨⟨hp, X, G⟩, c⟩ := T; exact He.glo_ok X G (c.a.fact 24 (f := .glo "_law_loose") rfl)
theorem m_law_odd_way (T : Tx K mg w) : mg "_law_odd_way" = some (.ref (He.ga K "_law_odd_way")) := by obtain ⟨⟨hp, X, G⟩, c⟩ := T; exact He.glo_ok X G (c.a.fact 25 (f := .glo "_law_odd_way") rfl)
theorem m_law_drawn (T : Tx K mg w) : mg "_law_drawn" = some (.ref (He.ga K "_law_drawn")) := by obtain ⟨⟨hp, X, G⟩, c⟩ := T; exact He.glo_ok X G (c.a.fact 26 (f := .glo "_law_drawn") rfl)
theorem m_law_made (T : Tx K mg w) : mg "_law_made" = some (.ref (He.ga K "_law_made")) := by obtain ⟨⟨hp, X, G⟩, c⟩ := T; exact He.glo_ok X G (c.a.fact 27 (f := .glo "_law_made") rfl)
theorem m_law_shown (T : Tx K mg w) : mg "_law_shown" = some (.ref (He.ga K "_law_shown")) := by obtain ⟨⟨hp, X, G⟩, c⟩ := T; exact He.glo_ok X G (c.a.fact 28 (f := .glo "_law_shown") rfl)
theorem m_law_listed (T : Tx K mg w) : mg "_law_listed" = some (.ref (He.ga K "_law_listed")) := by obtain ⟨⟨hp, X, G⟩, c⟩ := T; exact He.glo_ok X G (c.a.fact 29 (f := .glo "_law_listed") rfl)
theorem m_law_jump_asked (T : Tx K mg w) : mg "_law_jump_asked" = some (.ref (He.ga K "_law_jump_asked")) := by obtain ⟨⟨hp, X, G⟩, c⟩ := T; exact He.glo_ok X G (c.a.fact 30 (f := .glo "_law_jump_asked") rfl)
theorem m_law_class_asked (T : Tx K mg w) : mg "_law_class_asked" = some (.ref (He.ga K "_law_class_asked")) := by obtain ⟨⟨hp, X, G⟩, c⟩ := T; exact He.glo_ok X G (c.a.fact 31 (f := .glo "_law_class_asked") rfl)
theorem m_law_read_asked (T : Tx K mg w) : mg "_law_read_asked" = some (.ref (He.ga K "_law_read_asked")) := by obtain ⟨⟨hp, X, G⟩, c⟩ := T; exact He.glo_ok X G (c.a.fact 32 (f := .glo "_law_read_asked") rfl)
theorem m_law_twins (T : Tx K mg w) : mg "_law_twins" = some (.ref (He.ga K "_law_twins")) := by obtain ⟨⟨hp, X, G⟩, c⟩ := T; exact He.glo_ok X G (c.a.fact 33 (f := .glo "_law_twins") rfl)
theorem m_law (T : Tx K mg w) : mg "law" = some (.ref (He.ga K "law")) := by obtain ⟨⟨hp, X, G⟩, c⟩ := T; exact He.glo_ok X G (c.a.fact 34 (f := .glo "law") rfl)
theorem c_Jump (T : Tx K mg w) : Cls K (He.ga K "Jump") := He.cls_ok (T.c.a.fact 35 (f := .cls "Jump") rfl)
theorem mk_Jump (T : Tx K mg w) : Mk K (He.ga K "Jump") (He.ma K (He.ga K "Jump") "__init__") := He.mkr_ok (T.c.a.fact 36 (f := .mkr "Jump") rfl)
theorem n_Jump_before (T : Tx K mg w) : NoAttr K (He.ga K "Jump") "before" := He.noat_ok (T.c.a.fact 37 (f := .noat "Jump" "before") rfl)
theorem n_Jump_after (T : Tx K mg w) : NoAttr K (He.ga K "Jump") "after" := He.noat_ok (T.c.a.fact 38 (f := .noat "Jump" "after") rfl)
theorem n_Jump_ways (T : Tx K mg w) : NoAttr K (He.ga K "Jump") "ways" := He.noat_ok (T.c.a.fact 39 (f := .noat "Jump" "ways") rfl)
theorem me_Jump_windows (T : Tx K mg w) : Meth K (He.ga K "Jump") "windows" (He.ma K (He.ga K "Jump") "windows") := He.meth_ok (T.c.a.fact 40 (f := .meth "Jump" "windows") rfl)
theorem me_Jump_mirrored (T : Tx K mg w) : Meth K (He.ga K "Jump") "mirrored" (He.ma K (He.ga K "Jump") "mirrored") := He.meth_ok (T.c.a.fact 41 (f := .meth "Jump" "mirrored") rfl)
theorem me_Jump_eq (T : Tx K mg w) : Meth K (He.ga K "Jump") "__eq__" (He.ma K (He.ga K "Jump") "__eq__") := He.meth_ok (T.c.a.fact 42 (f := .meth "Jump" "__eq__") rfl)
theorem me_Jump_str (T : Tx K mg w) : Meth K (He.ga K "Jump") "__str__" (He.ma K (He.ga K "Jump") "__str__") := He.meth_ok (T.c.a.fact 43 (f := .meth "Jump" "__str__") rfl)
theorem m_len (T : Tx K mg w) : mg "len" = none := by obtain ⟨⟨hp, X, G⟩, c⟩ := T; exact He.free_ok X G (c.a.fact 44 (f := .free "len") rfl)
theorem m_range (T : Tx K mg w) : mg "range" = none := by obtain ⟨⟨hp, X, G⟩, c⟩ := T; exact He.free_ok X G (c.a.fact 45 (f := .free "range") rfl)
theorem m_min (T : Tx K mg w) : mg "min" = none := by obtain ⟨⟨hp, X, G⟩, c⟩ := T; exact He.free_ok X G (c.a.fact 46 (f := .free "min") rfl)
theorem m_sum (T : Tx K mg w) : mg "sum" = none := by obtain ⟨⟨hp, X, G⟩, c⟩ := T; exact He.free_ok X G (c.a.fact 47 (f := .free "sum") rfl)
theorem m_int (T : Tx K mg w) : mg "int" = none := by obtain ⟨⟨hp, X, G⟩, c⟩ := T; exact He.free_ok X G (c.a.fact 48 (f := .free "int") rfl)
theorem m_str (T : Tx K mg w) : mg "str" = none := by obtain ⟨⟨hp, X, G⟩, c⟩ := T; exact He.free_ok X G (c.a.fact 49 (f := .free "str") rfl)
theorem m_list (T : Tx K mg w) : mg "list" = none := by obtain ⟨⟨hp, X, G⟩, c⟩ := T; exact He.free_ok X G (c.a.fact 50 (f := .free "list") rfl)
theorem m_tuple (T : Tx K mg w) : mg "tuple" = none := by obtain ⟨⟨hp, X, G⟩, c⟩ := T; exact He.free_ok X G (c.a.fact 51 (f := .free "tuple") rfl)
theorem m_isinstance (T : Tx K mg w) : mg "isinstance" = none := by obtain ⟨⟨hp, X, G⟩, c⟩ := T; exact He.free_ok X G (c.a.fact 52 (f := .free "isinstance") rfl)
theorem m_any (T : Tx K mg w) : mg "any" = none := by obtain ⟨⟨hp, X, G⟩, c⟩ := T; exact He.free_ok X G (c.a.fact 53 (f := .free "any") rfl)
theorem m_all (T : Tx K mg w) : mg "all" = none := by obtain ⟨⟨hp, X, G⟩, c⟩ := T; exact He.free_ok X G (c.a.fact 54 (f := .free "all") rfl)
theorem m_ValueError (T : Tx K mg w) : mg "ValueError" = none := by obtain ⟨⟨hp, X, G⟩, c⟩ := T; exact He.free_ok X G (c.a.fact 55 (f := .free "ValueError") rfl)
theorem exAt (T : Tx K mg w) (i : Nat) {b : Bool} (h : (exs K)[i]? = some b) : b = true := List.all_eq_true.mp T.c.e b (List.mem_of_getElem? h)
theorem x_InvalidRow (T : Tx K mg w) : XF K "InvalidRow" "row" := errB_ok (exAt T 0 rfl) (exAt T 1 rfl)
theorem x_InvalidJump (T : Tx K mg w) : XF K "InvalidJump" "text" := errB_ok (exAt T 0 rfl) (exAt T 2 rfl)
theorem kit_InvalidRow_InvalidRow (T : Tx K mg w) : PySem.W.kitOne K (.ref (He.ga K "InvalidRow")) (.ref (He.ga K "InvalidRow")) = some true := kitB_ok (exAt T 3 rfl)
theorem kit_InvalidRow_InvalidJump (T : Tx K mg w) : PySem.W.kitOne K (.ref (He.ga K "InvalidRow")) (.ref (He.ga K "InvalidJump")) = some false := kitB_ok (exAt T 4 rfl)
theorem kit_InvalidRow_Jump (T : Tx K mg w) : PySem.W.kitOne K (.ref (He.ga K "InvalidRow")) (.ref (He.ga K "Jump")) = some false := kitB_ok (exAt T 5 rfl)
theorem kit_InvalidJump_InvalidRow (T : Tx K mg w) : PySem.W.kitOne K (.ref (He.ga K "InvalidJump")) (.ref (He.ga K "InvalidRow")) = some false := kitB_ok (exAt T 6 rfl)
theorem kit_InvalidJump_InvalidJump (T : Tx K mg w) : PySem.W.kitOne K (.ref (He.ga K "InvalidJump")) (.ref (He.ga K "InvalidJump")) = some true := kitB_ok (exAt T 7 rfl)
theorem kit_InvalidJump_Jump (T : Tx K mg w) : PySem.W.kitOne K (.ref (He.ga K "InvalidJump")) (.ref (He.ga K "Jump")) = some false := kitB_ok (exAt T 8 rfl)
theorem kit_Jump_Jump (T : Tx K mg w) : PySem.W.kitOne K (.ref (He.ga K "Jump")) (.ref (He.ga K "Jump")) = some true := kitB_ok (exAt T 9 rfl)
theorem t_WAY_SIGNS (T : Tx K mg w) : ∃ es n, KDict K w (He.ga K "WAY_SIGNS") es n := T.c.tab 0 rfl
theorem v_WAY_SIGNS (T : Tx K mg w) : He.valsB K (He.ga K "WAY_SIGNS") [("right", .str ">"), ("left", .str "<"), ("both", .str "=")] = true := exAt T 10 rfl
theorem no_WAY_SIGNS (T : Tx K mg w) {z : Str} (h : z ∉ (["right", "left", "both"] : List Str)) : PySem.W.nsIn K (He.ga K "WAY_SIGNS") z = some none := T.c.tab_no 0 rfl h
theorem t_SIGN_WAYS (T : Tx K mg w) : ∃ es n, KDict K w (He.ga K "SIGN_WAYS") es n := T.c.tab 1 rfl
theorem v_SIGN_WAYS (T : Tx K mg w) : He.valsB K (He.ga K "SIGN_WAYS") [(">", .str "right"), ("<", .str "left"), ("=", .str "both")] = true := exAt T 11 rfl
theorem no_SIGN_WAYS (T : Tx K mg w) {z : Str} (h : z ∉ ([">", "<", "="] : List Str)) : PySem.W.nsIn K (He.ga K "SIGN_WAYS") z = some none := T.c.tab_no 1 rfl h
theorem t_OTHER_WAYS (T : Tx K mg w) : ∃ es n, KDict K w (He.ga K "OTHER_WAYS") es n := T.c.tab 2 rfl
theorem v_OTHER_WAYS (T : Tx K mg w) : He.valsB K (He.ga K "OTHER_WAYS") [("right", .str "left"), ("left", .str "right"), ("both", .str "both")] = true := exAt T 12 rfl
theorem no_OTHER_WAYS (T : Tx K mg w) {z : Str} (h : z ∉ (["right", "left", "both"] : List Str)) : PySem.W.nsIn K (He.ga K "OTHER_WAYS") z = some none := T.c.tab_no 2 rfl h
theorem cr_Jump (T : Tx K mg w) : ClX.CRead K (He.ga K "Jump") (.type "type") := clsB_ok (exAt T 13 rfl)
theorem sm_Jump_read (T : Tx K mg w) : SMet K (He.ga K "Jump") (.type "type") "read" (He.ma K (He.ga K "Jump") "read") (He5.wf K (He.ga K "Jump") "staticmethod" "read") := smB_ok (exAt T 14 rfl)
theorem h_InvalidRow_init (T : Tx K mg w) : HasD K d_InvalidRow_init := has_of T.c.a 0 rfl
theorem k_InvalidRow_init (T : Tx K mg w) : PySem.W.keepIn K (.ref (d_InvalidRow_init.at_ K)) = true := (h_InvalidRow_init T).kp
theorem b_InvalidRow_init (T : Tx K mg w) : Binds K (fdOf K (d_InvalidRow_init.at_ K)) ps_InvalidRow_init [] := FunD.bindsN (ps := ps_InvalidRow_init) (h_InvalidRow_init T) fun _ _ _ _ _ _ us hl => match us, hl with | [_, _], _ => rfl
theorem h_InvalidJump_init (T : Tx K mg w) : HasD K d_InvalidJump_init := has_of T.c.a 1 rfl
theorem k_InvalidJump_init (T : Tx K mg w) : PySem.W.keepIn K (.ref (d_InvalidJump_init.at_ K)) = true := (h_InvalidJump_init T).kp
theorem b_InvalidJump_init (T : Tx K mg w) : Binds K (fdOf K (d_InvalidJump_init.at_ K)) ps_InvalidJump_init [] := FunD.bindsN (ps := ps_InvalidJump_init) (h_InvalidJump_init T) fun _ _ _ _ _ _ us hl => match us, hl with | [_, _], _ => rfl
theorem h_check_row (T : Tx K mg w) : HasD K d_check_row := has_of T.c.a 2 rfl
theorem k_check_row (T : Tx K mg w) : PySem.W.keepIn K (.ref (d_check_row.at_ K)) = true := (h_check_row T).kp
-- b_check_row: by hand
theorem h_mirror (T : Tx K mg w) : HasD K d_mirror := has_of T.c.a 3 rfl
theorem k_mirror (T : Tx K mg w) : PySem.W.keepIn K (.ref (d_mirror.at_ K)) = true := (h_mirror T).kp
theorem b_mirror (T : Tx K mg w) : Binds K (fdOf K (d_mirror.at_ K)) ps_mirror [] := FunD.bindsN (ps := ps_mirror) (h_mirror T) fun _ _ _ _ _ _ us hl => match us, hl with | [_], _ => rfl
theorem h_is_jump (T : Tx K mg w) : HasD K d_is_jump := has_of T.c.a 4 rfl
theorem k_is_jump (T : Tx K mg w) : PySem.W.keepIn K (.ref (d_is_jump.at_ K)) = true := (h_is_jump T).kp
theorem b_is_jump (T : Tx K mg w) : Binds K (fdOf K (d_is_jump.at_ K)) ps_is_jump [] := FunD.bindsN (ps := ps_is_jump) (h_is_jump T) fun _ _ _ _ _ _ us hl => match us, hl with | [_, _, _], _ => rfl
theorem h_Jump_init (T : Tx K mg w) : HasD K d_Jump_init := has_of T.c.a 5 rfl
theorem k_Jump_init (T : Tx K mg w) : PySem.W.keepIn K (.ref (d_Jump_init.at_ K)) = true := (h_Jump_init T).kp
-- b_Jump_init: by hand
theorem h_Jump_windows (T : Tx K mg w) : HasD K d_Jump_windows := has_of T.c.a 6 rfl
theorem k_Jump_windows (T : Tx K mg w) : PySem.W.keepIn K (.ref (d_Jump_windows.at_ K)) = true := (h_Jump_windows T).kp
theorem b_Jump_windows (T : Tx K mg w) : Binds K (fdOf K (d_Jump_windows.at_ K)) ps_Jump_windows [] := FunD.bindsN (ps := ps_Jump_windows) (h_Jump_windows T) fun _ _ _ _ _ _ us hl => match us, hl with | [_], _ => rfl
theorem h_Jump_mirrored (T : Tx K mg w) : HasD K d_Jump_mirrored := has_of T.c.a 7 rfl
theorem k_Jump_mirrored (T : Tx K mg w) : PySem.W.keepIn K (.ref (d_Jump_mirrored.at_ K)) = true := (h_Jump_mirrored T).kp
theorem b_Jump_mirrored (T : Tx K mg w) : Binds K (fdOf K (d_Jump_mirrored.at_ K)) ps_Jump_mirrored [] := FunD.bindsN (ps := ps_Jump_mirrored) (h_Jump_mirrored T) fun _ _ _ _ _ _ us hl => match us, hl with | [_], _ => rfl
theorem h_Jump_eq (T : Tx K mg w) : HasD K d_Jump_eq := has_of T.c.a 8 rfl
theorem k_Jump_eq (T : Tx K mg w) : PySem.W.keepIn K (.ref (d_Jump_eq.at_ K)) = true := (h_Jump_eq T).kp
theorem b_Jump_eq (T : Tx K mg w) : Binds K (fdOf K (d_Jump_eq.at_ K)) ps_Jump_eq [] := FunD.bindsN (ps := ps_Jump_eq) (h_Jump_eq T) fun _ _ _ _ _ _ us hl => match us, hl with | [_, _], _ => rfl
theorem h_Jump_str (T : Tx K mg w) : HasD K d_Jump_str := has_of T.c.a 9 rfl
theorem k_Jump_str (T : Tx K mg w) : PySem.W.keepIn K (.ref (d_Jump_str.at_ K)) = true := (h_Jump_str T).kp
theorem b_Jump_str (T : Tx K mg w) : Binds K (fdOf K (d_Jump_str.at_ K)) ps_Jump_str [] := FunD.bindsN (ps := ps_Jump_str) (h_Jump_str T) fun _ _ _ _ _ _ us hl => match us, hl with | [_], _ => rfl
theorem h_Jump_read (T : Tx K mg w) : HasD K d_Jump_read := has_of T.c.a 10 rfl
theorem k_Jump_read (T : Tx K mg w) : PySem.W.keepIn K (.ref (d_Jump_read.at_ K)) = true := (h_Jump_read T).kp
theorem b_Jump_read (T : Tx K mg w) : Binds K (fdOf K (d_Jump_read.at_ K)) ps_Jump_read [] := FunD.bindsN (ps := ps_Jump_read) (h_Jump_read T) fun _ _ _ _ _ _ us hl => match us, hl with | [_], _ => rfl
theorem h_law_cell (T : Tx K mg w) : HasD K d_law_cell := has_of T.c.a 11 rfl
theorem k_law_cell (T : Tx K mg w) : PySem.W.keepIn K (.ref (d_law_cell.at_ K)) = true := (h_law_cell T).kp
theorem b_law_cell (T : Tx K mg w) : Binds K (fdOf K (d_law_cell.at_ K)) ps_law_cell [] := FunD.bindsN (ps := ps_law_cell) (h_law_cell T) fun _ _ _ _ _ _ us hl => match us, hl with | [_, _], _ => rfl
theorem h_law_box (T : Tx K mg w) : HasD K d_law_box := has_of T.c.a 12 rfl
theorem k_law_box (T : Tx K mg w) : PySem.W.keepIn K (.ref (d_law_box.at_ K)) = true := (h_law_box T).kp
theorem b_law_box (T : Tx K mg w) : Binds K (fdOf K (d_law_box.at_ K)) ps_law_box [] := FunD.bindsN (ps := ps_law_box) (h_law_box T) fun _ _ _ _ _ _ us hl => match us, hl with | [_, _], _ => rfl
theorem h_law_take (T : Tx K mg w) : HasD K d_law_take := has_of T.c.a 13 rfl
theorem k_law_take (T : Tx K mg w) : PySem.W.keepIn K (.ref (d_law_take.at_ K)) = true := (h_law_take T).kp
theorem b_law_take (T : Tx K mg w) : Binds K (fdOf K (d_law_take.at_ K)) ps_law_take [] := FunD.bindsN (ps := ps_law_take) (h_law_take T) fun _ _ _ _ _ _ us hl => match us, hl with | [_, _], _ => rfl
theorem h_law_text (T : Tx K mg w) : HasD K d_law_text := has_of T.c.a 14 rfl
theorem k_law_text (T : Tx K mg w) : PySem.W.keepIn K (.ref (d_law_text.at_ K)) = true := (h_law_text T).kp
theorem b_law_text (T : Tx K mg w) : Binds K (fdOf K (d_law_text.at_ K)) ps_law_text [] := FunD.bindsN (ps := ps_law_text) (h_law_text T) fun _ _ _ _ _ _ us hl => match us, hl with | [_, _], _ => rfl
theorem h_law_image (T : Tx K mg w) : HasD K d_law_image := has_of T.c.a 15 rfl
theorem k_law_image (T : Tx K mg w) : PySem.W.keepIn K (.ref (d_law_image.at_ K)) = true := (h_law_image T).kp
theorem b_law_image (T : Tx K mg w) : Binds K (fdOf K (d_law_image.at_ K)) ps_law_image [] := FunD.bindsN (ps := ps_law_image) (h_law_image T) fun _ _ _ _ _ _ us hl => match us, hl with | [_], _ => rfl
theorem h_law_is_jump (T : Tx K mg w) : HasD K d_law_is_jump := has_of T.c.a 16 rfl
theorem k_law_is_jump (T : Tx K mg w) : PySem.W.keepIn K (.ref (d_law_is_jump.at_ K)) = true := (h_law_is_jump T).kp
theorem b_law_is_jump (T : Tx K mg w) : Binds K (fdOf K (d_law_is_jump.at_ K)) ps_law_is_jump [] := FunD.bindsN (ps := ps_law_is_jump) (h_law_is_jump T) fun _ _ _ _ _ _ us hl => match us, hl with | [_, _, _], _ => rfl
theorem h_law_written (T : Tx K mg w) : HasD K d_law_written := has_of T.c.a 17 rfl
theorem k_law_written (T : Tx K mg w) : PySem.W.keepIn K (.ref (d_law_written.at_ K)) = true := (h_law_written T).kp
theorem b_law_written (T : Tx K mg w) : Binds K (fdOf K (d_law_written.at_ K)) ps_law_written [] := FunD.bindsN (ps := ps_law_written) (h_law_written T) fun _ _ _ _ _ _ us hl => match us, hl with | [_], _ => rfl
theorem h_law_read (T : Tx K mg w) : HasD K d_law_read := has_of T.c.a 18 rfl
theorem k_law_read (T : Tx K mg w) : PySem.W.keepIn K (.ref (d_law_read.at_ K)) = true := (h_law_read T).kp
theorem b_law_read (T : Tx K mg w) : Binds K (fdOf K (d_law_read.at_ K)) ps_law_read [] := FunD.bindsN (ps := ps_law_read) (h_law_read T) fun _ _ _ _ _ _ us hl => match us, hl with | [_], _ => rfl
theorem h_law_windows (T : Tx K mg w) : HasD K d_law_windows := has_of T.c.a 19 rfl
theorem k_law_windows (T : Tx K mg w) : PySem.W.keepIn K (.ref (d_law_windows.at_ K)) = true := (h_law_windows T).kp
theorem b_law_windows (T : Tx K mg w) : Binds K (fdOf K (d_law_windows.at_ K)) ps_law_windows [] := FunD.bindsN (ps := ps_law_windows) (h_law_windows T) fun _ _ _ _ _ _ us hl => match us, hl with | [_], _ => rfl
theorem h_law_swapped (T : Tx K mg w) : HasD K d_law_swapped := has_of T.c.a 20 rfl
theorem k_law_swapped (T : Tx K mg w) : PySem.W.keepIn K (.ref (d_law_swapped.at_ K)) = true := (h_law_swapped T).kp
theorem b_law_swapped (T : Tx K mg w) : Binds K (fdOf K (d_law_swapped.at_ K)) ps_law_swapped [] := FunD.bindsN (ps := ps_law_swapped) (h_law_swapped T) fun _ _ _ _ _ _ us hl => match us, hl with | [_], _ => rfl
theorem h_law_good (T : Tx K mg w) : HasD K d_law_good := has_of T.c.a 21 rfl
theorem k_law_good (T : Tx K mg w) : PySem.W.keepIn K (.ref (d_law_good.at_ K)) = true := (h_law_good T).kp
theorem b_law_good (T : Tx K mg w) : Binds K (fdOf K (d_law_good.at_ K)) ps_law_good [] := FunD.bindsN (ps := ps_law_good) (h_law_good T) fun _ _ _ _ _ _ us hl => match us, hl with | [_], _ => rfl
theorem h_law_bend (T : Tx K mg w) : HasD K d_law_bend := has_of T.c.a 22 rfl
theorem k_law_bend (T : Tx K mg w) : PySem.W.keepIn K (.ref (d_law_bend.at_ K)) = true := (h_law_bend T).kp
theorem b_law_bend (T : Tx K mg w) : Binds K (fdOf K (d_law_bend.at_ K)) ps_law_bend [] := FunD.bindsN (ps := ps_law_bend) (h_law_bend T) fun _ _ _ _ _ _ us hl => match us, hl with | [_, _], _ => rfl
theorem h_law_loose (T : Tx K mg w) : HasD K d_law_loose := has_of T.c.a 23 rfl
theorem k_law_loose (T : Tx K mg w) : PySem.W.keepIn K (.ref (d_law_loose.at_ K)) = true := (h_law_loose T).kp
theorem b_law_loose (T : Tx K mg w) : Binds K (fdOf K (d_law_loose.at_ K)) ps_law_loose [] := FunD.bindsN (ps := ps_law_loose) (h_law_loose T) fun _ _ _ _ _ _ us hl => match us, hl with | [_, _], _ => rfl
theorem h_law_odd_way (T : Tx K mg w) : HasD K d_law_odd_way := has_of T.c.a 24 rfl
theorem k_law_odd_way (T : Tx K mg w) : PySem.W.keepIn K (.ref (d_law_odd_way.at_ K)) = true := (h_law_odd_way T).kp
theorem b_law_odd_way (T : Tx K mg w) : Binds K (fdOf K (d_law_odd_way.at_ K)) ps_law_odd_way [] := FunD.bindsN (ps := ps_law_odd_way) (h_law_odd_way T) fun _ _ _ _ _ _ us hl => match us, hl with | [_], _ => rfl
theorem h_law_drawn (T : Tx K mg w) : HasD K d_law_drawn := has_of T.c.a 25 rfl
theorem k_law_drawn (T : Tx K mg w) : PySem.W.keepIn K (.ref (d_law_drawn.at_ K)) = true := (h_law_drawn T).kp
theorem b_law_drawn (T : Tx K mg w) : Binds K (fdOf K (d_law_drawn.at_ K)) ps_law_drawn [] := FunD.bindsN (ps := ps_law_drawn) (h_law_drawn T) fun _ _ _ _ _ _ us hl => match us, hl with | [_], _ => rfl
theorem h_law_made (T : Tx K mg w) : HasD K d_law_made := has_of T.c.a 26 rfl
theorem k_law_made (T : Tx K mg w) : PySem.W.keepIn K (.ref (d_law_made.at_ K)) = true := (h_law_made T).kp
theorem b_law_made (T : Tx K mg w) : Binds K (fdOf K (d_law_made.at_ K)) ps_law_made [] := FunD.bindsN (ps := ps_law_made) (h_law_made T) fun _ _ _ _ _ _ us hl => match us, hl with | [_, _], _ => rfl
theorem h_law_shown (T : Tx K mg w) : HasD K d_law_shown := has_of T.c.a 27 rfl
theorem k_law_shown (T : Tx K mg w) : PySem.W.keepIn K (.ref (d_law_shown.at_ K)) = true := (h_law_shown T).kp
theorem b_law_shown (T : Tx K mg w) : Binds K (fdOf K (d_law_shown.at_ K)) ps_law_shown [] := FunD.bindsN (ps := ps_law_shown) (h_law_shown T) fun _ _ _ _ _ _ us hl => match us, hl with | [_, _], _ => rfl
theorem h_law_listed (T : Tx K mg w) : HasD K d_law_listed := has_of T.c.a 28 rfl
theorem k_law_listed (T : Tx K mg w) : PySem.W.keepIn K (.ref (d_law_listed.at_ K)) = true := (h_law_listed T).kp
theorem b_law_listed (T : Tx K mg w) : Binds K (fdOf K (d_law_listed.at_ K)) ps_law_listed [] := FunD.bindsN (ps := ps_law_listed) (h_law_listed T) fun _ _ _ _ _ _ us hl => match us, hl with | [_, _], _ => rfl
theorem h_law_jump_asked (T : Tx K mg w) : HasD K d_law_jump_asked := has_of T.c.a 29 rfl
theorem k_law_jump_asked (T : Tx K mg w) : PySem.W.keepIn K (.ref (d_law_jump_asked.at_ K)) = true := (h_law_jump_asked T).kp
theorem b_law_jump_asked (T : Tx K mg w) : Binds K (fdOf K (d_law_jump_asked.at_ K)) ps_law_jump_asked [] := FunD.bindsN (ps := ps_law_jump_asked) (h_law_jump_asked T) fun _ _ _ _ _ _ us hl => match us, hl with | [_, _], _ => rfl
theorem h_law_class_asked (T : Tx K mg w) : HasD K d_law_class_asked := has_of T.c.a 30 rfl
theorem k_law_class_asked (T : Tx K mg w) : PySem.W.keepIn K (.ref (d_law_class_asked.at_ K)) = true := (h_law_class_asked T).kp
theorem b_law_class_asked (T : Tx K mg w) : Binds K (fdOf K (d_law_class_asked.at_ K)) ps_law_class_asked [] := FunD.bindsN (ps := ps_law_class_asked) (h_law_class_asked T) fun _ _ _ _ _ _ us hl => match us, hl with | [_, _], _ => rfl
theorem h_law_read_asked (T : Tx K mg w) : HasD K d_law_read_asked := has_of T.c.a 31 rfl
theorem k_law_read_asked (T : Tx K mg w) : PySem.W.keepIn K (.ref (d_law_read_asked.at_ K)) = true := (h_law_read_asked T).kp
theorem b_law_read_asked (T : Tx K mg w) : Binds K (fdOf K (d_law_read_asked.at_ K)) ps_law_read_asked [] := FunD.bindsN (ps := ps_law_read_asked) (h_law_read_asked T) fun _ _ _ _ _ _ us hl => match us, hl with | [_], _ => rfl
theorem h_law_twins (T : Tx K mg w) : HasD K d_law_twins := has_of T.c.a 32 rfl
theorem k_law_twins (T : Tx K mg w) : PySem.W.keepIn K (.ref (d_law_twins.at_ K)) = true := (h_law_twins T).kp
theorem b_law_twins (T : Tx K mg w) : Binds K (fdOf K (d_law_twins.at_ K)) ps_law_twins [] := FunD.bindsN (ps := ps_law_twins) (h_law_twins T) fun _ _ _ _ _ _ us hl => match us, hl with | [_, _], _ => rfl
theorem h_law (T : Tx K mg w) : HasD K d_law := has_of T.c.a 33 rfl
theorem k_law (T : Tx K mg w) : PySem.W.keepIn K (.ref (d_law.at_ K)) = true := (h_law T).kp
theorem b_law (T : Tx K mg w) : Binds K (fdOf K (d_law.at_ K)) ps_law [] := FunD.bindsN (ps := ps_law) (h_law T) fun _ _ _ _ _ _ us hl => match us, hl with | [_], _ => rfl
end
theorem kc_2 : Str.ofString "#.:ABCDabcd" = S [35, 46, 58, 65, 66, 67, 68, 97, 98, 99, 100] := by decide +kernel
theorem kc_3 : Str.ofString "abcd" = S [97, 98, 99, 100] := by decide +kernel
theorem kc_6 : Str.ofString "right" = S [114, 105, 103, 104, 116] := by decide +kernel
theorem kc_7 : Str.ofString "left" = S [108, 101, 102, 116] := by decide +kernel
theorem kc_8 : Str.ofString "both" = S [98, 111, 116, 104] := by decide +kernel
theorem kc_9 : Str.ofString ">" = S [62] := by decide +kernel
theorem kc_10 : Str.ofString "<" = S [60] := by decide +kernel
theorem kc_11 : Str.ofString "=" = S [61] := by decide +kernel
theorem kc_12 : Str.ofString "abcd.><=abcd.><=:#ABCDe0 -~\n" = S [97, 98, 99, 100, 46, 62, 60, 61, 97, 98, 99, 100, 46, 62, 60, 61, 58, 35, 65, 66, 67, 68, 101, 48, 32, 45, 126, 10] := by decide +kernel
theorem kc_13 : Str.ofString "abcd.abcd.><=:#ABe0\n" = S [97, 98, 99, 100, 46, 97, 98, 99, 100, 46, 62, 60, 61, 58, 35, 65, 66, 101, 48, 10] := by decide +kernel
theorem kc_14 : Str.ofString "" = S [] := by decide +kernel
theorem kc_15 : Str.ofString "." = S [46] := by decide +kernel
theorem kc_16 : Str.ofString "up" = S [117, 112] := by decide +kernel
theorem kc_17 : Str.ofString "Right" = S [82, 105, 103, 104, 116] := by decide +kernel
theorem kc_18 : Str.ofString "LEFT" = S [76, 69, 70, 84] := by decide +kernel
theorem kc_19 : Str.ofString "rightleft" = S [114, 105, 103, 104, 116, 108, 101, 102, 116] := by decide +kernel
theorem kc_20 : Str.ofString "b" = S [98] := by decide +kernel
theorem kc_21 : Str.ofString "across" = S [97, 99, 114, 111, 115, 115] := by decide +kernel
theorem kc_22 : Str.ofString "abc." = S [97, 98, 99, 46] := by decide +kernel
theorem kc_23 : Str.ofString "...." = S [46, 46, 46, 46] := by decide +kernel
theorem kc_24 : Str.ofString "a sign is not allowed in this row: " = S [97, 32, 115, 105, 103, 110, 32, 105, 115, 32, 110, 111, 116, 32, 97, 108, 108, 111, 119, 101, 100, 32, 105, 110, 32, 116, 104, 105, 115, 32, 114, 111, 119, 58, 32] := by decide +kernel
theorem kc_25 : Str.ofString "not a jump: " = S [110, 111, 116, 32, 97, 32, 106, 117, 109, 112, 58, 32] := by decide +kernel
theorem kc_26 : Str.ofString ".abcd" = S [46, 97, 98, 99, 100] := by decide +kernel
theorem kc_27 : Str.ofString "\n" = S [10] := by decide +kernel
theorem kc_28 : Str.ofString " " = S [32] := by decide +kernel
end K03
namespace K03
open PySem PySem.Spec PyProof.Rows L2 Lc Evl
section
variable {P : Program} {w : World} {K : PySem.W.Frag} {mg : Str → Option Value} {base : Heap}
/-! ### the draws -/
def sp_law_take : Sp := fun vs H Q _ => ∃ (b : Addr) (many : Int), vs = [.ref b, .int many] ∧ Bx H b ∧ 0 < many ∧ many.natAbs < 2 ^ 128 ∧ ∀ d H', 0 ≤ d → d < many → ExB b H H' → Bx H' b → Q (.int d) H'
theorem ok_law_take (T : Tx K mg w) : OkD P w K mg base 1 d_law_take ps_law_take sp_law_take := by
  refine (h_law_take T).ok sc_law_take (fun vs H Q E h => ?_) (fun cdv A outer s H vs Q E hr h => ⟨_,
      (pss_cons (ps_if (pt_cmpR op_gt (pe_ix ix_list (pv 0) pe_int (fun _ _ => rfl)) pe_int (nomark _)) (pss_cons (ps_set (i := 3) sc_law_take.nd rfl (Or.inl rfl) (pe_op op_mod (pe_callTy call_int1 (by rfl) (m_int T) (by decide +kernel) (pa_cons (pe_ix ix_list (pv 0) pe_int (fun _ _ => rfl)) pa_nil)) (pv 1)))
      (pss_cons (ps_asg (pe_op op_fdivW (pe_ix ix_list (pv 0) pe_int (fun _ _ => rfl)) (pv 1)) (pg_sub (pv 0) pe_int set_list))
      (pss_one (ps_ret (pv 3))))) pss_nil)
      (pss_cons (ps_asg (pe_op op_add (pe_ix ix_list (pv 0) pe_int (fun _ _ => rfl)) pe_int) (pg_sub (pv 0) pe_int set_list))
      (pss_cons (ps_set (i := 2) sc_law_take.nd rfl (Or.inl rfl) (pe_op op_mod (pe_callTy call_int1 (by rfl) (m_int T) (by decide +kernel) (pa_cons (pe_op op_add (pe_op op_add (pe_op op_mul (pe_ix ix_list (pv 0) pe_int (fun _ _ => rfl)) pe_int) (pe_op op_mul (pe_ix ix_list (pv 0) pe_int (fun _ _ => rfl)) pe_int)) pe_int) pa_nil)) pe_int))
      (pss_cons (ps_set (i := 2) sc_law_take.nd rfl (Or.inl rfl) (pe_op op_mod (pe_callTy call_int1 (by rfl) (m_int T) (by decide +kernel) (pa_cons (pe_op op_add (pe_op op_mul (pv 2) (pv 2)) (pe_op op_mul (pe_ix ix_list (pv 0) pe_int (fun _ _ => rfl)) pe_int)) pa_nil)) pe_int))
      (pss_cons (ps_set (i := 2) sc_law_take.nd rfl (Or.inl rfl) (pe_op op_mod (pe_callTy call_int1 (by rfl) (m_int T) (by decide +kernel) (pa_cons (pe_op op_add (pe_op op_add (pe_op op_mul (pv 2) (pv 2)) (pe_op op_mul (pe_ix ix_list (pv 0) pe_int (fun _ _ => rfl)) pe_int)) pe_int) pa_nil)) pe_int))
      (pss_one (ps_ret (pe_op op_mod (pe_callTy call_int1 (by rfl) (m_int T) (by decide +kernel) (pa_cons (pe_op op_fdivW (pv 2) pe_int) pa_nil)) (pv 1))))))))), ?_⟩)
  · obtain ⟨b, many, rfl, _⟩ := h
    rfl
  · obtain ⟨b, many, rfl, ⟨i, j, k, hb⟩, hm, hm2, q⟩ := h
    have hs := SqL.of (K := K) hb
    refine q_when (by first | ((with_reducible apply et_test); (repeat' (first | ((with_reducible refine ev_pow10 ?_ ?_ ?_) <;> first | rfl | decide) | (with_reducible refine fun (_ : _ = true) => ?_) | (with_reducible refine fun (_ : _ = false) => ?_) | (with_reducible exact ev_c) | ((with_reducible apply ev_var); rfl) | (with_reducible apply ev_op) | (with_reducible apply ev_un) | (with_reducible apply ev_cb) | (with_reducible apply ea_cons) | (with_reducible apply ev_andV) | (with_reducible apply ev_orV) | (with_reducible apply ev_notV) | (with_reducible apply ev_if) | (with_reducible apply eo_some) | (with_reducible apply el_lst) | (with_reducible exact ea_nil) | (with_reducible exact rv_I0) | (with_reducible exact ru_neg) | (with_reducible exact rv_ltS) | (with_reducible exact rv_inC) | (with_reducible exact rv_notInC) | (with_reducible exact rc_intI) | (with_reducible exact rc_intB) | (with_reducible exact rc_min2) | (with_reducible exact rc_isStr) | (with_reducible exact eo_none) | (with_reducible exact rv_inSS) | (with_reducible exact rv_notInSS) | (with_reducible exact rv_ltSS) | (with_reducible exact rv_eqSS) | (with_reducible exact rv_eqII) | (with_reducible exact rv_neII) | (with_reducible exact rv_neSS) | ((with_reducible refine rc_lenSS ?_); (first | assumption | omega | decide | (simp only [S_len] at *; omega))) | ((with_reducible refine rc_lenStr ?_); (first | assumption | omega | decide | (simp only [S_len] at *; omega))) | ((with_reducible refine rv_catSS ?_); (first | assumption | omega | decide | (simp only [S_len] at *; omega))) | (with_reducible exact rv_eq rfl) | (with_reducible exact rv_ne rfl) | ((with_reducible refine rc_lenS ?_); (first | assumption | omega | decide | (simp only [S_len] at *; omega))) | ((with_reducible refine rc_lenL ?_); assumption) | ((with_reducible apply rv_ixL); assumption; rfl) | ((with_reducible refine rv_catS ?_); (first | assumption | omega | decide | (simp only [S_len] at *; omega))) | ((with_reducible refine rv_I ?_); (first | (show (0 : Int) < _; (first | assumption | omega | decide | (simp only [S_len] at *; omega))) | exact .inr ⟨by decide, by decide⟩ | exact .inl ⟨by (first | assumption | omega | decide | (simp only [S_len] at *; omega)), by (first | assumption | omega | decide | (simp only [S_len] at *; omega))⟩ | exact .inr ⟨by (first | assumption | omega | decide | (simp only [S_len] at *; omega)), by (first | assumption | omega | decide | (simp only [S_len] at *; omega))⟩ | exact ⟨by decide, by decide, by decide⟩ | exact wide_div (b := 128) (by (first | assumption | omega | decide | (simp only [S_len] at *; omega))) (by (first | assumption | omega | decide | (simp only [S_len] at *; omega))) (by decide) (by decide)))))) | ((with_reducible apply et_B); (repeat' (first | ((with_reducible refine ev_pow10 ?_ ?_ ?_) <;> first | rfl | decide) | (with_reducible refine fun (_ : _ = true) => ?_) | (with_reducible refine fun (_ : _ = false) => ?_) | (with_reducible exact ev_c) | ((with_reducible apply ev_var); rfl) | (with_reducible apply ev_op) | (with_reducible apply ev_un) | (with_reducible apply ev_cb) | (with_reducible apply ea_cons) | (with_reducible apply ev_andV) | (with_reducible apply ev_orV) | (with_reducible apply ev_notV) | (with_reducible apply ev_if) | (with_reducible apply eo_some) | (with_reducible apply el_lst) | (with_reducible exact ea_nil) | (with_reducible exact rv_I0) | (with_reducible exact ru_neg) | (with_reducible exact rv_ltS) | (with_reducible exact rv_inC) | (with_reducible exact rv_notInC) | (with_reducible exact rc_intI) | (with_reducible exact rc_intB) | (with_reducible exact rc_min2) | (with_reducible exact rc_isStr) | (with_reducible exact eo_none) | (with_reducible exact rv_inSS) | (with_reducible exact rv_notInSS) | (with_reducible exact rv_ltSS) | (with_reducible exact rv_eqSS) | (with_reducible exact rv_eqII) | (with_reducible exact rv_neII) | (with_reducible exact rv_neSS) | ((with_reducible refine rc_lenSS ?_); (first | assumption | omega | decide | (simp only [S_len] at *; omega))) | ((with_reducible refine rc_lenStr ?_); (first | assumption | omega | decide | (simp only [S_len] at *; omega))) | ((with_reducible refine rv_catSS ?_); (first | assumption | omega | decide | (simp only [S_len] at *; omega))) | (with_reducible exact rv_eq rfl) | (with_reducible exact rv_ne rfl) | ((with_reducible refine rc_lenS ?_); (first | assumption | omega | decide | (simp only [S_len] at *; omega))) | ((with_reducible refine rc_lenL ?_); assumption) | ((with_reducible apply rv_ixL); assumption; rfl) | ((with_reducible refine rv_catS ?_); (first | assumption | omega | decide | (simp only [S_len] at *; omega))) | ((with_reducible refine rv_I ?_); (first | (show (0 : Int) < _; (first | assumption | omega | decide | (simp only [S_len] at *; omega))) | exact .inr ⟨by decide, by decide⟩ | exact .inl ⟨by (first | assumption | omega | decide | (simp only [S_len] at *; omega)), by (first | assumption | omega | decide | (simp only [S_len] at *; omega))⟩ | exact .inr ⟨by (first | assumption | omega | decide | (simp only [S_len] at *; omega)), by (first | assumption | omega | decide | (simp only [S_len] at *; omega))⟩ | exact ⟨by decide, by decide, by decide⟩ | exact wide_div (b := 128) (by (first | assumption | omega | decide | (simp only [S_len] at *; omega))) (by (first | assumption | omega | decide | (simp only [S_len] at *; omega))) (by decide) (by decide))))))) (fun hc H1 e1 => ?_) (fun hc H1 e1 => ?_)
    · have hs1 := SqL.of (K := K) (e1 _ _ hb)
      refine q_asg (by repeat' (first | ((with_reducible refine ev_pow10 ?_ ?_ ?_) <;> first | rfl | decide) | (with_reducible refine fun (_ : _ = true) => ?_) | (with_reducible refine fun (_ : _ = false) => ?_) | (with_reducible exact ev_c) | ((with_reducible apply ev_var); rfl) | (with_reducible apply ev_op) | (with_reducible apply ev_un) | (with_reducible apply ev_cb) | (with_reducible apply ea_cons) | (with_reducible apply ev_andV) | (with_reducible apply ev_orV) | (with_reducible apply ev_notV) | (with_reducible apply ev_if) | (with_reducible apply eo_some) | (with_reducible apply el_lst) | (with_reducible exact ea_nil) | (with_reducible exact rv_I0) | (with_reducible exact ru_neg) | (with_reducible exact rv_ltS) | (with_reducible exact rv_inC) | (with_reducible exact rv_notInC) | (with_reducible exact rc_intI) | (with_reducible exact rc_intB) | (with_reducible exact rc_min2) | (with_reducible exact rc_isStr) | (with_reducible exact eo_none) | (with_reducible exact rv_inSS) | (with_reducible exact rv_notInSS) | (with_reducible exact rv_ltSS) | (with_reducible exact rv_eqSS) | (with_reducible exact rv_eqII) | (with_reducible exact rv_neII) | (with_reducible exact rv_neSS) | ((with_reducible refine rc_lenSS ?_); (first | assumption | omega | decide | (simp only [S_len] at *; omega))) | ((with_reducible refine rc_lenStr ?_); (first | assumption | omega | decide | (simp only [S_len] at *; omega))) | ((with_reducible refine rv_catSS ?_); (first | assumption | omega | decide | (simp only [S_len] at *; omega))) | (with_reducible exact rv_eq rfl) | (with_reducible exact rv_ne rfl) | ((with_reducible refine rc_lenS ?_); (first | assumption | omega | decide | (simp only [S_len] at *; omega))) | ((with_reducible refine rc_lenL ?_); assumption) | ((with_reducible apply rv_ixL); assumption; rfl) | ((with_reducible refine rv_catS ?_); (first | assumption | omega | decide | (simp only [S_len] at *; omega))) | ((with_reducible refine rv_I ?_); (first | (show (0 : Int) < _; (first | assumption | omega | decide | (simp only [S_len] at *; omega))) | exact .inr ⟨by decide, by decide⟩ | exact .inl ⟨by (first | assumption | omega | decide | (simp only [S_len] at *; omega)), by (first | assumption | omega | decide | (simp only [S_len] at *; omega))⟩ | exact .inr ⟨by (first | assumption | omega | decide | (simp only [S_len] at *; omega)), by (first | assumption | omega | decide | (simp only [S_len] at *; omega))⟩ | exact ⟨by decide, by decide, by decide⟩ | exact wide_div (b := 128) (by (first | assumption | omega | decide | (simp only [S_len] at *; omega))) (by (first | assumption | omega | decide | (simp only [S_len] at *; omega))) (by decide) (by decide))))) fun H2 e2 => ?_
      have hs2 := SqL.of (K := K) (e2 _ _ (e1 _ _ hb))
      refine q_setL (j := 0) (e2 _ _ (e1 _ _ hb)) (by repeat' (first | ((with_reducible refine ev_pow10 ?_ ?_ ?_) <;> first | rfl | decide) | (with_reducible refine fun (_ : _ = true) => ?_) | (with_reducible refine fun (_ : _ = false) => ?_) | (with_reducible exact ev_c) | ((with_reducible apply ev_var); rfl) | (with_reducible apply ev_op) | (with_reducible apply ev_un) | (with_reducible apply ev_cb) | (with_reducible apply ea_cons) | (with_reducible apply ev_andV) | (with_reducible apply ev_orV) | (with_reducible apply ev_notV) | (with_reducible apply ev_if) | (with_reducible apply eo_some) | (with_reducible apply el_lst) | (with_reducible exact ea_nil) | (with_reducible exact rv_I0) | (with_reducible exact ru_neg) | (with_reducible exact rv_ltS) | (with_reducible exact rv_inC) | (with_reducible exact rv_notInC) | (with_reducible exact rc_intI) | (with_reducible exact rc_intB) | (with_reducible exact rc_min2) | (with_reducible exact rc_isStr) | (with_reducible exact eo_none) | (with_reducible exact rv_inSS) | (with_reducible exact rv_notInSS) | (with_reducible exact rv_ltSS) | (with_reducible exact rv_eqSS) | (with_reducible exact rv_eqII) | (with_reducible exact rv_neII) | (with_reducible exact rv_neSS) | ((with_reducible refine rc_lenSS ?_); (first | assumption | omega | decide | (simp only [S_len] at *; omega))) | ((with_reducible refine rc_lenStr ?_); (first | assumption | omega | decide | (simp only [S_len] at *; omega))) | ((with_reducible refine rv_catSS ?_); (first | assumption | omega | decide | (simp only [S_len] at *; omega))) | (with_reducible exact rv_eq rfl) | (with_reducible exact rv_ne rfl) | ((with_reducible refine rc_lenS ?_); (first | assumption | omega | decide | (simp only [S_len] at *; omega))) | ((with_reducible refine rc_lenL ?_); assumption) | ((with_reducible apply rv_ixL); assumption; rfl) | ((with_reducible refine rv_catS ?_); (first | assumption | omega | decide | (simp only [S_len] at *; omega))) | ((with_reducible refine rv_I ?_); (first | (show (0 : Int) < _; (first | assumption | omega | decide | (simp only [S_len] at *; omega))) | exact .inr ⟨by decide, by decide⟩ | exact .inl ⟨by (first | assumption | omega | decide | (simp only [S_len] at *; omega)), by (first | assumption | omega | decide | (simp only [S_len] at *; omega))⟩ | exact .inr ⟨by (first | assumption | omega | decide | (simp only [S_len] at *; omega)), by (first | assumption | omega | decide | (simp only [S_len] at *; omega))⟩ | exact ⟨by decide, by decide, by decide⟩ | exact wide_div (b := 128) (by (first | assumption | omega | decide | (simp only [S_len] at *; omega))) (by (first | assumption | omega | decide | (simp only [S_len] at *; omega))) (by decide) (by decide))))) (by repeat' (first | ((with_reducible refine ev_pow10 ?_ ?_ ?_) <;> first | rfl | decide) | (with_reducible refine fun (_ : _ = true) => ?_) | (with_reducible refine fun (_ : _ = false) => ?_) | (with_reducible exact ev_c) | ((with_reducible apply ev_var); rfl) | (with_reducible apply ev_op) | (with_reducible apply ev_un) | (with_reducible apply ev_cb) | (with_reducible apply ea_cons) | (with_reducible apply ev_andV) | (with_reducible apply ev_orV) | (with_reducible apply ev_notV) | (with_reducible apply ev_if) | (with_reducible apply eo_some) | (with_reducible apply el_lst) | (with_reducible exact ea_nil) | (with_reducible exact rv_I0) | (with_reducible exact ru_neg) | (with_reducible exact rv_ltS) | (with_reducible exact rv_inC) | (with_reducible exact rv_notInC) | (with_reducible exact rc_intI) | (with_reducible exact rc_intB) | (with_reducible exact rc_min2) | (with_reducible exact rc_isStr) | (with_reducible exact eo_none) | (with_reducible exact rv_inSS) | (with_reducible exact rv_notInSS) | (with_reducible exact rv_ltSS) | (with_reducible exact rv_eqSS) | (with_reducible exact rv_eqII) | (with_reducible exact rv_neII) | (with_reducible exact rv_neSS) | ((with_reducible refine rc_lenSS ?_); (first | assumption | omega | decide | (simp only [S_len] at *; omega))) | ((with_reducible refine rc_lenStr ?_); (first | assumption | omega | decide | (simp only [S_len] at *; omega))) | ((with_reducible refine rv_catSS ?_); (first | assumption | omega | decide | (simp only [S_len] at *; omega))) | (with_reducible exact rv_eq rfl) | (with_reducible exact rv_ne rfl) | ((with_reducible refine rc_lenS ?_); (first | assumption | omega | decide | (simp only [S_len] at *; omega))) | ((with_reducible refine rc_lenL ?_); assumption) | ((with_reducible apply rv_ixL); assumption; rfl) | ((with_reducible refine rv_catS ?_); (first | assumption | omega | decide | (simp only [S_len] at *; omega))) | ((with_reducible refine rv_I ?_); (first | (show (0 : Int) < _; (first | assumption | omega | decide | (simp only [S_len] at *; omega))) | exact .inr ⟨by decide, by decide⟩ | exact .inl ⟨by (first | assumption | omega | decide | (simp only [S_len] at *; omega)), by (first | assumption | omega | decide | (simp only [S_len] at *; omega))⟩ | exact .inr ⟨by (first | assumption | omega | decide | (simp only [S_len] at *; omega)), by (first | assumption | omega | decide | (simp only [S_len] at *; omega))⟩ | exact ⟨by decide, by decide, by decide⟩ | exact wide_div (b := 128) (by (first | assumption | omega | decide | (simp only [S_len] at *; omega))) (by (first | assumption | omega | decide | (simp only [S_len] at *; omega))) (by decide) (by decide))))) ev_c (by simp) fun H3 e3 => ?_
      refine s_ret (by repeat' (first | ((with_reducible refine ev_pow10 ?_ ?_ ?_) <;> first | rfl | decide) | (with_reducible refine fun (_ : _ = true) => ?_) | (with_reducible refine fun (_ : _ = false) => ?_) | (with_reducible exact ev_c) | ((with_reducible apply ev_var); rfl) | (with_reducible apply ev_op) | (with_reducible apply ev_un) | (with_reducible apply ev_cb) | (with_reducible apply ea_cons) | (with_reducible apply ev_andV) | (with_reducible apply ev_orV) | (with_reducible apply ev_notV) | (with_reducible apply ev_if) | (with_reducible apply eo_some) | (with_reducible apply el_lst) | (with_reducible exact ea_nil) | (with_reducible exact rv_I0) | (with_reducible exact ru_neg) | (with_reducible exact rv_ltS) | (with_reducible exact rv_inC) | (with_reducible exact rv_notInC) | (with_reducible exact rc_intI) | (with_reducible exact rc_intB) | (with_reducible exact rc_min2) | (with_reducible exact rc_isStr) | (with_reducible exact eo_none) | (with_reducible exact rv_inSS) | (with_reducible exact rv_notInSS) | (with_reducible exact rv_ltSS) | (with_reducible exact rv_eqSS) | (with_reducible exact rv_eqII) | (with_reducible exact rv_neII) | (with_reducible exact rv_neSS) | ((with_reducible refine rc_lenSS ?_); (first | assumption | omega | decide | (simp only [S_len] at *; omega))) | ((with_reducible refine rc_lenStr ?_); (first | assumption | omega | decide | (simp only [S_len] at *; omega))) | ((with_reducible refine rv_catSS ?_); (first | assumption | omega | decide | (simp only [S_len] at *; omega))) | (with_reducible exact rv_eq rfl) | (with_reducible exact rv_ne rfl) | ((with_reducible refine rc_lenS ?_); (first | assumption | omega | decide | (simp only [S_len] at *; omega))) | ((with_reducible refine rc_lenL ?_); assumption) | ((with_reducible apply rv_ixL); assumption; rfl) | ((with_reducible refine rv_catS ?_); (first | assumption | omega | decide | (simp only [S_len] at *; omega))) | ((with_reducible refine rv_I ?_); (first | (show (0 : Int) < _; (first | assumption | omega | decide | (simp only [S_len] at *; omega))) | exact .inr ⟨by decide, by decide⟩ | exact .inl ⟨by (first | assumption | omega | decide | (simp only [S_len] at *; omega)), by (first | assumption | omega | decide | (simp only [S_len] at *; omega))⟩ | exact .inr ⟨by (first | assumption | omega | decide | (simp only [S_len] at *; omega)), by (first | assumption | omega | decide | (simp only [S_len] at *; omega))⟩ | exact ⟨by decide, by decide, by decide⟩ | exact wide_div (b := 128) (by (first | assumption | omega | decide | (simp only [S_len] at *; omega))) (by (first | assumption | omega | decide | (simp only [S_len] at *; omega))) (by decide) (by decide))))) fun H4 e4 => ?_
      refine q _ _ (Int.emod_nonneg _ (by omega)) (Int.emod_lt_of_pos _ hm) ?_ ?_
      · exact ((ExB.of ((e1.trans e2).trans e3)).trans ExB.upd).trans (ExB.of e4)
      · exact Bx.ex Bx.put e4
    · have hs1 := SqL.of (K := K) (e1 _ _ hb)
      refine q_setL (j := 1) (e1 _ _ hb) (by repeat' (first | ((with_reducible refine ev_pow10 ?_ ?_ ?_) <;> first | rfl | decide) | (with_reducible refine fun (_ : _ = true) => ?_) | (with_reducible refine fun (_ : _ = false) => ?_) | (with_reducible exact ev_c) | ((with_reducible apply ev_var); rfl) | (with_reducible apply ev_op) | (with_reducible apply ev_un) | (with_reducible apply ev_cb) | (with_reducible apply ea_cons) | (with_reducible apply ev_andV) | (with_reducible apply ev_orV) | (with_reducible apply ev_notV) | (with_reducible apply ev_if) | (with_reducible apply eo_some) | (with_reducible apply el_lst) | (with_reducible exact ea_nil) | (with_reducible exact rv_I0) | (with_reducible exact ru_neg) | (with_reducible exact rv_ltS) | (with_reducible exact rv_inC) | (with_reducible exact rv_notInC) | (with_reducible exact rc_intI) | (with_reducible exact rc_intB) | (with_reducible exact rc_min2) | (with_reducible exact rc_isStr) | (with_reducible exact eo_none) | (with_reducible exact rv_inSS) | (with_reducible exact rv_notInSS) | (with_reducible exact rv_ltSS) | (with_reducible exact rv_eqSS) | (with_reducible exact rv_eqII) | (with_reducible exact rv_neII) | (with_reducible exact rv_neSS) | ((with_reducible refine rc_lenSS ?_); (first | assumption | omega | decide | (simp only [S_len] at *; omega))) | ((with_reducible refine rc_lenStr ?_); (first | assumption | omega | decide | (simp only [S_len] at *; omega))) | ((with_reducible refine rv_catSS ?_); (first | assumption | omega | decide | (simp only [S_len] at *; omega))) | (with_reducible exact rv_eq rfl) | (with_reducible exact rv_ne rfl) | ((with_reducible refine rc_lenS ?_); (first | assumption | omega | decide | (simp only [S_len] at *; omega))) | ((with_reducible refine rc_lenL ?_); assumption) | ((with_reducible apply rv_ixL); assumption; rfl) | ((with_reducible refine rv_catS ?_); (first | assumption | omega | decide | (simp only [S_len] at *; omega))) | ((with_reducible refine rv_I ?_); (first | (show (0 : Int) < _; (first | assumption | omega | decide | (simp only [S_len] at *; omega))) | exact .inr ⟨by decide, by decide⟩ | exact .inl ⟨by (first | assumption | omega | decide | (simp only [S_len] at *; omega)), by (first | assumption | omega | decide | (simp only [S_len] at *; omega))⟩ | exact .inr ⟨by (first | assumption | omega | decide | (simp only [S_len] at *; omega)), by (first | assumption | omega | decide | (simp only [S_len] at *; omega))⟩ | exact ⟨by decide, by decide, by decide⟩ | exact wide_div (b := 128) (by (first | assumption | omega | decide | (simp only [S_len] at *; omega))) (by (first | assumption | omega | decide | (simp only [S_len] at *; omega))) (by decide) (by decide))))) (by repeat' (first | ((with_reducible refine ev_pow10 ?_ ?_ ?_) <;> first | rfl | decide) | (with_reducible refine fun (_ : _ = true) => ?_) | (with_reducible refine fun (_ : _ = false) => ?_) | (with_reducible exact ev_c) | ((with_reducible apply ev_var); rfl) | (with_reducible apply ev_op) | (with_reducible apply ev_un) | (with_reducible apply ev_cb) | (with_reducible apply ea_cons) | (with_reducible apply ev_andV) | (with_reducible apply ev_orV) | (with_reducible apply ev_notV) | (with_reducible apply ev_if) | (with_reducible apply eo_some) | (with_reducible apply el_lst) | (with_reducible exact ea_nil) | (with_reducible exact rv_I0) | (with_reducible exact ru_neg) | (with_reducible exact rv_ltS) | (with_reducible exact rv_inC) | (with_reducible exact rv_notInC) | (with_reducible exact rc_intI) | (with_reducible exact rc_intB) | (with_reducible exact rc_min2) | (with_reducible exact rc_isStr) | (with_reducible exact eo_none) | (with_reducible exact rv_inSS) | (with_reducible exact rv_notInSS) | (with_reducible exact rv_ltSS) | (with_reducible exact rv_eqSS) | (with_reducible exact rv_eqII) | (with_reducible exact rv_neII) | (with_reducible exact rv_neSS) | ((with_reducible refine rc_lenSS ?_); (first | assumption | omega | decide | (simp only [S_len] at *; omega))) | ((with_reducible refine rc_lenStr ?_); (first | assumption | omega | decide | (simp only [S_len] at *; omega))) | ((with_reducible refine rv_catSS ?_); (first | assumption | omega | decide | (simp only [S_len] at *; omega))) | (with_reducible exact rv_eq rfl) | (with_reducible exact rv_ne rfl) | ((with_reducible refine rc_lenS ?_); (first | assumption | omega | decide | (simp only [S_len] at *; omega))) | ((with_reducible refine rc_lenL ?_); assumption) | ((with_reducible apply rv_ixL); assumption; rfl) | ((with_reducible refine rv_catS ?_); (first | assumption | omega | decide | (simp only [S_len] at *; omega))) | ((with_reducible refine rv_I ?_); (first | (show (0 : Int) < _; (first | assumption | omega | decide | (simp only [S_len] at *; omega))) | exact .inr ⟨by decide, by decide⟩ | exact .inl ⟨by (first | assumption | omega | decide | (simp only [S_len] at *; omega)), by (first | assumption | omega | decide | (simp only [S_len] at *; omega))⟩ | exact .inr ⟨by (first | assumption | omega | decide | (simp only [S_len] at *; omega)), by (first | assumption | omega | decide | (simp only [S_len] at *; omega))⟩ | exact ⟨by decide, by decide, by decide⟩ | exact wide_div (b := 128) (by (first | assumption | omega | decide | (simp only [S_len] at *; omega))) (by (first | assumption | omega | decide | (simp only [S_len] at *; omega))) (by decide) (by decide))))) ev_c (by simp) fun H2 e2 => ?_
      have h2 : upd H2 b (.lst (List.set [V.int i, V.int j, V.int k] 1 (V.int (j + 1)))) b = some (.lst [V.int i, V.int (j + 1), V.int k]) := upd_same
      have hs2 := SqL.of (K := K) h2
      refine q_asg (by repeat' (first | ((with_reducible refine ev_pow10 ?_ ?_ ?_) <;> first | rfl | decide) | (with_reducible refine fun (_ : _ = true) => ?_) | (with_reducible refine fun (_ : _ = false) => ?_) | (with_reducible exact ev_c) | ((with_reducible apply ev_var); rfl) | (with_reducible apply ev_op) | (with_reducible apply ev_un) | (with_reducible apply ev_cb) | (with_reducible apply ea_cons) | (with_reducible apply ev_andV) | (with_reducible apply ev_orV) | (with_reducible apply ev_notV) | (with_reducible apply ev_if) | (with_reducible apply eo_some) | (with_reducible apply el_lst) | (with_reducible exact ea_nil) | (with_reducible exact rv_I0) | (with_reducible exact ru_neg) | (with_reducible exact rv_ltS) | (with_reducible exact rv_inC) | (with_reducible exact rv_notInC) | (with_reducible exact rc_intI) | (with_reducible exact rc_intB) | (with_reducible exact rc_min2) | (with_reducible exact rc_isStr) | (with_reducible exact eo_none) | (with_reducible exact rv_inSS) | (with_reducible exact rv_notInSS) | (with_reducible exact rv_ltSS) | (with_reducible exact rv_eqSS) | (with_reducible exact rv_eqII) | (with_reducible exact rv_neII) | (with_reducible exact rv_neSS) | ((with_reducible refine rc_lenSS ?_); (first | assumption | omega | decide | (simp only [S_len] at *; omega))) | ((with_reducible refine rc_lenStr ?_); (first | assumption | omega | decide | (simp only [S_len] at *; omega))) | ((with_reducible refine rv_catSS ?_); (first | assumption | omega | decide | (simp only [S_len] at *; omega))) | (with_reducible exact rv_eq rfl) | (with_reducible exact rv_ne rfl) | ((with_reducible refine rc_lenS ?_); (first | assumption | omega | decide | (simp only [S_len] at *; omega))) | ((with_reducible refine rc_lenL ?_); assumption) | ((with_reducible apply rv_ixL); assumption; rfl) | ((with_reducible refine rv_catS ?_); (first | assumption | omega | decide | (simp only [S_len] at *; omega))) | ((with_reducible refine rv_I ?_); (first | (show (0 : Int) < _; (first | assumption | omega | decide | (simp only [S_len] at *; omega))) | exact .inr ⟨by decide, by decide⟩ | exact .inl ⟨by (first | assumption | omega | decide | (simp only [S_len] at *; omega)), by (first | assumption | omega | decide | (simp only [S_len] at *; omega))⟩ | exact .inr ⟨by (first | assumption | omega | decide | (simp only [S_len] at *; omega)), by (first | assumption | omega | decide | (simp only [S_len] at *; omega))⟩ | exact ⟨by decide, by decide, by decide⟩ | exact wide_div (b := 128) (by (first | assumption | omega | decide | (simp only [S_len] at *; omega))) (by (first | assumption | omega | decide | (simp only [S_len] at *; omega))) (by decide) (by decide))))) fun H3 e3 => ?_
      have hs3 := SqL.of (K := K) (e3 _ _ h2)
      have b1 := Int.emod_nonneg (k * 48271 + (j + 1) * 69623 + 12347) (show (2147483647 : Int) ≠ 0 by decide)
      have b2 := Int.emod_lt_of_pos (k * 48271 + (j + 1) * 69623 + 12347) (show (0 : Int) < 2147483647 by decide)
      generalize (k * 48271 + (j + 1) * 69623 + 12347) % 2147483647 = m1 at b1 b2 ⊢
      refine q_asg (by repeat' (first | ((with_reducible refine ev_pow10 ?_ ?_ ?_) <;> first | rfl | decide) | (with_reducible refine fun (_ : _ = true) => ?_) | (with_reducible refine fun (_ : _ = false) => ?_) | (with_reducible exact ev_c) | ((with_reducible apply ev_var); rfl) | (with_reducible apply ev_op) | (with_reducible apply ev_un) | (with_reducible apply ev_cb) | (with_reducible apply ea_cons) | (with_reducible apply ev_andV) | (with_reducible apply ev_orV) | (with_reducible apply ev_notV) | (with_reducible apply ev_if) | (with_reducible apply eo_some) | (with_reducible apply el_lst) | (with_reducible exact ea_nil) | (with_reducible exact rv_I0) | (with_reducible exact ru_neg) | (with_reducible exact rv_ltS) | (with_reducible exact rv_inC) | (with_reducible exact rv_notInC) | (with_reducible exact rc_intI) | (with_reducible exact rc_intB) | (with_reducible exact rc_min2) | (with_reducible exact rc_isStr) | (with_reducible exact eo_none) | (with_reducible exact rv_inSS) | (with_reducible exact rv_notInSS) | (with_reducible exact rv_ltSS) | (with_reducible exact rv_eqSS) | (with_reducible exact rv_eqII) | (with_reducible exact rv_neII) | (with_reducible exact rv_neSS) | ((with_reducible refine rc_lenSS ?_); (first | assumption | omega | decide | (simp only [S_len] at *; omega))) | ((with_reducible refine rc_lenStr ?_); (first | assumption | omega | decide | (simp only [S_len] at *; omega))) | ((with_reducible refine rv_catSS ?_); (first | assumption | omega | decide | (simp only [S_len] at *; omega))) | (with_reducible exact rv_eq rfl) | (with_reducible exact rv_ne rfl) | ((with_reducible refine rc_lenS ?_); (first | assumption | omega | decide | (simp only [S_len] at *; omega))) | ((with_reducible refine rc_lenL ?_); assumption) | ((with_reducible apply rv_ixL); assumption; rfl) | ((with_reducible refine rv_catS ?_); (first | assumption | omega | decide | (simp only [S_len] at *; omega))) | ((with_reducible refine rv_I ?_); (first | (show (0 : Int) < _; (first | assumption | omega | decide | (simp only [S_len] at *; omega))) | exact .inr ⟨by decide, by decide⟩ | exact .inl ⟨by (first | assumption | omega | decide | (simp only [S_len] at *; omega)), by (first | assumption | omega | decide | (simp only [S_len] at *; omega))⟩ | exact .inr ⟨by (first | assumption | omega | decide | (simp only [S_len] at *; omega)), by (first | assumption | omega | decide | (simp only [S_len] at *; omega))⟩ | exact ⟨by decide, by decide, by decide⟩ | exact wide_div (b := 128) (by (first | assumption | omega | decide | (simp only [S_len] at *; omega))) (by (first | assumption | omega | decide | (simp only [S_len] at *; omega))) (by decide) (by decide))))) fun H4 e4 => ?_
      have hs4 := SqL.of (K := K) (e4 _ _ (e3 _ _ h2))
      have c1 := Int.emod_nonneg (m1 * m1 + (j + 1) * 40709) (show (2147483629 : Int) ≠ 0 by decide)
      have c2 := Int.emod_lt_of_pos (m1 * m1 + (j + 1) * 40709) (show (0 : Int) < 2147483629 by decide)
      generalize (m1 * m1 + (j + 1) * 40709) % 2147483629 = m2 at c1 c2 ⊢
      refine q_asg (by repeat' (first | ((with_reducible refine ev_pow10 ?_ ?_ ?_) <;> first | rfl | decide) | (with_reducible refine fun (_ : _ = true) => ?_) | (with_reducible refine fun (_ : _ = false) => ?_) | (with_reducible exact ev_c) | ((with_reducible apply ev_var); rfl) | (with_reducible apply ev_op) | (with_reducible apply ev_un) | (with_reducible apply ev_cb) | (with_reducible apply ea_cons) | (with_reducible apply ev_andV) | (with_reducible apply ev_orV) | (with_reducible apply ev_notV) | (with_reducible apply ev_if) | (with_reducible apply eo_some) | (with_reducible apply el_lst) | (with_reducible exact ea_nil) | (with_reducible exact rv_I0) | (with_reducible exact ru_neg) | (with_reducible exact rv_ltS) | (with_reducible exact rv_inC) | (with_reducible exact rv_notInC) | (with_reducible exact rc_intI) | (with_reducible exact rc_intB) | (with_reducible exact rc_min2) | (with_reducible exact rc_isStr) | (with_reducible exact eo_none) | (with_reducible exact rv_inSS) | (with_reducible exact rv_notInSS) | (with_reducible exact rv_ltSS) | (with_reducible exact rv_eqSS) | (with_reducible exact rv_eqII) | (with_reducible exact rv_neII) | (with_reducible exact rv_neSS) | ((with_reducible refine rc_lenSS ?_); (first | assumption | omega | decide | (simp only [S_len] at *; omega))) | ((with_reducible refine rc_lenStr ?_); (first | assumption | omega | decide | (simp only [S_len] at *; omega))) | ((with_reducible refine rv_catSS ?_); (first | assumption | omega | decide | (simp only [S_len] at *; omega))) | (with_reducible exact rv_eq rfl) | (with_reducible exact rv_ne rfl) | ((with_reducible refine rc_lenS ?_); (first | assumption | omega | decide | (simp only [S_len] at *; omega))) | ((with_reducible refine rc_lenL ?_); assumption) | ((with_reducible apply rv_ixL); assumption; rfl) | ((with_reducible refine rv_catS ?_); (first | assumption | omega | decide | (simp only [S_len] at *; omega))) | ((with_reducible refine rv_I ?_); (first | (show (0 : Int) < _; (first | assumption | omega | decide | (simp only [S_len] at *; omega))) | exact .inr ⟨by decide, by decide⟩ | exact .inl ⟨by (first | assumption | omega | decide | (simp only [S_len] at *; omega)), by (first | assumption | omega | decide | (simp only [S_len] at *; omega))⟩ | exact .inr ⟨by (first | assumption | omega | decide | (simp only [S_len] at *; omega)), by (first | assumption | omega | decide | (simp only [S_len] at *; omega))⟩ | exact ⟨by decide, by decide, by decide⟩ | exact wide_div (b := 128) (by (first | assumption | omega | decide | (simp only [S_len] at *; omega))) (by (first | assumption | omega | decide | (simp only [S_len] at *; omega))) (by decide) (by decide))))) fun H5 e5 => ?_
      refine s_ret (by repeat' (first | ((with_reducible refine ev_pow10 ?_ ?_ ?_) <;> first | rfl | decide) | (with_reducible refine fun (_ : _ = true) => ?_) | (with_reducible refine fun (_ : _ = false) => ?_) | (with_reducible exact ev_c) | ((with_reducible apply ev_var); rfl) | (with_reducible apply ev_op) | (with_reducible apply ev_un) | (with_reducible apply ev_cb) | (with_reducible apply ea_cons) | (with_reducible apply ev_andV) | (with_reducible apply ev_orV) | (with_reducible apply ev_notV) | (with_reducible apply ev_if) | (with_reducible apply eo_some) | (with_reducible apply el_lst) | (with_reducible exact ea_nil) | (with_reducible exact rv_I0) | (with_reducible exact ru_neg) | (with_reducible exact rv_ltS) | (with_reducible exact rv_inC) | (with_reducible exact rv_notInC) | (with_reducible exact rc_intI) | (with_reducible exact rc_intB) | (with_reducible exact rc_min2) | (with_reducible exact rc_isStr) | (with_reducible exact eo_none) | (with_reducible exact rv_inSS) | (with_reducible exact rv_notInSS) | (with_reducible exact rv_ltSS) | (with_reducible exact rv_eqSS) | (with_reducible exact rv_eqII) | (with_reducible exact rv_neII) | (with_reducible exact rv_neSS) | ((with_reducible refine rc_lenSS ?_); (first | assumption | omega | decide | (simp only [S_len] at *; omega))) | ((with_reducible refine rc_lenStr ?_); (first | assumption | omega | decide | (simp only [S_len] at *; omega))) | ((with_reducible refine rv_catSS ?_); (first | assumption | omega | decide | (simp only [S_len] at *; omega))) | (with_reducible exact rv_eq rfl) | (with_reducible exact rv_ne rfl) | ((with_reducible refine rc_lenS ?_); (first | assumption | omega | decide | (simp only [S_len] at *; omega))) | ((with_reducible refine rc_lenL ?_); assumption) | ((with_reducible apply rv_ixL); assumption; rfl) | ((with_reducible refine rv_catS ?_); (first | assumption | omega | decide | (simp only [S_len] at *; omega))) | ((with_reducible refine rv_I ?_); (first | (show (0 : Int) < _; (first | assumption | omega | decide | (simp only [S_len] at *; omega))) | exact .inr ⟨by decide, by decide⟩ | exact .inl ⟨by (first | assumption | omega | decide | (simp only [S_len] at *; omega)), by (first | assumption | omega | decide | (simp only [S_len] at *; omega))⟩ | exact .inr ⟨by (first | assumption | omega | decide | (simp only [S_len] at *; omega)), by (first | assumption | omega | decide | (simp only [S_len] at *; omega))⟩ | exact ⟨by decide, by decide, by decide⟩ | exact wide_div (b := 128) (by (first | assumption | omega | decide | (simp only [S_len] at *; omega))) (by (first | assumption | omega | decide | (simp only [S_len] at *; omega))) (by decide) (by decide))))) fun H6 e6 => ?_
      refine q _ _ (Int.emod_nonneg _ (by omega)) (Int.emod_lt_of_pos _ hm) ?_ ?_
      · exact ((ExB.of (e1.trans e2)).trans ExB.upd).trans (ExB.of (((e3.trans e4).trans e5).trans e6))
      · exact Bx.ex (Bx.ex Bx.put e3) ((e4.trans e5).trans e6)
theorem sp_take_then {σ : L2.St} {H : Hp} {b : Addr} {i : Nat} {te : TE} {many : Int} {E : XK} {Q : VK} (hv : σ[i]? = some (some (.ref b))) (hb : Bx H b) (he : Ev te σ H (.int many)) (h0 : 0 < many) (h1 : many.natAbs < 2 ^ 128)
    (k : ∀ d H', 0 ≤ d → d < many → ExB b H H' → Bx H' b → Q (.int d) H') : tCall sp_law_take [] E (tCons (tVar i) (tCons te tNil)) σ H Q :=
  ⟨_, hv, he H (Ex.refl H) _ fun H1 e1 => ⟨b, many, rfl, hb.ex e1, h0, h1, fun d H' d0 d1 x y => k d H' d0 d1 ((ExB.of e1).trans x) y⟩⟩
/-! ### cells and boxes -/
def cellV (ns : List Int) (at_ : Int) : Int := if at_ < (if (ns.length : Int) < 63 then (ns.length : Int) else 63) then ns.getD at_.toNat 0 else ((ns.take 1).sum % 1000003 * 7919 + at_ * 15485863 + 41)
def sp_law_cell (K : PySem.W.Frag) : Sp := fun vs H Q _ => ∃ (a : Addr) (ns : List Int) (at_ : Int), vs = [.ref a, .int at_] ∧ SqL K H a (ns.map V.int) ∧ 0 ≤ at_ ∧ at_ < 1000 ∧ RetV (.int (cellV ns at_)) H Q
theorem cut1 (ns : List Int) : cutV (ns.map V.int) none (some 1) = (ns.take 1).map V.int := by
  unfold cutV
  rw [HT.sIx_none, show (1 : Int) = ((1 : Nat) : Int) from rfl, HT.sIx_nat, List.drop_zero, Nat.sub_zero, List.length_map, ← List.map_take]
  cases ns with
  | nil => rfl
  | cons x r =>
    rw [Nat.min_eq_left (by simp)]
theorem ok_law_cell (T : Tx K mg w) : OkD P w K mg base 1 d_law_cell ps_law_cell (sp_law_cell K) := by
  refine (h_law_cell T).ok sc_law_cell (fun vs H Q E h => ?_) (fun cdv A outer s H vs Q E hr h => ⟨_,
      (pss_cons (ps_if (pt_cmpR op_lt (pv 1) (pe_callB (call_min2 rfl) (by rfl) (m_min T) (by decide +kernel) (pa_cons pe_int (pa_cons (pe_callB call_len (by rfl) (m_len T) (by decide +kernel) (pa_cons (pv 0) pa_nil)) pa_nil))) (nomark _)) (pss_one (ps_ret (pe_ix ix_list (pv 0) (pv 1) (fun _ _ => rfl)))) pss_nil)
      (pss_one (ps_ret (pe_op op_add (pe_op op_add (pe_op op_mul (pe_op op_mod (pe_callTy call_int1 (by rfl) (m_int T) (by decide +kernel) (pa_cons (pe_callB (cr_sum rfl) (by rfl) (m_sum T) (by decide +kernel) (pa_cons (pe_slice sl_list (pv 0) po_none (po_some pe_int)) pa_nil)) pa_nil)) pe_int) pe_int) (pe_op op_mul (pv 1) pe_int)) pe_int)))), ?_⟩)
  · obtain ⟨a, ns, at_, rfl, _⟩ := h
    rfl
  · obtain ⟨a, ns, at_, rfl, hs, h0, h1, q⟩ := h
    refine q_when (b := decide (at_ < (if (ns.length : Int) < 63 then (ns.length : Int) else 63))) ?_ (fun hc H1 e1 => ?_) (fun hc H1 e1 => ?_)
    · have hl := rc_lenL (K := K) hs
      rw [List.length_map] at hl
      exact et_test (ev_op (ev_var rfl) (ev_cb (ea_cons ev_c (ea_cons (ev_cb (ea_cons (ev_var rfl) ea_nil) hl) ea_nil)) rc_min2) rv_I0)
    · have hlt : at_ < (if (ns.length : Int) < 63 then (ns.length : Int) else 63) := of_decide_eq_true hc
      have hlt2 : at_ < ns.length := by
        split at hlt <;> omega
      have hg : (ns.map V.int).getD at_.toNat V.non = V.int (ns.getD at_.toNat 0) := by
        rw [List.getD_eq_getElem?_getD, List.getD_eq_getElem?_getD, List.getElem?_map, List.getElem?_eq_getElem (show at_.toNat < ns.length by omega)]
        rfl
      have ha := atI_i (xs := ns.map V.int) h0 (by rw [List.length_map]; exact hlt2) V.non
      rw [hg] at ha
      refine s_ret (ev_op (by exact ev_var rfl) (by exact ev_var rfl) (rv_ixL (ex_l e1 hs) ha)) fun H2 e2 => ?_
      have q2 := q H2 (e1.trans e2)
      unfold cellV at q2
      rw [if_pos hlt] at q2
      exact q2
    · have hge : ¬ at_ < (if (ns.length : Int) < 63 then (ns.length : Int) else 63) := of_decide_eq_false hc
      have hs1 := ex_l e1 hs
      have hcut : EvL (tSl (rSlL K) (tVar 0) tNoPart (tPart (tC (.int 1)))) (L2.start ns_law_cell [.ref a, .int at_]) H1 ((ns.take 1).map V.int) := by
        rw [← cut1]
        exact el_sl (ev_var rfl) eo_none (eo_some ev_c) hs1
      have hsum := ev_cbL hcut fun p H2 hp e => rc_sum (K := K) (ns := ns.take 1) (sq_of hp)
      have hint := ev_cb (ea_cons hsum ea_nil) rc_intI
      have hmod := ev_op hint (ev_c (v := .int 1000003)) (rv_I (C := fun _ j => 0 < j) (g := fun i j => .int (i % j)) (by decide))
      refine s_ret (v := .int ((ns.take 1).sum % 1000003 * 7919 + at_ * 15485863 + 41)) (ev_op (ev_op (ev_op hmod (by exact ev_c) (rv_I (.inr ⟨by decide, by decide⟩))) (by repeat' (first | ((with_reducible refine ev_pow10 ?_ ?_ ?_) <;> first | rfl | decide) | (with_reducible refine fun (_ : _ = true) => ?_) | (with_reducible refine fun (_ : _ = false) => ?_) | (with_reducible exact ev_c) | ((with_reducible apply ev_var); rfl) | (with_reducible apply ev_op) | (with_reducible apply ev_un) | (with_reducible apply ev_cb) | (with_reducible apply ea_cons) | (with_reducible apply ev_andV) | (with_reducible apply ev_orV) | (with_reducible apply ev_notV) | (with_reducible apply ev_if) | (with_reducible apply eo_some) | (with_reducible apply el_lst) | (with_reducible exact ea_nil) | (with_reducible exact rv_I0) | (with_reducible exact ru_neg) | (with_reducible exact rv_ltS) | (with_reducible exact rv_inC) | (with_reducible exact rv_notInC) | (with_reducible exact rc_intI) | (with_reducible exact rc_intB) | (with_reducible exact rc_min2) | (with_reducible exact rc_isStr) | (with_reducible exact eo_none) | (with_reducible exact rv_inSS) | (with_reducible exact rv_notInSS) | (with_reducible exact rv_ltSS) | (with_reducible exact rv_eqSS) | (with_reducible exact rv_eqII) | (with_reducible exact rv_neII) | (with_reducible exact rv_neSS) | ((with_reducible refine rc_lenSS ?_); (first | assumption | omega | decide | (simp only [S_len] at *; omega))) | ((with_reducible refine rc_lenStr ?_); (first | assumption | omega | decide | (simp only [S_len] at *; omega))) | ((with_reducible refine rv_catSS ?_); (first | assumption | omega | decide | (simp only [S_len] at *; omega))) | (with_reducible exact rv_eq rfl) | (with_reducible exact rv_ne rfl) | ((with_reducible refine rc_lenS ?_); (first | assumption | omega | decide | (simp only [S_len] at *; omega))) | ((with_reducible refine rc_lenL ?_); assumption) | ((with_reducible apply rv_ixL); assumption; rfl) | ((with_reducible refine rv_catS ?_); (first | assumption | omega | decide | (simp only [S_len] at *; omega))) | ((with_reducible refine rv_I ?_); (first | (show (0 : Int) < _; (first | assumption | omega | decide | (simp only [S_len] at *; omega))) | exact .inr ⟨by decide, by decide⟩ | exact .inl ⟨by (first | assumption | omega | decide | (simp only [S_len] at *; omega)), by (first | assumption | omega | decide | (simp only [S_len] at *; omega))⟩ | exact .inr ⟨by (first | assumption | omega | decide | (simp only [S_len] at *; omega)), by (first | assumption | omega | decide | (simp only [S_len] at *; omega))⟩ | exact ⟨by decide, by decide, by decide⟩ | exact wide_div (b := 128) (by (first | assumption | omega | decide | (simp only [S_len] at *; omega))) (by (first | assumption | omega | decide | (simp only [S_len] at *; omega))) (by decide) (by decide))))) rv_I0) (by exact ev_c) rv_I0) fun H2 e2 => ?_
      have q2 := q H2 (e1.trans e2)
      unfold cellV at q2
      rw [if_neg hge] at q2
      exact q2
def boxV (ns : List Int) (at_ : Int) : List V := [.int (if decide ((1000000000000000000 : Int) ≤ cellV ns at_) then cellV ns at_ else 0), .int 0, .int ((cellV ns at_ + at_ * 104729) % 2147483647)]
def sp_law_box (K : PySem.W.Frag) : Sp := fun vs H Q _ => ∃ (a : Addr) (ns : List Int) (at_ : Int), vs = [.ref a, .int at_] ∧ SqL K H a (ns.map V.int) ∧ 0 ≤ at_ ∧ at_ < 1000 ∧ ∀ p H', H p = none → Ex H H' → Bx H' p → Q (.ref p) H'
theorem ok_law_box (T : Tx K mg w) : OkD P w K mg base 2 d_law_box ps_law_box (sp_law_box K) := by
  refine (h_law_box T).ok sc_law_box (fun vs H Q E h => ?_) (fun cdv A outer s H vs Q E hr h => ⟨_,
      (pss_cons (ps_set (i := 2) sc_law_box.nd rfl (Or.inl rfl) (pe_call (ok_law_cell (P := P) (w := w) (base := base) T) (hr.mono (by decide)) (by rfl) (m_law_cell T) (k_law_cell T) (b_law_cell T) .nil passN (pa_cons (pv 0) (pa_cons (pv 1) pa_nil))))
      (pss_cons (ps_set (i := 3) sc_law_box.nd rfl (Or.inl rfl) (pe_op op_mod (pe_callTy call_int1 (by rfl) (m_int T) (by decide +kernel) (pa_cons (pe_op op_add (pv 2) (pe_op op_mul (pv 1) pe_int)) pa_nil)) pe_int))
      (pss_cons (ps_if (pt_cmpR op_ge (pv 2) (pe_op op_pow pe_int pe_int) (nomark _)) (pss_one (ps_ret (pe_lst (pa_cons (pv 2) (pa_cons pe_int (pa_cons (pv 3) pa_nil)))))) pss_nil)
      (pss_one (ps_ret (pe_lst (pa_cons pe_int (pa_cons pe_int (pa_cons (pv 3) pa_nil))))))))), ?_⟩)
  · obtain ⟨a, ns, at_, rfl, _⟩ := h
    rfl
  · obtain ⟨a, ns, at_, rfl, hs, h0, h1, q⟩ := h
    refine q_asg (v := .int (cellV ns at_)) (ev_call (by repeat' (first | ((with_reducible refine ev_pow10 ?_ ?_ ?_) <;> first | rfl | decide) | (with_reducible refine fun (_ : _ = true) => ?_) | (with_reducible refine fun (_ : _ = false) => ?_) | (with_reducible exact ev_c) | ((with_reducible apply ev_var); rfl) | (with_reducible apply ev_op) | (with_reducible apply ev_un) | (with_reducible apply ev_cb) | (with_reducible apply ea_cons) | (with_reducible apply ev_andV) | (with_reducible apply ev_orV) | (with_reducible apply ev_notV) | (with_reducible apply ev_if) | (with_reducible apply eo_some) | (with_reducible apply el_lst) | (with_reducible exact ea_nil) | (with_reducible exact rv_I0) | (with_reducible exact ru_neg) | (with_reducible exact rv_ltS) | (with_reducible exact rv_inC) | (with_reducible exact rv_notInC) | (with_reducible exact rc_intI) | (with_reducible exact rc_intB) | (with_reducible exact rc_min2) | (with_reducible exact rc_isStr) | (with_reducible exact eo_none) | (with_reducible exact rv_inSS) | (with_reducible exact rv_notInSS) | (with_reducible exact rv_ltSS) | (with_reducible exact rv_eqSS) | (with_reducible exact rv_eqII) | (with_reducible exact rv_neII) | (with_reducible exact rv_neSS) | ((with_reducible refine rc_lenSS ?_); (first | assumption | omega | decide | (simp only [S_len] at *; omega))) | ((with_reducible refine rc_lenStr ?_); (first | assumption | omega | decide | (simp only [S_len] at *; omega))) | ((with_reducible refine rv_catSS ?_); (first | assumption | omega | decide | (simp only [S_len] at *; omega))) | (with_reducible exact rv_eq rfl) | (with_reducible exact rv_ne rfl) | ((with_reducible refine rc_lenS ?_); (first | assumption | omega | decide | (simp only [S_len] at *; omega))) | ((with_reducible refine rc_lenL ?_); assumption) | ((with_reducible apply rv_ixL); assumption; rfl) | ((with_reducible refine rv_catS ?_); (first | assumption | omega | decide | (simp only [S_len] at *; omega))) | ((with_reducible refine rv_I ?_); (first | (show (0 : Int) < _; (first | assumption | omega | decide | (simp only [S_len] at *; omega))) | exact .inr ⟨by decide, by decide⟩ | exact .inl ⟨by (first | assumption | omega | decide | (simp only [S_len] at *; omega)), by (first | assumption | omega | decide | (simp only [S_len] at *; omega))⟩ | exact .inr ⟨by (first | assumption | omega | decide | (simp only [S_len] at *; omega)), by (first | assumption | omega | decide | (simp only [S_len] at *; omega))⟩ | exact ⟨by decide, by decide, by decide⟩ | exact wide_div (b := 128) (by (first | assumption | omega | decide | (simp only [S_len] at *; omega))) (by (first | assumption | omega | decide | (simp only [S_len] at *; omega))) (by decide) (by decide))))) fun H1 e1 Q1 q1 E1 => ⟨a, ns, at_, rfl, ex_l e1 hs, h0, h1, q1⟩) fun H1 e1 => ?_
    generalize cellV ns at_ = cl
    refine q_asg (v := .int ((cl + at_ * 104729) % 2147483647)) (by repeat' (first | ((with_reducible refine ev_pow10 ?_ ?_ ?_) <;> first | rfl | decide) | (with_reducible refine fun (_ : _ = true) => ?_) | (with_reducible refine fun (_ : _ = false) => ?_) | (with_reducible exact ev_c) | ((with_reducible apply ev_var); rfl) | (with_reducible apply ev_op) | (with_reducible apply ev_un) | (with_reducible apply ev_cb) | (with_reducible apply ea_cons) | (with_reducible apply ev_andV) | (with_reducible apply ev_orV) | (with_reducible apply ev_notV) | (with_reducible apply ev_if) | (with_reducible apply eo_some) | (with_reducible apply el_lst) | (with_reducible exact ea_nil) | (with_reducible exact rv_I0) | (with_reducible exact ru_neg) | (with_reducible exact rv_ltS) | (with_reducible exact rv_inC) | (with_reducible exact rv_notInC) | (with_reducible exact rc_intI) | (with_reducible exact rc_intB) | (with_reducible exact rc_min2) | (with_reducible exact rc_isStr) | (with_reducible exact eo_none) | (with_reducible exact rv_inSS) | (with_reducible exact rv_notInSS) | (with_reducible exact rv_ltSS) | (with_reducible exact rv_eqSS) | (with_reducible exact rv_eqII) | (with_reducible exact rv_neII) | (with_reducible exact rv_neSS) | ((with_reducible refine rc_lenSS ?_); (first | assumption | omega | decide | (simp only [S_len] at *; omega))) | ((with_reducible refine rc_lenStr ?_); (first | assumption | omega | decide | (simp only [S_len] at *; omega))) | ((with_reducible refine rv_catSS ?_); (first | assumption | omega | decide | (simp only [S_len] at *; omega))) | (with_reducible exact rv_eq rfl) | (with_reducible exact rv_ne rfl) | ((with_reducible refine rc_lenS ?_); (first | assumption | omega | decide | (simp only [S_len] at *; omega))) | ((with_reducible refine rc_lenL ?_); assumption) | ((with_reducible apply rv_ixL); assumption; rfl) | ((with_reducible refine rv_catS ?_); (first | assumption | omega | decide | (simp only [S_len] at *; omega))) | ((with_reducible refine rv_I ?_); (first | (show (0 : Int) < _; (first | assumption | omega | decide | (simp only [S_len] at *; omega))) | exact .inr ⟨by decide, by decide⟩ | exact .inl ⟨by (first | assumption | omega | decide | (simp only [S_len] at *; omega)), by (first | assumption | omega | decide | (simp only [S_len] at *; omega))⟩ | exact .inr ⟨by (first | assumption | omega | decide | (simp only [S_len] at *; omega)), by (first | assumption | omega | decide | (simp only [S_len] at *; omega))⟩ | exact ⟨by decide, by decide, by decide⟩ | exact wide_div (b := 128) (by (first | assumption | omega | decide | (simp only [S_len] at *; omega))) (by (first | assumption | omega | decide | (simp only [S_len] at *; omega))) (by decide) (by decide))))) fun H2 e2 => ?_
    refine q_when (b := decide ((1000000000000000000 : Int) ≤ cl)) ?_ (fun hc H3 e3 => ?_) (fun hc H3 e3 => ?_)
    · exact et_test (ev_op (ev_var rfl) (ev_pow10 (by decide) (by decide) (by decide)) rv_I0)
    · exact s_retL (el_lst (by repeat' (first | ((with_reducible refine ev_pow10 ?_ ?_ ?_) <;> first | rfl | decide) | (with_reducible refine fun (_ : _ = true) => ?_) | (with_reducible refine fun (_ : _ = false) => ?_) | (with_reducible exact ev_c) | ((with_reducible apply ev_var); rfl) | (with_reducible apply ev_op) | (with_reducible apply ev_un) | (with_reducible apply ev_cb) | (with_reducible apply ea_cons) | (with_reducible apply ev_andV) | (with_reducible apply ev_orV) | (with_reducible apply ev_notV) | (with_reducible apply ev_if) | (with_reducible apply eo_some) | (with_reducible apply el_lst) | (with_reducible exact ea_nil) | (with_reducible exact rv_I0) | (with_reducible exact ru_neg) | (with_reducible exact rv_ltS) | (with_reducible exact rv_inC) | (with_reducible exact rv_notInC) | (with_reducible exact rc_intI) | (with_reducible exact rc_intB) | (with_reducible exact rc_min2) | (with_reducible exact rc_isStr) | (with_reducible exact eo_none) | (with_reducible exact rv_inSS) | (with_reducible exact rv_notInSS) | (with_reducible exact rv_ltSS) | (with_reducible exact rv_eqSS) | (with_reducible exact rv_eqII) | (with_reducible exact rv_neII) | (with_reducible exact rv_neSS) | ((with_reducible refine rc_lenSS ?_); (first | assumption | omega | decide | (simp only [S_len] at *; omega))) | ((with_reducible refine rc_lenStr ?_); (first | assumption | omega | decide | (simp only [S_len] at *; omega))) | ((with_reducible refine rv_catSS ?_); (first | assumption | omega | decide | (simp only [S_len] at *; omega))) | (with_reducible exact rv_eq rfl) | (with_reducible exact rv_ne rfl) | ((with_reducible refine rc_lenS ?_); (first | assumption | omega | decide | (simp only [S_len] at *; omega))) | ((with_reducible refine rc_lenL ?_); assumption) | ((with_reducible apply rv_ixL); assumption; rfl) | ((with_reducible refine rv_catS ?_); (first | assumption | omega | decide | (simp only [S_len] at *; omega))) | ((with_reducible refine rv_I ?_); (first | (show (0 : Int) < _; (first | assumption | omega | decide | (simp only [S_len] at *; omega))) | exact .inr ⟨by decide, by decide⟩ | exact .inl ⟨by (first | assumption | omega | decide | (simp only [S_len] at *; omega)), by (first | assumption | omega | decide | (simp only [S_len] at *; omega))⟩ | exact .inr ⟨by (first | assumption | omega | decide | (simp only [S_len] at *; omega)), by (first | assumption | omega | decide | (simp only [S_len] at *; omega))⟩ | exact ⟨by decide, by decide, by decide⟩ | exact wide_div (b := 128) (by (first | assumption | omega | decide | (simp only [S_len] at *; omega))) (by (first | assumption | omega | decide | (simp only [S_len] at *; omega))) (by decide) (by decide))))) (by simp)) fun p H4 hp e4 h4 => q p H4 (fresh_back ((e1.trans e2).trans e3) hp) (((e1.trans e2).trans e3).trans e4) ⟨_, _, _, h4⟩
    · exact s_retL (el_lst (by repeat' (first | ((with_reducible refine ev_pow10 ?_ ?_ ?_) <;> first | rfl | decide) | (with_reducible refine fun (_ : _ = true) => ?_) | (with_reducible refine fun (_ : _ = false) => ?_) | (with_reducible exact ev_c) | ((with_reducible apply ev_var); rfl) | (with_reducible apply ev_op) | (with_reducible apply ev_un) | (with_reducible apply ev_cb) | (with_reducible apply ea_cons) | (with_reducible apply ev_andV) | (with_reducible apply ev_orV) | (with_reducible apply ev_notV) | (with_reducible apply ev_if) | (with_reducible apply eo_some) | (with_reducible apply el_lst) | (with_reducible exact ea_nil) | (with_reducible exact rv_I0) | (with_reducible exact ru_neg) | (with_reducible exact rv_ltS) | (with_reducible exact rv_inC) | (with_reducible exact rv_notInC) | (with_reducible exact rc_intI) | (with_reducible exact rc_intB) | (with_reducible exact rc_min2) | (with_reducible exact rc_isStr) | (with_reducible exact eo_none) | (with_reducible exact rv_inSS) | (with_reducible exact rv_notInSS) | (with_reducible exact rv_ltSS) | (with_reducible exact rv_eqSS) | (with_reducible exact rv_eqII) | (with_reducible exact rv_neII) | (with_reducible exact rv_neSS) | ((with_reducible refine rc_lenSS ?_); (first | assumption | omega | decide | (simp only [S_len] at *; omega))) | ((with_reducible refine rc_lenStr ?_); (first | assumption | omega | decide | (simp only [S_len] at *; omega))) | ((with_reducible refine rv_catSS ?_); (first | assumption | omega | decide | (simp only [S_len] at *; omega))) | (with_reducible exact rv_eq rfl) | (with_reducible exact rv_ne rfl) | ((with_reducible refine rc_lenS ?_); (first | assumption | omega | decide | (simp only [S_len] at *; omega))) | ((with_reducible refine rc_lenL ?_); assumption) | ((with_reducible apply rv_ixL); assumption; rfl) | ((with_reducible refine rv_catS ?_); (first | assumption | omega | decide | (simp only [S_len] at *; omega))) | ((with_reducible refine rv_I ?_); (first | (show (0 : Int) < _; (first | assumption | omega | decide | (simp only [S_len] at *; omega))) | exact .inr ⟨by decide, by decide⟩ | exact .inl ⟨by (first | assumption | omega | decide | (simp only [S_len] at *; omega)), by (first | assumption | omega | decide | (simp only [S_len] at *; omega))⟩ | exact .inr ⟨by (first | assumption | omega | decide | (simp only [S_len] at *; omega)), by (first | assumption | omega | decide | (simp only [S_len] at *; omega))⟩ | exact ⟨by decide, by decide, by decide⟩ | exact wide_div (b := 128) (by (first | assumption | omega | decide | (simp only [S_len] at *; omega))) (by (first | assumption | omega | decide | (simp only [S_len] at *; omega))) (by decide) (by decide))))) (by simp)) fun p H4 hp e4 h4 => q p H4 (fresh_back ((e1.trans e2).trans e3) hp) (((e1.trans e2).trans e3).trans e4) ⟨_, _, _, h4⟩
/-! ### the law's own small defs -/
def sp_law_text : Sp := fun vs H Q _ => ∃ a b : List Nat, vs = [.str (S a), .str (S b)] ∧ RetV (.bl (decide (a = b))) H Q
theorem ok_law_text (T : Tx K mg w) : OkD P w K mg base 1 d_law_text ps_law_text sp_law_text := by
  refine (h_law_text T).ok sc_law_text (fun vs H Q E h => ?_) (fun cdv A outer s H vs Q E hr h => ⟨_,
      (pss_one (ps_ret (pe_and (pe_callB call_isi (by rfl) (m_isinstance T) (by decide +kernel) (pa_cons (pv 0) (pa_cons (pe_bltn (v := .ty "str") (u := .type "str") (by rfl) (m_str T) (by decide +kernel) rfl) pa_nil))) (pe_one (pe_cmpR op_eq (pv 0) (pv 1) (nomark _)))))), ?_⟩)
  · obtain ⟨a, b, rfl, _⟩ := h
    rfl
  · obtain ⟨a, b, rfl, q⟩ := h
    exact s_ret (v := .bl (true && decide (a = b))) (by repeat' (first | ((with_reducible refine ev_pow10 ?_ ?_ ?_) <;> first | rfl | decide) | (with_reducible refine fun (_ : _ = true) => ?_) | (with_reducible refine fun (_ : _ = false) => ?_) | (with_reducible exact ev_c) | ((with_reducible apply ev_var); rfl) | (with_reducible apply ev_op) | (with_reducible apply ev_un) | (with_reducible apply ev_cb) | (with_reducible apply ea_cons) | (with_reducible apply ev_andV) | (with_reducible apply ev_orV) | (with_reducible apply ev_notV) | (with_reducible apply ev_if) | (with_reducible apply eo_some) | (with_reducible apply el_lst) | (with_reducible exact ea_nil) | (with_reducible exact rv_I0) | (with_reducible exact ru_neg) | (with_reducible exact rv_ltS) | (with_reducible exact rv_inC) | (with_reducible exact rv_notInC) | (with_reducible exact rc_intI) | (with_reducible exact rc_intB) | (with_reducible exact rc_min2) | (with_reducible exact rc_isStr) | (with_reducible exact eo_none) | (with_reducible exact rv_inSS) | (with_reducible exact rv_notInSS) | (with_reducible exact rv_ltSS) | (with_reducible exact rv_eqSS) | (with_reducible exact rv_eqII) | (with_reducible exact rv_neII) | (with_reducible exact rv_neSS) | ((with_reducible refine rc_lenSS ?_); (first | assumption | omega | decide | (simp only [S_len] at *; omega))) | ((with_reducible refine rc_lenStr ?_); (first | assumption | omega | decide | (simp only [S_len] at *; omega))) | ((with_reducible refine rv_catSS ?_); (first | assumption | omega | decide | (simp only [S_len] at *; omega))) | (with_reducible exact rv_eq rfl) | (with_reducible exact rv_ne rfl) | ((with_reducible refine rc_lenS ?_); (first | assumption | omega | decide | (simp only [S_len] at *; omega))) | ((with_reducible refine rc_lenL ?_); assumption) | ((with_reducible apply rv_ixL); assumption; rfl) | ((with_reducible refine rv_catS ?_); (first | assumption | omega | decide | (simp only [S_len] at *; omega))) | ((with_reducible refine rv_I ?_); (first | (show (0 : Int) < _; (first | assumption | omega | decide | (simp only [S_len] at *; omega))) | exact .inr ⟨by decide, by decide⟩ | exact .inl ⟨by (first | assumption | omega | decide | (simp only [S_len] at *; omega)), by (first | assumption | omega | decide | (simp only [S_len] at *; omega))⟩ | exact .inr ⟨by (first | assumption | omega | decide | (simp only [S_len] at *; omega)), by (first | assumption | omega | decide | (simp only [S_len] at *; omega))⟩ | exact ⟨by decide, by decide, by decide⟩ | exact wide_div (b := 128) (by (first | assumption | omega | decide | (simp only [S_len] at *; omega))) (by (first | assumption | omega | decide | (simp only [S_len] at *; omega))) (by decide) (by decide))))) fun H1 e1 => q H1 e1
theorem image_eq (l : List Nat) : (List.range l.length).map (fun (i : Nat) => l.getD ((l.length : Int) - 1 - (i : Int)).toNat 0) = l.reverse := by
  apply List.ext_getElem
  · simp
  · intro i h1 h2
    rw [List.length_map, List.length_range] at h1
    rw [List.getElem_map, List.getElem_range, List.getElem_reverse, List.getD_eq_getElem?_getD]
    have e : ((l.length : Int) - 1 - (i : Int)).toNat = l.length - 1 - i := by omega
    rw [e, List.getElem?_eq_getElem (by omega)]
    rfl
def sp_law_image : Sp := fun vs H Q _ => ∃ (l : List Nat), vs = [.str (S l)] ∧ l.length ≤ 1000 ∧ RetV (.str (S l.reverse)) H Q
theorem ok_law_image (T : Tx K mg w) : OkD P w K mg base 1 d_law_image ps_law_image sp_law_image := by
  refine (h_law_image T).ok sc_law_image (fun vs H Q E h => ?_) (fun cdv A outer s H vs Q E hr h => ⟨_,
      (pss_one (ps_ret (pe_join pe_str (pe_lc (own := [("at", 1)]) (g := gName 1) rfl sc_law_image.nd (pi_range1 rfl (m_range T) (pa_cons (pe_callB call_len_str (by rfl) (m_len T) (by decide +kernel) (pa_cons (pv 0) pa_nil)) pa_nil)) (blkOk_by (own := [("at", 1)]) (N := ns_law_image) (sc := defScope st_law_image) (by decide +kernel)) (fun _ _ _ _ _ => pg_name (i := 1) sc_law_image.nd rfl (Or.inl rfl)) (fun _ _ _ _ _ => pts_nil) (fun _ _ _ _ _ => (pe_ix ix_str (pv 0) (pe_op op_sub (pe_op op_sub (pe_callB call_len_str (by rfl) (m_len T) (by decide +kernel) (pa_cons (pv 0) pa_nil)) pe_int) (pv 1)) (fun _ _ => rfl))))))), ?_⟩)
  · obtain ⟨l, rfl, _⟩ := h
    rfl
  · obtain ⟨l, rfl, hl, q⟩ := h
    simp only [kc_2, kc_3, kc_6, kc_7, kc_8, kc_9, kc_10, kc_11, kc_12, kc_13, kc_14, kc_15, kc_16, kc_17, kc_18, kc_19, kc_20, kc_21, kc_22, kc_23, kc_24, kc_25, kc_26, kc_27, kc_28]
    refine s_ret (v := .str (Txt.join (S []) (l.reverse.map fun c => S [c]))) (ev_join (by exact ev_c) ?_ (join_sz _ ?_)) fun H2 e2 => ?_
    · have h := el_lcR1 (σ := L2.start ns_law_image [V.str (S l)]) (H := H) (j := 1) (vs := [1]) (t := tYes) (te := tOp rIxS (tVar 0) (tOp (rI0 fun i j => V.int (i - j)) (tOp (rI0 fun i j => V.int (i - j)) (tCB (fun xs H Q => ∃ z, xs = [V.str z] ∧ z.length ≤ sizeLine ∧ Q (.int z.length) H) (tCons (tVar 0) tNil)) (tC (.int 1))) (tVar 1)))
        (ta := tCons (tCB (fun xs H Q => ∃ z, xs = [V.str z] ∧ z.length ≤ sizeLine ∧ Q (.int z.length) H) (tCons (tVar 0) tNil)) tNil) (fun _ => true) (fun i => V.str (S [l.getD ((l.length : Int) - 1 - (i : Int)).toNat 0])) (n := (l.length : Int)) (by repeat' (first | ((with_reducible refine ev_pow10 ?_ ?_ ?_) <;> first | rfl | decide) | (with_reducible refine fun (_ : _ = true) => ?_) | (with_reducible refine fun (_ : _ = false) => ?_) | (with_reducible exact ev_c) | ((with_reducible apply ev_var); rfl) | (with_reducible apply ev_op) | (with_reducible apply ev_un) | (with_reducible apply ev_cb) | (with_reducible apply ea_cons) | (with_reducible apply ev_andV) | (with_reducible apply ev_orV) | (with_reducible apply ev_notV) | (with_reducible apply ev_if) | (with_reducible apply eo_some) | (with_reducible apply el_lst) | (with_reducible exact ea_nil) | (with_reducible exact rv_I0) | (with_reducible exact ru_neg) | (with_reducible exact rv_ltS) | (with_reducible exact rv_inC) | (with_reducible exact rv_notInC) | (with_reducible exact rc_intI) | (with_reducible exact rc_intB) | (with_reducible exact rc_min2) | (with_reducible exact rc_isStr) | (with_reducible exact eo_none) | (with_reducible exact rv_inSS) | (with_reducible exact rv_notInSS) | (with_reducible exact rv_ltSS) | (with_reducible exact rv_eqSS) | (with_reducible exact rv_eqII) | (with_reducible exact rv_neII) | (with_reducible exact rv_neSS) | ((with_reducible refine rc_lenSS ?_); (first | assumption | omega | decide | (simp only [S_len] at *; omega))) | ((with_reducible refine rc_lenStr ?_); (first | assumption | omega | decide | (simp only [S_len] at *; omega))) | ((with_reducible refine rv_catSS ?_); (first | assumption | omega | decide | (simp only [S_len] at *; omega))) | (with_reducible exact rv_eq rfl) | (with_reducible exact rv_ne rfl) | ((with_reducible refine rc_lenS ?_); (first | assumption | omega | decide | (simp only [S_len] at *; omega))) | ((with_reducible refine rc_lenL ?_); assumption) | ((with_reducible apply rv_ixL); assumption; rfl) | ((with_reducible refine rv_catS ?_); (first | assumption | omega | decide | (simp only [S_len] at *; omega))) | ((with_reducible refine rv_I ?_); (first | (show (0 : Int) < _; (first | assumption | omega | decide | (simp only [S_len] at *; omega))) | exact .inr ⟨by decide, by decide⟩ | exact .inl ⟨by (first | assumption | omega | decide | (simp only [S_len] at *; omega)), by (first | assumption | omega | decide | (simp only [S_len] at *; omega))⟩ | exact .inr ⟨by (first | assumption | omega | decide | (simp only [S_len] at *; omega)), by (first | assumption | omega | decide | (simp only [S_len] at *; omega))⟩ | exact ⟨by decide, by decide, by decide⟩ | exact wide_div (b := 128) (by (first | assumption | omega | decide | (simp only [S_len] at *; omega))) (by (first | assumption | omega | decide | (simp only [S_len] at *; omega))) (by decide) (by decide))))) (by omega) (fun x => rfl) (fun i H2 _ _ => et_yes)
        (fun i H2 _ hi _ => ev_op (ev_var rfl) (y := .int ((l.length : Int) - 1 - (i : Int))) (by repeat' (first | ((with_reducible refine ev_pow10 ?_ ?_ ?_) <;> first | rfl | decide) | (with_reducible refine fun (_ : _ = true) => ?_) | (with_reducible refine fun (_ : _ = false) => ?_) | (with_reducible exact ev_c) | ((with_reducible apply ev_var); rfl) | (with_reducible apply ev_op) | (with_reducible apply ev_un) | (with_reducible apply ev_cb) | (with_reducible apply ea_cons) | (with_reducible apply ev_andV) | (with_reducible apply ev_orV) | (with_reducible apply ev_notV) | (with_reducible apply ev_if) | (with_reducible apply eo_some) | (with_reducible apply el_lst) | (with_reducible exact ea_nil) | (with_reducible exact rv_I0) | (with_reducible exact ru_neg) | (with_reducible exact rv_ltS) | (with_reducible exact rv_inC) | (with_reducible exact rv_notInC) | (with_reducible exact rc_intI) | (with_reducible exact rc_intB) | (with_reducible exact rc_min2) | (with_reducible exact rc_isStr) | (with_reducible exact eo_none) | (with_reducible exact rv_inSS) | (with_reducible exact rv_notInSS) | (with_reducible exact rv_ltSS) | (with_reducible exact rv_eqSS) | (with_reducible exact rv_eqII) | (with_reducible exact rv_neII) | (with_reducible exact rv_neSS) | ((with_reducible refine rc_lenSS ?_); (first | assumption | omega | decide | (simp only [S_len] at *; omega))) | ((with_reducible refine rc_lenStr ?_); (first | assumption | omega | decide | (simp only [S_len] at *; omega))) | ((with_reducible refine rv_catSS ?_); (first | assumption | omega | decide | (simp only [S_len] at *; omega))) | (with_reducible exact rv_eq rfl) | (with_reducible exact rv_ne rfl) | ((with_reducible refine rc_lenS ?_); (first | assumption | omega | decide | (simp only [S_len] at *; omega))) | ((with_reducible refine rc_lenL ?_); assumption) | ((with_reducible apply rv_ixL); assumption; rfl) | ((with_reducible refine rv_catS ?_); (first | assumption | omega | decide | (simp only [S_len] at *; omega))) | ((with_reducible refine rv_I ?_); (first | (show (0 : Int) < _; (first | assumption | omega | decide | (simp only [S_len] at *; omega))) | exact .inr ⟨by decide, by decide⟩ | exact .inl ⟨by (first | assumption | omega | decide | (simp only [S_len] at *; omega)), by (first | assumption | omega | decide | (simp only [S_len] at *; omega))⟩ | exact .inr ⟨by (first | assumption | omega | decide | (simp only [S_len] at *; omega)), by (first | assumption | omega | decide | (simp only [S_len] at *; omega))⟩ | exact ⟨by decide, by decide, by decide⟩ | exact wide_div (b := 128) (by (first | assumption | omega | decide | (simp only [S_len] at *; omega))) (by (first | assumption | omega | decide | (simp only [S_len] at *; omega))) (by decide) (by decide))))) (rv_ixSS (by omega) (by omega) (by omega)))
      rw [given_all, Int.toNat_natCast] at h
      rw [← image_eq, List.map_map, List.map_map]
      exact h
    · rw [List.length_reverse]
      omega
    · rw [join_S]
      exact q H2 e2
end
end K03
namespace K03
open PySem PySem.Spec PyProof.Rows L2 Lc Evl
section
variable {P : Program} {w : World} {K : PySem.W.Frag} {mg : Str → Option Value} {base : Heap}
/-! ### the error class -/
abbrev cI (K : PySem.W.Frag) : Addr := He.ga K "InvalidRow"
abbrev cL (K : PySem.W.Frag) : Addr := He.ga K "LeapError"
abbrev fI (K : PySem.W.Frag) : Addr := He.ma K (He.ga K "InvalidRow") "__init__"
/-- what is raised: the class, the error's dict -/
def Bad (K : PySem.W.Frag) (H : Hp) (E : XK) (z : Str) : Prop := ∀ d H', H d = none → Ex H H' → H' d = some (.xd [(("row" : Str), .str z)]) → E (.ref (cI K)) (some d) H'
def sp_InvalidRow_init (K : PySem.W.Frag) : Sp := fun vs H Q _ => ∃ (a : Addr) (l : List Nat), vs = [.ref a, .str (S l)] ∧ l.length ≤ 1000 ∧ (∀ c ∈ l, c < 128) ∧ H a = some (exo a (cI K) none) ∧
  ∀ dx, H dx = none → dx ≠ a → Q .non (upd (upd H dx (exd dx [(("row" : Str), .str (S l))])) a (exo a (cI K) (some dx)))
theorem reprS_len {l : List Nat} (h : l.length ≤ 1000) (hc : ∀ c ∈ l, c < 128) : (reprText (S l)).length ≤ 20000 := by
  have h1 := PySem.StrLaws.reprText_len (S l) fun c hm => Nat.lt_trans (hc c hm) (by decide)
  rw [S_len] at h1
  omega
theorem len_app (a b : Str) : (a ++ b).length = a.length + b.length := by
  rw [TL.len_tl, TL.len_tl, TL.len_tl, TL.tl_append, List.length_append]
theorem ok_InvalidRow_init (T : Tx K mg w) : OkD P w K mg base 1 d_InvalidRow_init ps_InvalidRow_init (sp_InvalidRow_init K) := by
  refine (h_InvalidRow_init T).ok sc_InvalidRow_init (fun vs H Q E h => ?_) (fun cdv A outer s H vs Q E hr h => ⟨_,
      (pss_cons (ps_expr (pe_ownInit (CL := cL K) (by rfl) (m_LeapError T) (by decide) (x_InvalidRow T).sp (x_InvalidRow T).rd (x_InvalidRow T).vV (pa_cons (pv 0) (pa_cons (pe_joined (.cons pe_str (.cons (pe_fmtR (pv 1)) .nil))) pa_nil))))
      (pss_one (ps_ost (pv 0) (pv 1)))), ?_⟩)
  · obtain ⟨a, l, rfl, _⟩ := h
    rfl
  · obtain ⟨a, l, rfl, hl, hc, ha, q⟩ := h
    have hrp := reprS_len hl hc
    refine ⟨_, rfl, ?_⟩
    refine ⟨_, rfl, by decide +kernel, ?_⟩
    refine ⟨_, rfl, .inl ⟨_, rfl, sz_of (by omega), ?_⟩⟩
    refine ⟨_, rfl, ?_, ?_⟩
    · rw [len_app, len_app]
      have h1 : (Str.empty).length = 0 := by decide +kernel
      have h2 : (Str.ofString "a sign is not allowed in this row: ").length ≤ 100 := by decide +kernel
      exact sz_of (by omega)
    refine ⟨a, cI K, _, rfl, by simp, (x_InvalidRow T).oex, ha, ?_⟩
    exact ⟨_, rfl, _, rfl, a, cI K, rfl, (x_InvalidRow T).oex, (x_InvalidRow T).no, .inl ⟨ha, fun dx hd hda => q dx hd hda⟩⟩
def sp_check_row (K : PySem.W.Frag) : Sp := fun vs H Q E => ∃ (l g : List Nat), vs = [.str (S l), .str (S g)] ∧ l.length ≤ 1000 ∧ g.length ≤ 1000 ∧ (∀ c ∈ l, c < 128) ∧ ((∀ c ∈ l, c ∈ g) → RetV .non H Q) ∧ ((¬ ∀ c ∈ l, c ∈ g) → Bad K H E (S l))
theorem b_check_row (T : Tx K mg w) : ∃ ds, Vals [V.str "#.:ABCDabcd"] ds ∧ Binds K (fdOf K (d_check_row.at_ K)) ps_check_row ds :=
  FunD.binds1 (ps := ps_check_row) (h_check_row T) 1 0 (by simp [He5.DefA.dvs, d_check_row]) rfl fun T kV doc pm an cdv ct us its hu hi => match us, its, hu, hi with
    | [_], [_], _, _ => ⟨_, rfl, rfl⟩
theorem bI (T : Tx K mg w) : Binds K (fdOf K (fI K)) ps_InvalidRow_init [] := b_InvalidRow_init T
theorem ok_check_row (T : Tx K mg w) : OkD P w K mg base 3 d_check_row ps_check_row (sp_check_row K) := by
  refine (h_check_row T).ok sc_check_row (fun vs H Q E h => ?_) (fun cdv A outer s H vs Q E hr h => ⟨_,
      (pss_one (ps_for (passes_of rfl) rfl (pi_str (pv 0)) (pg_name (i := 2) sc_check_row.nd rfl (Or.inl rfl))
        (pss_one (ps_if (pt_cmpR op_notIn_sign (pv 2) (pv 1) (by rfl))
          (pss_one (L2N.ps_raise rfl (L2N.takes_of rfl rfl rfl rfl) (pmkN_oex (x_InvalidRow T).oex (x_InvalidRow T).iC (x_InvalidRow T).tI (ok_InvalidRow_init (P := P) (w := w) (base := base) T) (hr.mono (by decide)) (bI T) .nil passN (by rfl) (m_InvalidRow T) (pa_cons (pv 0) pa_nil)))) pss_nil)))), ?_⟩)
  · obtain ⟨l, g, rfl, _⟩ := h
    rfl
  · obtain ⟨l, g, rfl, hl, hg, hc, q1, q2⟩ := h
    refine s_forS (l := l) (by repeat' (first | ((with_reducible refine ev_pow10 ?_ ?_ ?_) <;> first | rfl | decide) | (with_reducible refine fun (_ : _ = true) => ?_) | (with_reducible refine fun (_ : _ = false) => ?_) | (with_reducible exact ev_c) | ((with_reducible apply ev_var); rfl) | (with_reducible apply ev_op) | (with_reducible apply ev_un) | (with_reducible apply ev_cb) | (with_reducible apply ea_cons) | (with_reducible apply ev_andV) | (with_reducible apply ev_orV) | (with_reducible apply ev_notV) | (with_reducible apply ev_if) | (with_reducible apply eo_some) | (with_reducible apply el_lst) | (with_reducible exact ea_nil) | (with_reducible exact rv_I0) | (with_reducible exact ru_neg) | (with_reducible exact rv_ltS) | (with_reducible exact rv_inC) | (with_reducible exact rv_notInC) | (with_reducible exact rc_intI) | (with_reducible exact rc_intB) | (with_reducible exact rc_min2) | (with_reducible exact rc_isStr) | (with_reducible exact eo_none) | (with_reducible exact rv_inSS) | (with_reducible exact rv_notInSS) | (with_reducible exact rv_ltSS) | (with_reducible exact rv_eqSS) | (with_reducible exact rv_eqII) | (with_reducible exact rv_neII) | (with_reducible exact rv_neSS) | ((with_reducible refine rc_lenSS ?_); (first | assumption | omega | decide | (simp only [S_len] at *; omega))) | ((with_reducible refine rc_lenStr ?_); (first | assumption | omega | decide | (simp only [S_len] at *; omega))) | ((with_reducible refine rv_catSS ?_); (first | assumption | omega | decide | (simp only [S_len] at *; omega))) | (with_reducible exact rv_eq rfl) | (with_reducible exact rv_ne rfl) | ((with_reducible refine rc_lenS ?_); (first | assumption | omega | decide | (simp only [S_len] at *; omega))) | ((with_reducible refine rc_lenL ?_); assumption) | ((with_reducible apply rv_ixL); assumption; rfl) | ((with_reducible refine rv_catS ?_); (first | assumption | omega | decide | (simp only [S_len] at *; omega))) | ((with_reducible refine rv_I ?_); (first | (show (0 : Int) < _; (first | assumption | omega | decide | (simp only [S_len] at *; omega))) | exact .inr ⟨by decide, by decide⟩ | exact .inl ⟨by (first | assumption | omega | decide | (simp only [S_len] at *; omega)), by (first | assumption | omega | decide | (simp only [S_len] at *; omega))⟩ | exact .inr ⟨by (first | assumption | omega | decide | (simp only [S_len] at *; omega)), by (first | assumption | omega | decide | (simp only [S_len] at *; omega))⟩ | exact ⟨by decide, by decide, by decide⟩ | exact wide_div (b := 128) (by (first | assumption | omega | decide | (simp only [S_len] at *; omega))) (by (first | assumption | omega | decide | (simp only [S_len] at *; omega))) (by decide) (by decide))))) (fun i σ' H' => Ex H H' ∧ (∀ c ∈ l.take i, c ∈ g) ∧ ∃ kv, σ' = [some (.str (S l)), some (.str (S g)), kv]) (fun H1 e1 => ⟨e1, by simp, none, rfl⟩) ?_ ?_
    · rintro i c σ' H' hi ⟨e, hp, kv, rfl⟩
      refine s_if (b := !decide (c ∈ g)) (by first | ((with_reducible apply et_test); (repeat' (first | ((with_reducible refine ev_pow10 ?_ ?_ ?_) <;> first | rfl | decide) | (with_reducible refine fun (_ : _ = true) => ?_) | (with_reducible refine fun (_ : _ = false) => ?_) | (with_reducible exact ev_c) | ((with_reducible apply ev_var); rfl) | (with_reducible apply ev_op) | (with_reducible apply ev_un) | (with_reducible apply ev_cb) | (with_reducible apply ea_cons) | (with_reducible apply ev_andV) | (with_reducible apply ev_orV) | (with_reducible apply ev_notV) | (with_reducible apply ev_if) | (with_reducible apply eo_some) | (with_reducible apply el_lst) | (with_reducible exact ea_nil) | (with_reducible exact rv_I0) | (with_reducible exact ru_neg) | (with_reducible exact rv_ltS) | (with_reducible exact rv_inC) | (with_reducible exact rv_notInC) | (with_reducible exact rc_intI) | (with_reducible exact rc_intB) | (with_reducible exact rc_min2) | (with_reducible exact rc_isStr) | (with_reducible exact eo_none) | (with_reducible exact rv_inSS) | (with_reducible exact rv_notInSS) | (with_reducible exact rv_ltSS) | (with_reducible exact rv_eqSS) | (with_reducible exact rv_eqII) | (with_reducible exact rv_neII) | (with_reducible exact rv_neSS) | ((with_reducible refine rc_lenSS ?_); (first | assumption | omega | decide | (simp only [S_len] at *; omega))) | ((with_reducible refine rc_lenStr ?_); (first | assumption | omega | decide | (simp only [S_len] at *; omega))) | ((with_reducible refine rv_catSS ?_); (first | assumption | omega | decide | (simp only [S_len] at *; omega))) | (with_reducible exact rv_eq rfl) | (with_reducible exact rv_ne rfl) | ((with_reducible refine rc_lenS ?_); (first | assumption | omega | decide | (simp only [S_len] at *; omega))) | ((with_reducible refine rc_lenL ?_); assumption) | ((with_reducible apply rv_ixL); assumption; rfl) | ((with_reducible refine rv_catS ?_); (first | assumption | omega | decide | (simp only [S_len] at *; omega))) | ((with_reducible refine rv_I ?_); (first | (show (0 : Int) < _; (first | assumption | omega | decide | (simp only [S_len] at *; omega))) | exact .inr ⟨by decide, by decide⟩ | exact .inl ⟨by (first | assumption | omega | decide | (simp only [S_len] at *; omega)), by (first | assumption | omega | decide | (simp only [S_len] at *; omega))⟩ | exact .inr ⟨by (first | assumption | omega | decide | (simp only [S_len] at *; omega)), by (first | assumption | omega | decide | (simp only [S_len] at *; omega))⟩ | exact ⟨by decide, by decide, by decide⟩ | exact wide_div (b := 128) (by (first | assumption | omega | decide | (simp only [S_len] at *; omega))) (by (first | assumption | omega | decide | (simp only [S_len] at *; omega))) (by decide) (by decide)))))) | ((with_reducible apply et_B); (repeat' (first | ((with_reducible refine ev_pow10 ?_ ?_ ?_) <;> first | rfl | decide) | (with_reducible refine fun (_ : _ = true) => ?_) | (with_reducible refine fun (_ : _ = false) => ?_) | (with_reducible exact ev_c) | ((with_reducible apply ev_var); rfl) | (with_reducible apply ev_op) | (with_reducible apply ev_un) | (with_reducible apply ev_cb) | (with_reducible apply ea_cons) | (with_reducible apply ev_andV) | (with_reducible apply ev_orV) | (with_reducible apply ev_notV) | (with_reducible apply ev_if) | (with_reducible apply eo_some) | (with_reducible apply el_lst) | (with_reducible exact ea_nil) | (with_reducible exact rv_I0) | (with_reducible exact ru_neg) | (with_reducible exact rv_ltS) | (with_reducible exact rv_inC) | (with_reducible exact rv_notInC) | (with_reducible exact rc_intI) | (with_reducible exact rc_intB) | (with_reducible exact rc_min2) | (with_reducible exact rc_isStr) | (with_reducible exact eo_none) | (with_reducible exact rv_inSS) | (with_reducible exact rv_notInSS) | (with_reducible exact rv_ltSS) | (with_reducible exact rv_eqSS) | (with_reducible exact rv_eqII) | (with_reducible exact rv_neII) | (with_reducible exact rv_neSS) | ((with_reducible refine rc_lenSS ?_); (first | assumption | omega | decide | (simp only [S_len] at *; omega))) | ((with_reducible refine rc_lenStr ?_); (first | assumption | omega | decide | (simp only [S_len] at *; omega))) | ((with_reducible refine rv_catSS ?_); (first | assumption | omega | decide | (simp only [S_len] at *; omega))) | (with_reducible exact rv_eq rfl) | (with_reducible exact rv_ne rfl) | ((with_reducible refine rc_lenS ?_); (first | assumption | omega | decide | (simp only [S_len] at *; omega))) | ((with_reducible refine rc_lenL ?_); assumption) | ((with_reducible apply rv_ixL); assumption; rfl) | ((with_reducible refine rv_catS ?_); (first | assumption | omega | decide | (simp only [S_len] at *; omega))) | ((with_reducible refine rv_I ?_); (first | (show (0 : Int) < _; (first | assumption | omega | decide | (simp only [S_len] at *; omega))) | exact .inr ⟨by decide, by decide⟩ | exact .inl ⟨by (first | assumption | omega | decide | (simp only [S_len] at *; omega)), by (first | assumption | omega | decide | (simp only [S_len] at *; omega))⟩ | exact .inr ⟨by (first | assumption | omega | decide | (simp only [S_len] at *; omega)), by (first | assumption | omega | decide | (simp only [S_len] at *; omega))⟩ | exact ⟨by decide, by decide, by decide⟩ | exact wide_div (b := 128) (by (first | assumption | omega | decide | (simp only [S_len] at *; omega))) (by (first | assumption | omega | decide | (simp only [S_len] at *; omega))) (by decide) (by decide))))))) (fun hb H1 e1 => ?_) (fun hb H1 e1 => ?_)
      · have hcg : c ∉ g := by simpa using hb
        have hex := e.trans e1
        refine ⟨_, rfl, by simp, fun a ha => ⟨a, l, rfl, hl, hc, upd_same, fun dx hd hda => ?_⟩⟩
        rw [upd_ne hda] at hd
        refine ⟨rfl, dx, [(("row" : Str), .str (S l))], upd_same, by rw [upd_ne hda, upd_same], hd, ?_⟩
        refine q2 (fun hall => hcg (hall c (List.mem_of_getElem? hi))) dx _ (fresh_back hex hd) ?_ upd_same
        intro b o hb
        have hb1 := hex b o hb
        have n1 : b ≠ dx := fun z => by rw [z, hd] at hb1; cases hb1
        have n2 : b ≠ a := fun z => by rw [z, ha] at hb1; cases hb1
        rw [upd_ne n1, del_ne n2, upd_ne n2, upd_ne n1, upd_ne n2]
        exact hb1
      · have hcg : c ∈ g := by simpa using hb
        refine ⟨e.trans e1, ?_, _, rfl⟩
        intro x hx
        rw [List.take_add_one, List.mem_append] at hx
        rcases hx with hx | hx
        · exact hp x hx
        · rw [hi] at hx
          have : x = c := by simpa using hx
          rw [this]
          exact hcg
    · rintro σ' H' ⟨e, hp, kv, rfl⟩
      rw [List.take_length] at hp
      exact q1 hp H' e
/-! ### rows turned and mirrored -/
def SG : List Nat := [35, 46, 58, 65, 66, 67, 68, 97, 98, 99, 100]
theorem sg_eq : (V.str "#.:ABCDabcd" : V) = V.str (S SG) := congrArg V.str (by decide +kernel)
def Good (l : List Nat) : Prop := ∀ c ∈ l, c ∈ SG
def rot (l : List Nat) (s : Nat) : List Nat := l.drop s ++ l.take s
def tn (l : List Nat) (by_ : Int) : List Nat := if l = [] then l else rot l (by_ % (l.length : Int)).toNat
def Row (l : List Nat) : Prop := l.length ≤ 1000 ∧ ∀ c ∈ l, c < 128
def sp_mirror (K : PySem.W.Frag) : Sp := fun vs H Q E => ∃ l, vs = [.str (S l)] ∧ Row l ∧ (Good l → RetV (.str (S l.reverse)) H Q) ∧ (¬ Good l → Bad K H E (S l))
theorem ok_mirror (T : Tx K mg w) : OkD P w K mg base 4 d_mirror ps_mirror (sp_mirror K) := by
  obtain ⟨ds, vd, bd⟩ := b_check_row T
  refine (h_mirror T).ok sc_mirror (fun vs H Q E h => ?_) (fun cdv A outer s H vs Q E hr h => ⟨_,
      (pss_cons (ps_expr (pe_callSD (ok_check_row (P := P) (w := w) (base := base) T) (hr.mono (by decide)) (by rfl) (m_check_row T) (k_check_row T) bd vd (fun σ => L2N.passAt (L2N.takes_of rfl rfl rfl rfl) σ) (pa_cons (pv 0) pa_nil)))
      (pss_one (ps_ret (pe_revS (pv 0))))), ?_⟩)
  · obtain ⟨l, rfl, _⟩ := h
    rfl
  · obtain ⟨l, rfl, ⟨hl, hc⟩, q1, q2⟩ := h
    refine ⟨_, rfl, l, SG, by rw [sg_eq]; rfl, hl, by decide, hc, fun hg H1 e1 => ?_, fun hb => q2 hb⟩
    exact s_ret (ev_revS (w := S l) (ev_var rfl) (by rw [S_len]; omega)) fun H2 e2 => q1 hg H2 (e1.trans e2)
end
end K03
namespace K03
open PySem PySem.Spec PyProof.Rows L2 Lc Evl
section
variable {P : Program} {w : World} {K : PySem.W.Frag} {mg : Str → Option Value} {base : Heap}
/-! ### jumps: what is one -/
abbrev cJ (K : PySem.W.Frag) : Addr := He.ga K "InvalidJump"
abbrev cU (K : PySem.W.Frag) : Addr := He.ga K "Jump"
def BadJ (K : PySem.W.Frag) (H : Hp) (E : XK) (z : Str) : Prop := ∀ d H', H d = none → Ex H H' → H' d = some (.xd [(("text" : Str), .str z)]) → E (.ref (cJ K)) (some d) H'
theorem BadJ.ex {H H' : Hp} {E : XK} {z : Str} (h : BadJ K H E z) (e : Ex H H') : BadJ K H' E z := fun d H2 hd e2 hx => h d H2 (fresh_back e hd) (e.trans e2) hx
def sp_InvalidJump_init (K : PySem.W.Frag) : Sp := fun vs H Q _ => ∃ (a : Addr) (l : List Nat), vs = [.ref a, .str (S l)] ∧ l.length ≤ 1000 ∧ (∀ c ∈ l, c < 128) ∧ H a = some (exo a (cJ K) none) ∧
  ∀ dx, H dx = none → dx ≠ a → Q .non (upd (upd H dx (exd dx [(("text" : Str), .str (S l))])) a (exo a (cJ K) (some dx)))
theorem ok_InvalidJump_init (T : Tx K mg w) : OkD P w K mg base 1 d_InvalidJump_init ps_InvalidJump_init (sp_InvalidJump_init K) := by
  refine (h_InvalidJump_init T).ok sc_InvalidJump_init (fun vs H Q E h => ?_) (fun cdv A outer s H vs Q E hr h => ⟨_,
      (pss_cons (ps_expr (pe_ownInit (CL := cL K) (by rfl) (m_LeapError T) (by decide) (x_InvalidJump T).sp (x_InvalidJump T).rd (x_InvalidJump T).vV (pa_cons (pv 0) (pa_cons (pe_joined (.cons pe_str (.cons (pe_fmtR (pv 1)) .nil))) pa_nil))))
      (pss_one (ps_ost (pv 0) (pv 1)))), ?_⟩)
  · obtain ⟨a, l, rfl, _⟩ := h
    rfl
  · obtain ⟨a, l, rfl, hl, hc, ha, q⟩ := h
    have hrp := reprS_len hl hc
    refine ⟨_, rfl, ?_⟩
    refine ⟨_, rfl, by decide +kernel, ?_⟩
    refine ⟨_, rfl, .inl ⟨_, rfl, sz_of (by omega), ?_⟩⟩
    refine ⟨_, rfl, ?_, ?_⟩
    · rw [len_app, len_app]
      have h1 : (Str.empty).length = 0 := by decide +kernel
      have h2 : (Str.ofString "not a jump: ").length ≤ 100 := by decide +kernel
      exact sz_of (by omega)
    refine ⟨a, cJ K, _, rfl, by simp, (x_InvalidJump T).oex, ha, ?_⟩
    exact ⟨_, rfl, _, rfl, a, cJ K, rfl, (x_InvalidJump T).oex, (x_InvalidJump T).no, .inl ⟨ha, fun dx hd hda => q dx hd hda⟩⟩
def wys : List Str := ["right", "left", "both"]
def kL : List Nat := [97, 98, 99, 100]
def isJ (b a : List Nat) (z : Str) : Bool := decide (z ∈ wys) && (decide (b.length = 3 ∨ b.length = 4) && (decide (b.length = a.length) && (decide (b.getD (b.length - 1) 0 = 46) && (decide (a.getD 0 0 = 46) && ((b.take (b.length - 1)).all (fun c => decide (c ∈ kL)) && a.all (fun c => decide (c = 46) || decide (c ∈ kL)))))))
theorem way_at (T : Tx K mg w) (z : Str) : ∃ r, PySem.W.nsIn K (He.ga K "WAY_SIGNS") z = some r ∧ r.isSome = decide (z ∈ wys) := by
  by_cases h : z ∈ wys
  · rw [decide_eq_true h]
    simp only [wys, List.mem_cons, List.not_mem_nil, or_false] at h
    rcases h with rfl | rfl | rfl
    · obtain ⟨u, hu, _⟩ := He.valsB_ok (v_WAY_SIGNS T) (q := ("right", .str ">")) (by simp)
      exact ⟨_, hu, rfl⟩
    · obtain ⟨u, hu, _⟩ := He.valsB_ok (v_WAY_SIGNS T) (q := ("left", .str "<")) (by simp)
      exact ⟨_, hu, rfl⟩
    · obtain ⟨u, hu, _⟩ := He.valsB_ok (v_WAY_SIGNS T) (q := ("both", .str "=")) (by simp)
      exact ⟨_, hu, rfl⟩
  · exact ⟨none, no_WAY_SIGNS T h, (decide_eq_false h).symm⟩
theorem cut_m1 (l : List Nat) : cutS (S l) none (some (-1)) = S (l.take (l.length - 1)) := by
  unfold cutS
  rw [S_len, HT.sIx_none, tl_S]
  refine congrArg S ?_
  rw [List.drop_zero, Nat.sub_zero]
  refine congrArg (fun n => l.take n) ?_
  show (if (-1 : Int) < 0 then (-1 + (l.length : Int)).toNat else min (-1 : Int).toNat l.length) = l.length - 1
  rw [if_pos (by decide)]
  omega
theorem at_m1 {l : List Nat} (h : 0 < l.length) : atI l (-1) = some (l.getD (l.length - 1) 0) := by
  obtain ⟨r, v, rfl⟩ : ∃ r v, l = r ++ [v] := ⟨l.dropLast, l.getLast (List.length_pos_iff.mp h), (List.dropLast_concat_getLast _).symm⟩
  rw [atI_last]
  simp
theorem rv_ixM1 {H : Hp} {l : List Nat} (hl : l.length ≤ 100000) (h : 0 < l.length) : RV rIxS (.str (S l)) (.int (-1)) H (.str (S [l.getD (l.length - 1) 0])) := rv_ixS (by rw [S_len]; exact hl) (at_m1 h)
theorem rc_any {H : Hp} {p : Addr} {bs : List Bool} (h : SqL K H p (bs.map V.bl)) : RC (rAny K) [.ref p] H (.bl (bs.any id)) := fun H1 e _ q => ⟨p, bs, rfl, ex_l e h, q H1 (Ex.refl H1)⟩
theorem rc_all {H : Hp} {p : Addr} {bs : List Bool} (h : SqL K H p (bs.map V.bl)) : RC (rAll K) [.ref p] H (.bl (bs.all id)) := fun H1 e _ q => ⟨p, bs, rfl, ex_l e h, q H1 (Ex.refl H1)⟩
theorem ev_any {σ : L2.St} {H : Hp} {te : TE} {bs : List Bool} (h : EvL te σ H (bs.map V.bl)) : Ev (tCB (rAny K) (tCons te tNil)) σ H (.bl (bs.any id)) := ev_cbL h fun p H1 hp e => rc_any (sq_of hp)
theorem ev_all {σ : L2.St} {H : Hp} {te : TE} {bs : List Bool} (h : EvL te σ H (bs.map V.bl)) : Ev (tCB (rAll K) (tCons te tNil)) σ H (.bl (bs.all id)) := ev_cbL h fun p H1 hp e => rc_all (sq_of hp)
/-- the signs of a text, each asked -/
theorem el_mapS {σ : L2.St} {H : Hp} {tl te : TE} {l : List Nat} {j : Nat} {vs : List Nat} (f : Nat → Bool) (h : Ev tl σ H (.str (S l))) (hz : l.length ≤ 40000) (hw : ∀ x, wipe ((wipe σ vs).set j (some x)) vs = wipe σ vs)
    (he : ∀ (c : Nat) H1, Ex H H1 → c ∈ l → Ev te ((wipe σ vs).set j (some (.str (S [c])))) H1 (.bl (f c))) : EvL (tLc (iStr tl) (gName j) tYes te vs) σ H ((l.map f).map V.bl) := by
  have h2 := el_lcS (t := tYes) (te := te) (j := j) (vs := vs) (fun _ => true) (fun i => V.bl (f (l.getD i 0))) h hz hw (fun i c H1 _ _ => et_yes) (fun i c H1 e hi _ => by
    have e0 : l.getD i 0 = c := by
      rw [List.getD_eq_getElem?_getD, hi]
      rfl
    rw [e0]
    exact he c H1 e (List.mem_of_getElem? hi))
  rw [given_all] at h2
  have e1 : (l.map f).map V.bl = (List.range l.length).map fun i => V.bl (f (l.getD i 0)) := by
    apply List.ext_getElem
    · simp
    · intro i h1 h2
      simp at h1
      simp [h1]
  rw [e1]
  exact h2
theorem sg1 {c a : Nat} : decide ([c] = [a]) = decide (c = a) := by simp
theorem b3t {A B C D : Bool} (h : (!A || (!B || !C)) = true) : (A && (B && (C && D))) = false := by
  cases A <;> cases B <;> cases C <;> simp_all
theorem b3f {A B C : Bool} (h : (!A || (!B || !C)) = false) : A = true ∧ B = true ∧ C = true := by
  cases A <;> cases B <;> cases C <;> simp_all
theorem b2t {A B D : Bool} (h : (!A || !B) = true) : (A && (B && D)) = false := by
  cases A <;> cases B <;> simp_all
theorem b2f {A B : Bool} (h : (!A || !B) = false) : A = true ∧ B = true := by
  cases A <;> cases B <;> simp_all
theorem in34 (n : Nat) : inV (.int (n : Int)) [.int 3, .int 4] = decide (n = 3 ∨ n = 4) := by
  rw [Bool.eq_iff_iff]
  simp [inV, eqV]
  omega
theorem any_no {l : List Nat} {f : Nat → Bool} : (l.map fun c => !f c).any id = !l.all f := by
  induction l with
  | nil => rfl
  | cons x r ih =>
    rw [List.map_cons, List.any_cons, ih, List.all_cons]
    cases f x <;> simp
theorem all_id {l : List Nat} {f : Nat → Bool} : (l.map f).all id = l.all f := by
  induction l with
  | nil => rfl
  | cons x r ih =>
    rw [List.map_cons, List.all_cons, ih, List.all_cons]
    rfl
def sp_is_jump : Sp := fun vs H Q _ => ∃ (b a : List Nat) (z : Str), vs = [.str (S b), .str (S a), .str z] ∧ b.length ≤ 1000 ∧ a.length ≤ 1000 ∧ RetV (.bl (isJ b a z)) H Q
theorem ok_is_jump (T : Tx K mg w) : OkD P w K mg base 1 d_is_jump ps_is_jump sp_is_jump := by
  refine (h_is_jump T).ok sc_is_jump (fun vs H Q E h => ?_) (fun cdv A outer s H vs Q E hr h => ⟨_,
      (pss_cons (ps_if (PW.pt (pw_or (pt_cmpR (op_notIn_kd (t_WAY_SIGNS T).choose_spec.choose_spec) (pv 2) (pe_glob (v := .ref (He.ga K "WAY_SIGNS")) rfl (m_WAY_SIGNS T) rfl) (by rfl)) (pw_or (pt_cmpR op_notIn_seq (pe_callB call_len_str (by rfl) (m_len T) (by decide +kernel) (pa_cons (pv 0) pa_nil)) (pe_tup (pa_cons pe_int (pa_cons pe_int pa_nil))) (by rfl)) (pw_or1 (pt_cmpR op_ne (pe_callB call_len_str (by rfl) (m_len T) (by decide +kernel) (pa_cons (pv 0) pa_nil)) (pe_callB call_len_str (by rfl) (m_len T) (by decide +kernel) (pa_cons (pv 1) pa_nil)) (nomark _)))))) (pss_one (ps_ret pe_bl)) pss_nil)
      (pss_cons (ps_if (PW.pt (pw_or (pt_cmpR op_ne (pe_ix ix_str (pv 0) (pe_un un_neg pe_int) (fun _ _ => rfl)) pe_str (nomark _)) (pw_or1 (pt_cmpR op_ne (pe_ix ix_str (pv 1) pe_int (fun _ _ => rfl)) pe_str (nomark _))))) (pss_one (ps_ret pe_bl)) pss_nil)
      (pss_cons (ps_if (pt_val (pe_callB (cr_any rfl) (by rfl) (m_any T) (by decide +kernel) (pa_cons (pe_lc (own := [("sign", 3)]) (g := gName 3) rfl sc_is_jump.nd (pi_str (pe_slice sl_str (pv 0) po_none (po_some (pe_un un_neg pe_int)))) (blkOk_by (own := [("sign", 3)]) (N := ns_is_jump) (sc := defScope st_is_jump) (by decide +kernel)) (fun _ _ _ _ _ => pg_name (i := 3) sc_is_jump.nd rfl (Or.inl rfl)) (fun _ _ _ _ _ => pts_nil) (fun _ _ _ _ _ => (pe_cmpR op_notIn_sign (pv 3) (pe_glob (v := .str "abcd") rfl (m_KINDS T).choose_spec ⟨_, rfl⟩) (by rfl)))) pa_nil))) (pss_one (ps_ret pe_bl)) pss_nil)
      (pss_one (ps_ret (pe_callB (cr_all rfl) (by rfl) (m_all T) (by decide +kernel) (pa_cons (pe_lc (own := [("sign", 3)]) (g := gName 3) rfl sc_is_jump.nd (pi_str (pv 1)) (blkOk_by (own := [("sign", 3)]) (N := ns_is_jump) (sc := defScope st_is_jump) (by decide +kernel)) (fun _ _ _ _ _ => pg_name (i := 3) sc_is_jump.nd rfl (Or.inl rfl)) (fun _ _ _ _ _ => pts_nil) (fun _ _ _ _ _ => (pe_or (pe_cmpR op_eq (pv 3) pe_str (nomark _)) (pe_one (pe_cmpR op_in_sign (pv 3) (pe_glob (v := .str "abcd") rfl (m_KINDS T).choose_spec ⟨_, rfl⟩) (by rfl)))))) pa_nil))))))), ?_⟩)
  · obtain ⟨b, a, z, rfl, _⟩ := h
    rfl
  · obtain ⟨b, a, z, rfl, hb, ha, q⟩ := h
    obtain ⟨r, hr1, hr2⟩ := way_at T z
    simp only [kc_2, kc_3, kc_6, kc_7, kc_8, kc_9, kc_10, kc_11, kc_12, kc_13, kc_14, kc_15, kc_16, kc_17, kc_18, kc_19, kc_20, kc_21, kc_22, kc_23, kc_24, kc_25, kc_26, kc_27, kc_28]
    have e1 : decide ((b.length : Int) = (a.length : Int)) = decide (b.length = a.length) := decide_eq_decide.mpr ⟨fun h => by omega, fun h => by omega⟩
    refine q_when (b := (!r.isSome || (!inV (.int (b.length : Int)) [.int 3, .int 4] || !decide ((b.length : Int) = (a.length : Int))))) (et_or (et_test (ev_op (by exact ev_var rfl) ev_c (rv_val fun H1 e Q q => ⟨z, r, rfl, rfl, hr1, q⟩))) fun _ => et_or (et_test (ev_niU (by repeat' (first | ((with_reducible refine ev_pow10 ?_ ?_ ?_) <;> first | rfl | decide) | (with_reducible refine fun (_ : _ = true) => ?_) | (with_reducible refine fun (_ : _ = false) => ?_) | (with_reducible exact ev_c) | ((with_reducible apply ev_var); rfl) | (with_reducible apply ev_op) | (with_reducible apply ev_un) | (with_reducible apply ev_cb) | (with_reducible apply ea_cons) | (with_reducible apply ev_andV) | (with_reducible apply ev_orV) | (with_reducible apply ev_notV) | (with_reducible apply ev_if) | (with_reducible apply eo_some) | (with_reducible apply el_lst) | (with_reducible exact ea_nil) | (with_reducible exact rv_I0) | (with_reducible exact ru_neg) | (with_reducible exact rv_ltS) | (with_reducible exact rv_inC) | (with_reducible exact rv_notInC) | (with_reducible exact rc_intI) | (with_reducible exact rc_intB) | (with_reducible exact rc_min2) | (with_reducible exact rc_isStr) | (with_reducible exact eo_none) | (with_reducible exact rv_inSS) | (with_reducible exact rv_notInSS) | (with_reducible exact rv_ltSS) | (with_reducible exact rv_eqSS) | (with_reducible exact rv_eqII) | (with_reducible exact rv_neII) | (with_reducible exact rv_neSS) | ((with_reducible refine rc_lenSS ?_); (first | assumption | omega | decide | (simp only [S_len] at *; omega))) | ((with_reducible refine rc_lenStr ?_); (first | assumption | omega | decide | (simp only [S_len] at *; omega))) | ((with_reducible refine rv_catSS ?_); (first | assumption | omega | decide | (simp only [S_len] at *; omega))) | (with_reducible exact rv_eq rfl) | (with_reducible exact rv_ne rfl) | ((with_reducible refine rc_lenS ?_); (first | assumption | omega | decide | (simp only [S_len] at *; omega))) | ((with_reducible refine rc_lenL ?_); assumption) | ((with_reducible apply rv_ixL); assumption; rfl) | ((with_reducible refine rv_catS ?_); (first | assumption | omega | decide | (simp only [S_len] at *; omega))) | ((with_reducible refine rv_I ?_); (first | (show (0 : Int) < _; (first | assumption | omega | decide | (simp only [S_len] at *; omega))) | exact .inr ⟨by decide, by decide⟩ | exact .inl ⟨by (first | assumption | omega | decide | (simp only [S_len] at *; omega)), by (first | assumption | omega | decide | (simp only [S_len] at *; omega))⟩ | exact .inr ⟨by (first | assumption | omega | decide | (simp only [S_len] at *; omega)), by (first | assumption | omega | decide | (simp only [S_len] at *; omega))⟩ | exact ⟨by decide, by decide, by decide⟩ | exact wide_div (b := 128) (by (first | assumption | omega | decide | (simp only [S_len] at *; omega))) (by (first | assumption | omega | decide | (simp only [S_len] at *; omega))) (by decide) (by decide))))) (eu_tup (ea_cons ev_c (ea_cons ev_c ea_nil)) (by decide)) rfl rfl)) fun _ => et_test (by repeat' (first | ((with_reducible refine ev_pow10 ?_ ?_ ?_) <;> first | rfl | decide) | (with_reducible refine fun (_ : _ = true) => ?_) | (with_reducible refine fun (_ : _ = false) => ?_) | (with_reducible exact ev_c) | ((with_reducible apply ev_var); rfl) | (with_reducible apply ev_op) | (with_reducible apply ev_un) | (with_reducible apply ev_cb) | (with_reducible apply ea_cons) | (with_reducible apply ev_andV) | (with_reducible apply ev_orV) | (with_reducible apply ev_notV) | (with_reducible apply ev_if) | (with_reducible apply eo_some) | (with_reducible apply el_lst) | (with_reducible exact ea_nil) | (with_reducible exact rv_I0) | (with_reducible exact ru_neg) | (with_reducible exact rv_ltS) | (with_reducible exact rv_inC) | (with_reducible exact rv_notInC) | (with_reducible exact rc_intI) | (with_reducible exact rc_intB) | (with_reducible exact rc_min2) | (with_reducible exact rc_isStr) | (with_reducible exact eo_none) | (with_reducible exact rv_inSS) | (with_reducible exact rv_notInSS) | (with_reducible exact rv_ltSS) | (with_reducible exact rv_eqSS) | (with_reducible exact rv_eqII) | (with_reducible exact rv_neII) | (with_reducible exact rv_neSS) | ((with_reducible refine rc_lenSS ?_); (first | assumption | omega | decide | (simp only [S_len] at *; omega))) | ((with_reducible refine rc_lenStr ?_); (first | assumption | omega | decide | (simp only [S_len] at *; omega))) | ((with_reducible refine rv_catSS ?_); (first | assumption | omega | decide | (simp only [S_len] at *; omega))) | (with_reducible exact rv_eq rfl) | (with_reducible exact rv_ne rfl) | ((with_reducible refine rc_lenS ?_); (first | assumption | omega | decide | (simp only [S_len] at *; omega))) | ((with_reducible refine rc_lenL ?_); assumption) | ((with_reducible apply rv_ixL); assumption; rfl) | ((with_reducible refine rv_catS ?_); (first | assumption | omega | decide | (simp only [S_len] at *; omega))) | ((with_reducible refine rv_I ?_); (first | (show (0 : Int) < _; (first | assumption | omega | decide | (simp only [S_len] at *; omega))) | exact .inr ⟨by decide, by decide⟩ | exact .inl ⟨by (first | assumption | omega | decide | (simp only [S_len] at *; omega)), by (first | assumption | omega | decide | (simp only [S_len] at *; omega))⟩ | exact .inr ⟨by (first | assumption | omega | decide | (simp only [S_len] at *; omega)), by (first | assumption | omega | decide | (simp only [S_len] at *; omega))⟩ | exact ⟨by decide, by decide, by decide⟩ | exact wide_div (b := 128) (by (first | assumption | omega | decide | (simp only [S_len] at *; omega))) (by (first | assumption | omega | decide | (simp only [S_len] at *; omega))) (by decide) (by decide)))))) (fun hc H1 e1' => ?_) (fun hc H1 e1' => ?_)
    · rw [hr2, in34, e1] at hc
      refine s_ret ev_c fun H2 e2 => ?_
      have q2 := q H2 (e1'.trans e2)
      unfold isJ at q2
      rw [b3t hc] at q2
      exact q2
    · rw [hr2, in34, e1] at hc
      obtain ⟨c1, c2, c3⟩ := b3f hc
      have c2' := of_decide_eq_true c2
      have c3' := of_decide_eq_true c3
      refine q_when (b := (!decide ([b.getD (b.length - 1) 0] = [46]) || !decide ([a.getD 0 0] = [46]))) (et_or (et_test (ev_op (ev_op (by exact ev_var rfl) (ev_un ev_c ru_neg) (rv_ixM1 (by omega) (by omega))) ev_c rv_neSS)) fun _ => et_test (ev_op (ev_op (by exact ev_var rfl) ev_c (rv_ixSS (i := 0) (by omega) (by decide) (by omega))) ev_c rv_neSS)) (fun hc H2 e2 => ?_) (fun hc H2 e2 => ?_)
      · rw [sg1, sg1] at hc
        refine s_ret ev_c fun H3 e3 => ?_
        have q2 := q H3 ((e1'.trans e2).trans e3)
        unfold isJ at q2
        rw [c1, c2, c3, b2t hc] at q2
        exact q2
      · rw [sg1, sg1] at hc
        obtain ⟨c4, c5⟩ := b2f hc
        have hsl : Ev (tSl rSlS (tVar 0) tNoPart (tPart (tUn (rU fun i => V.int (-i)) (tC (V.int 1))))) (L2.start ns_is_jump [V.str (S b), V.str (S a), V.str z]) H2 (.str (S (b.take (b.length - 1)))) := by
          have h := ev_slS (σ := L2.start ns_is_jump [V.str (S b), V.str (S a), V.str z]) (H := H2) (te := tVar 0) (tl := tNoPart) (th := tPart (tUn (rU fun i => V.int (-i)) (tC (V.int 1)))) (w := S b) (lo := none) (hi := some (-1)) (ev_var rfl) eo_none (eo_some (ev_un ev_c ru_neg)) (by rw [S_len]; omega)
          rw [cut_m1] at h
          exact h
        refine q_when (b := ((b.take (b.length - 1)).map fun c => !decide (c ∈ kL)).any id) (et_B (ev_any (el_mapS (fun c => !decide (c ∈ kL)) hsl (by rw [List.length_take]; omega) (fun x => rfl) fun c H1 e hc => ev_op (ev_var rfl) ev_c rv_notInSS))) (fun hc H3 e3 => ?_) (fun hc H3 e3 => ?_)
        · rw [any_no] at hc
          refine s_ret ev_c fun H4 e4 => ?_
          have q2 := q H4 (((e1'.trans e2).trans e3).trans e4)
          unfold isJ at q2
          rw [c1, c2, c3, c4, c5, (by simpa using hc : (b.take (b.length - 1)).all (fun c => decide (c ∈ kL)) = false)] at q2
          exact q2
        · rw [any_no] at hc
          refine s_ret (v := .bl ((a.map fun c => (decide ([c] = [46]) || decide (c ∈ kL))).all id)) (ev_all (el_mapS (fun c => (decide ([c] = [46]) || decide (c ∈ kL))) (by exact ev_var rfl) (by omega) (fun x => rfl) fun c H1 e hc => ev_orV (ev_op (ev_var rfl) ev_c rv_eqSS) fun _ => ev_op (ev_var rfl) ev_c rv_inSS)) fun H4 e4 => ?_
          have q2 := q H4 (((e1'.trans e2).trans e3).trans e4)
          unfold isJ at q2
          rw [c1, c2, c3, c4, c5, (by simpa using hc : (b.take (b.length - 1)).all (fun c => decide (c ∈ kL)) = true)] at q2
          rw [all_id]
          simp only [sg1]
          exact q2
end
end K03
namespace K03
open PySem PySem.Spec PyProof.Rows L2 Lc Evl
section
variable {P : Program} {w : World} {K : PySem.W.Frag} {mg : Str → Option Value} {base : Heap}
/-! ### jumps as objects -/
def JF (b a : List Nat) (z : Str) : List (Str × V) := [("before", .str (S b)), ("after", .str (S a)), ("ways", .str z)]
def IsJ (K : PySem.W.Frag) (H : Hp) (j : Addr) (b a : List Nat) (z : Str) : Prop := ∃ dx, H j = some (.ins (cU K) dx (JF b a z))
theorem IsJ.ex {H H' : Hp} {j : Addr} {b a : List Nat} {z : Str} (h : IsJ K H j b a z) (e : Ex H H') : IsJ K H' j b a z := by
  obtain ⟨dx, h⟩ := h
  exact ⟨dx, e _ _ h⟩
def sp_Jump_init (K : PySem.W.Frag) : Sp := fun vs H Q E => ∃ (j dx : Addr) (b a : List Nat) (z : Str), vs = [.ref j, .str (S b), .str (S a), .str z] ∧ b.length ≤ 1000 ∧ a.length ≤ 1000 ∧ (∀ c ∈ b, c < 128) ∧ H j = some (.ins (cU K) dx []) ∧
  (isJ b a z = true → ∀ H', ExB j H H' → IsJ K H' j b a z → Q .non H') ∧ (isJ b a z = false → BadJ K H E (S b))
theorem ev_isj {σ : L2.St} {H : Hp} {t1 t2 t3 : TE} {b a : List Nat} {z : Str} (h1 : Ev t1 σ H (.str (S b))) (h2 : Ev t2 σ H (.str (S a))) (h3 : Ev t3 σ H (.str z)) (hb : b.length ≤ 1000) (ha : a.length ≤ 1000) :
    Ev (tCall sp_is_jump [] E0 (tCons t1 (tCons t2 (tCons t3 tNil)))) σ H (.bl (isJ b a z)) := ev_call (ea_cons h1 (ea_cons h2 (ea_cons h3 ea_nil))) fun H1 e1 Q q E => ⟨b, a, z, rfl, hb, ha, q⟩
theorem not_t {b : Bool} (h : (!b) = true) : b = false := by simpa using h
theorem not_f {b : Bool} (h : (!b) = false) : b = true := by simpa using h
theorem ok_Jump_init (T : Tx K mg w) : OkD P w K mg base 3 d_Jump_init ps_Jump_init (sp_Jump_init K) := by
  refine (h_Jump_init T).ok sc_Jump_init (fun vs H Q E h => ?_) (fun cdv A outer s H vs Q E hr h => ⟨_,
      (pss_cons (ps_if (pt_not (pt_val (pe_call (ok_is_jump (P := P) (w := w) (base := base) T) (hr.mono (by decide)) (by rfl) (m_is_jump T) (k_is_jump T) (b_is_jump T) .nil passN (pa_cons (pv 1) (pa_cons (pv 2) (pa_cons (pv 3) pa_nil)))))) (pss_one (L2N.ps_raise rfl (L2N.takes_of rfl rfl rfl rfl) (pmkN_oex (x_InvalidJump T).oex (x_InvalidJump T).iC (x_InvalidJump T).tI (ok_InvalidJump_init (P := P) (w := w) (base := base) T) (hr.mono (by decide)) (b_InvalidJump_init T) .nil passN (by rfl) (m_InvalidJump T) (pa_cons (pv 1) pa_nil)))) pss_nil)
      (pss_cons (ps_fld (pv 0) (pv 1) rfl)
      (pss_cons (ps_fld (pv 0) (pv 2) rfl)
      (pss_one (ps_fld (pv 0) (pv 3) rfl))))), ?_⟩)
  · obtain ⟨j, dx, b, a, z, rfl, _⟩ := h
    rfl
  · obtain ⟨j, dx, b, a, z, rfl, hb, ha, hc, hj, q1, q2⟩ := h
    refine q_when (b := !isJ b a z) (et_not (et_test (ev_isj (by exact ev_var rfl) (by exact ev_var rfl) (by exact ev_var rfl) hb ha))) (fun hc1 H1 e1 => ?_) (fun hc1 H1 e1 => ?_)
    · refine ⟨_, rfl, by simp, fun x hx => ⟨x, b, rfl, hb, hc, upd_same, fun dy hd hda => ?_⟩⟩
      rw [upd_ne hda] at hd
      refine ⟨rfl, dy, [(("text" : Str), .str (S b))], upd_same, by rw [upd_ne hda, upd_same], hd, ?_⟩
      refine q2 (not_t hc1) dy _ (fresh_back e1 hd) ?_ upd_same
      intro p o hp
      have hp1 := e1 p o hp
      have n1 : p ≠ dy := fun z => by rw [z, hd] at hp1; cases hp1
      have n2 : p ≠ x := fun z => by rw [z, hx] at hp1; cases hp1
      rw [upd_ne n1, del_ne n2, upd_ne n2, upd_ne n1, upd_ne n2]
      exact hp1
    · refine ⟨_, rfl, _, rfl, j, cU K, dx, _, rfl, e1 _ _ hj, c_Jump T, n_Jump_before T, by decide, ?_⟩
      refine ⟨_, rfl, _, rfl, j, cU K, dx, _, rfl, upd_same, c_Jump T, n_Jump_after T, by simp [putF], ?_⟩
      refine ⟨_, rfl, _, rfl, j, cU K, dx, _, rfl, upd_same, c_Jump T, n_Jump_ways T, by simp [putF]; split <;> simp, ?_⟩
      refine q1 (not_f hc1) _ (((ExB.of e1).trans (ExB.upd.trans ExB.upd)).trans ExB.upd) ⟨dx, ?_⟩
      rw [upd_same]
      rfl
/-- an expression whose value is a field of a jump -/
theorem ev_fld {σ : L2.St} {H : Hp} {te : TE} {j dx : Addr} {fs : List (Str × V)} {f : Str} {v : V} (T : Tx K mg w) (h : Ev te σ H (.ref j)) (hj : H j = some (.ins (cU K) dx fs)) (n : NoAttr K (cU K) f) (l : fs.lookup f = some v) : Ev (tFld K te f) σ H v := fun H1 e Q q =>
  h H1 e _ fun H2 e2 => ⟨j, cU K, dx, fs, v, rfl, (e.trans e2) _ _ hj, c_Jump T, n, l, q H2 e2⟩
theorem ev_before {σ : L2.St} {H : Hp} {te : TE} {j : Addr} {b a : List Nat} {z : Str} (T : Tx K mg w) (h : Ev te σ H (.ref j)) (hj : IsJ K H j b a z) : Ev (tFld K te "before") σ H (.str (S b)) := by
  obtain ⟨dx, hj⟩ := hj
  exact ev_fld T h hj (n_Jump_before T) rfl
theorem ev_after {σ : L2.St} {H : Hp} {te : TE} {j : Addr} {b a : List Nat} {z : Str} (T : Tx K mg w) (h : Ev te σ H (.ref j)) (hj : IsJ K H j b a z) : Ev (tFld K te "after") σ H (.str (S a)) := by
  obtain ⟨dx, hj⟩ := hj
  exact ev_fld T h hj (n_Jump_after T) rfl
theorem ev_ways {σ : L2.St} {H : Hp} {te : TE} {j : Addr} {b a : List Nat} {z : Str} (T : Tx K mg w) (h : Ev te σ H (.ref j)) (hj : IsJ K H j b a z) : Ev (tFld K te "ways") σ H (.str z) := by
  obtain ⟨dx, hj⟩ := hj
  exact ev_fld T h hj (n_Jump_ways T) rfl
theorem rv_eqTT {H : Hp} {a b : Str} : RV rEq (.str a) (.str b) H (.bl (decide (a = b))) := by
  have h2 := rv_eq (H := H) (x := .str a) (y := .str b) rfl
  have e : decide (V.str a = V.str b) = decide (a = b) := decide_eq_decide.mpr ⟨fun h => by injection h, fun h => by rw [h]⟩
  rw [e] at h2
  exact h2
theorem rv_neTT {H : Hp} {a b : Str} : RV rNe (.str a) (.str b) H (.bl (!decide (a = b))) := by
  have h2 := rv_ne (H := H) (x := .str a) (y := .str b) rfl
  have e : decide (V.str a = V.str b) = decide (a = b) := decide_eq_decide.mpr ⟨fun h => by injection h, fun h => by rw [h]⟩
  rw [e] at h2
  exact h2
theorem rc_isJump {H : Hp} {j : Addr} {b a : List Nat} {z : Str} (h : IsJ K H j b a z) : RC (rIsOwn (cU K)) [.ref j, .ref (cU K)] H (.bl true) := fun H1 e _ q => by
  obtain ⟨dx, h⟩ := h
  exact ⟨j, dx, _, rfl, e _ _ h, q H1 (Ex.refl H1)⟩
def sp_Jump_eq (K : PySem.W.Frag) : Sp := fun vs H Q _ => ∃ (j k : Addr) (b a b2 a2 : List Nat) (z z2 : Str), vs = [.ref j, .ref k] ∧ IsJ K H j b a z ∧ IsJ K H k b2 a2 z2 ∧ RetV (.bl (decide (b = b2) && (decide (a = a2) && decide (z = z2)))) H Q
theorem ok_Jump_eq (T : Tx K mg w) : OkD P w K mg base 1 d_Jump_eq ps_Jump_eq (sp_Jump_eq K) := by
  refine (h_Jump_eq T).ok sc_Jump_eq (fun vs H Q E h => ?_) (fun cdv A outer s H vs Q E hr h => ⟨_,
      (pss_one (ps_ret (pe_and (pe_callB (call_isOwn (C := He.ga K "Jump")) (by rfl) (m_isinstance T) (by decide +kernel) (pa_cons (pv 1) (pa_cons (pe_glob (v := .ref (He.ga K "Jump")) rfl (m_Jump T) rfl) pa_nil))) (pe_and (pe_cmpR op_eq (pe_fld (pv 0) rfl) (pe_fld (pv 1) rfl) (nomark _)) (pe_and (pe_cmpR op_eq (pe_fld (pv 0) rfl) (pe_fld (pv 1) rfl) (nomark _)) (pe_one (pe_cmpR op_eq (pe_fld (pv 0) rfl) (pe_fld (pv 1) rfl) (nomark _)))))))), ?_⟩)
  · obtain ⟨j, k, b, a, b2, a2, z, z2, rfl, _⟩ := h
    rfl
  · obtain ⟨j, k, b, a, b2, a2, z, z2, rfl, h1, h2, q⟩ := h
    refine s_ret (v := .bl (true && (decide (b = b2) && (decide (a = a2) && decide (z = z2))))) (ev_andV (ev_cb (ea_cons (by exact ev_var rfl) (ea_cons ev_c ea_nil)) (rc_isJump h2)) fun _ => ev_andV (ev_op (ev_before T (by exact ev_var rfl) h1) (ev_before T (by exact ev_var rfl) h2) rv_eqSS) fun _ => ev_andV (ev_op (ev_after T (by exact ev_var rfl) h1) (ev_after T (by exact ev_var rfl) h2) rv_eqSS) fun _ => ev_op (ev_ways T (by exact ev_var rfl) h1) (ev_ways T (by exact ev_var rfl) h2) rv_eqTT) fun H1 e1 => ?_
    exact q H1 e1
/-! ### written -/
def wsg (z : Str) : List Nat := if z = "right" then [62] else if z = "left" then [60] else [61]
def sp_Jump_str (K : PySem.W.Frag) : Sp := fun vs H Q _ => ∃ (j : Addr) (b a : List Nat) (z : Str), vs = [.ref j] ∧ IsJ K H j b a z ∧ b.length ≤ 1000 ∧ a.length ≤ 1000 ∧ z ∈ wys ∧ RetV (.str (S (b ++ wsg z ++ a))) H Q
theorem kdct_ways (T : Tx K mg w) {z : Str} (h : z ∈ wys) : KDct K w (He.ga K "WAY_SIGNS") z (.str (S (wsg z))) := by
  obtain ⟨es, n, D⟩ := t_WAY_SIGNS T
  simp only [wys, List.mem_cons, List.not_mem_nil, or_false] at h
  rcases h with rfl | rfl | rfl
  · obtain ⟨u, hu, hr⟩ := He.valsB_ok (v_WAY_SIGNS T) (q := ("right", .str ">")) (by simp)
    exact ⟨es, n, u, D.at_, D.lit, hu, hr⟩
  · obtain ⟨u, hu, hr⟩ := He.valsB_ok (v_WAY_SIGNS T) (q := ("left", .str "<")) (by simp)
    exact ⟨es, n, u, D.at_, D.lit, hu, hr⟩
  · obtain ⟨u, hu, hr⟩ := He.valsB_ok (v_WAY_SIGNS T) (q := ("both", .str "=")) (by simp)
    exact ⟨es, n, u, D.at_, D.lit, hu, hr⟩
theorem ok_Jump_str (T : Tx K mg w) : OkD P w K mg base 1 d_Jump_str ps_Jump_str (sp_Jump_str K) := by
  refine (h_Jump_str T).ok sc_Jump_str (fun vs H Q E h => ?_) (fun cdv A outer s H vs Q E hr h => ⟨_,
      (pss_one (ps_ret (pe_joined (.cons (pe_fmt (pe_fld (pv 0) rfl)) (.cons (pe_fmt (pe_ix ix_kdict (pe_glob (v := .ref (He.ga K "WAY_SIGNS")) rfl (m_WAY_SIGNS T) rfl) (pe_fld (pv 0) rfl) (fun _ _ => rfl))) (.cons (pe_fmt (pe_fld (pv 0) rfl)) .nil)))))), ?_⟩)
  · obtain ⟨j, b, a, z, rfl, _⟩ := h
    rfl
  · obtain ⟨j, b, a, z, rfl, hj, hb, ha, hz, q⟩ := h
    have hj0 := hj
    obtain ⟨dx, hj⟩ := hj
    have ew : (wsg z).length ≤ 1 := by
      unfold wsg
      split
      · decide
      · split <;> decide
    have e0 : Str.empty ++ S b = S b := by
      have h := S_app [] b
      exact h
    dsimp only [tRet, tJs, tFmt]
    refine ev_before (σ := L2.start ns_Jump_str [V.ref j]) (te := tVar 0) T (ev_var (i := 0) rfl) hj0 H (Ex.refl H) _ fun H1 e1 => ?_
    refine .inl ⟨_, rfl, sz_of (by rw [S_len]; omega), S b, rfl, by rw [e0]; exact sz_of (by rw [S_len]; omega), ?_⟩
    rw [e0]
    refine op_first ev_c fun H1' e1' => ?_
    replace e1 := e1.trans e1'
    clear e1'
    generalize H1' = H1 at *
    refine ev_ways (σ := L2.start ns_Jump_str [V.ref j]) (te := tVar 0) T (ev_var (i := 0) rfl) (hj0.ex e1) H1 (Ex.refl H1) _ fun H2 e2 => ?_
    refine ⟨_, z, _, rfl, rfl, kdct_ways T hz, .inl ⟨_, rfl, sz_of (by rw [S_len]; omega), S (wsg z), rfl, by rw [S_app]; exact sz_of (by rw [S_len, List.length_append]; omega), ?_⟩⟩
    rw [S_app]
    refine ev_after (σ := L2.start ns_Jump_str [V.ref j]) (te := tVar 0) T (ev_var (i := 0) rfl) ((hj0.ex e1).ex e2) H2 (Ex.refl H2) _ fun H3 e3 => ?_
    refine .inl ⟨_, rfl, sz_of (by rw [S_len]; omega), S a, rfl, by rw [S_app]; exact sz_of (by rw [S_len, List.length_append, List.length_append]; omega), ?_⟩
    rw [S_app]
    exact q H3 ((e1.trans e2).trans e3)
end
end K03
namespace K03
open PySem PySem.Spec PyProof.Rows L2 Lc Evl
section
variable {P : Program} {w : World} {K : PySem.W.Frag} {mg : Str → Option Value} {base : Heap}
/-! ### the windows of a jump -/
def Tps (H : Hp) : List Addr → List (List Nat × List Nat) → Prop
  | [], [] => True
  | t :: ts, x :: xs => H t = some (.tup [.str (S x.1), .str (S x.2)]) ∧ Tps H ts xs
  | _, _ => False
def Wins (H : Hp) (p : Addr) (ws : List (List Nat × List Nat)) : Prop := ∃ ts : List Addr, H p = some (.lst (ts.map V.ref)) ∧ Tps H ts ws
def winsOf (b a : List Nat) (z : Str) : List (List Nat × List Nat) := (if z = "left" then [] else [(b, a)]) ++ (if z = "right" then [] else [(b.reverse, a.reverse)])
theorem isJ_parts {b a : List Nat} {z : Str} (h : isJ b a z = true) : z ∈ wys ∧ (b.length = 3 ∨ b.length = 4) ∧ b.length = a.length ∧ Good b ∧ Good a := by
  unfold isJ at h
  simp only [Bool.and_eq_true, decide_eq_true_eq, List.all_eq_true, Bool.or_eq_true] at h
  obtain ⟨h1, h2, h3, h4, h5, h6, h7⟩ := h
  refine ⟨h1, h2, h3, fun c hc => ?_, fun c hc => ?_⟩
  · obtain ⟨i, hi, rfl⟩ := List.mem_iff_getElem.mp hc
    by_cases hl : i < b.length - 1
    · have hm : b[i] ∈ b.take (b.length - 1) := by
        rw [List.mem_take_iff_getElem]
        exact ⟨i, by omega, rfl⟩
      have := h6 _ hm
      have k : ∀ c ∈ kL, c ∈ SG := by decide
      exact k _ this
    · have ei : i = b.length - 1 := by omega
      have : b.getD (b.length - 1) 0 = b[i] := by
        rw [List.getD_eq_getElem?_getD, ← ei, List.getElem?_eq_getElem hi]
        rfl
      rw [← this, h4]
      decide
  · have k : ∀ c ∈ kL, c ∈ SG := by decide
    rcases h7 c hc with q | q
    · rw [q]
      decide
    · exact k _ q
theorem sg_low : ∀ c ∈ SG, c < 128 := by decide +kernel
theorem Row.of {l : List Nat} (h : Good l) (hl : l.length ≤ 60) : Row l := ⟨by omega, fun c hc => sg_low c (h c hc)⟩
theorem Good.rev {l : List Nat} (h : Good l) : Good l.reverse := fun c hc => h c (List.mem_reverse.mp hc)
theorem ev_mirror {σ : L2.St} {H : Hp} {te : TE} {l : List Nat} (hg : Good l) (hl : l.length ≤ 60) (h : Ev te σ H (.str (S l))) : Ev (tCall (sp_mirror K) [] E0 (tCons te tNil)) σ H (.str (S l.reverse)) :=
  ev_call (ea_cons h ea_nil) fun H1 e1 Q q E => ⟨l, rfl, Row.of hg hl, fun _ => q, fun z => absurd hg z⟩
theorem ne_lt {H : Hp} {t p : Addr} {xs ys : List V} (h1 : H t = some (.tup xs)) (h2 : H p = some (.lst ys)) : t ≠ p := fun z => by
  rw [z, h2] at h1
  cases h1
def sp_Jump_windows (K : PySem.W.Frag) : Sp := fun vs H Q _ => ∃ (j : Addr) (b a : List Nat) (z : Str), vs = [.ref j] ∧ IsJ K H j b a z ∧ isJ b a z = true ∧ ∀ p H', H p = none → Ex H H' → Wins H' p (winsOf b a z) → Q (.ref p) H'
theorem ok_Jump_windows (T : Tx K mg w) : OkD P w K mg base 5 d_Jump_windows ps_Jump_windows (sp_Jump_windows K) := by
  refine (h_Jump_windows T).ok sc_Jump_windows (fun vs H Q E h => ?_) (fun cdv A outer s H vs Q E hr h => ⟨_,
      (pss_cons (ps_set (i := 1) sc_Jump_windows.nd rfl (Or.inl rfl) (pe_lst pa_nil))
      (pss_cons (ps_if (pt_cmpR op_ne (pe_fld (pv 0) rfl) pe_str (nomark _)) (pss_one (ps_expr (pe_bm PySem.F.plainAttrs_list PySem.F.slot_list_append PySem.F.type_list_append mt_append (pv 1) (pa_cons (pe_tup (pa_cons (pe_fld (pv 0) rfl) (pa_cons (pe_fld (pv 0) rfl) pa_nil))) pa_nil)))) pss_nil)
      (pss_cons (ps_if (pt_cmpR op_ne (pe_fld (pv 0) rfl) pe_str (nomark _)) (pss_one (ps_expr (pe_bm PySem.F.plainAttrs_list PySem.F.slot_list_append PySem.F.type_list_append mt_append (pv 1) (pa_cons (pe_tup (pa_cons (pe_call (ok_mirror (P := P) (w := w) (base := base) T) (hr.mono (by decide)) (by rfl) (m_mirror T) (k_mirror T) (b_mirror T) .nil passN (pa_cons (pe_fld (pv 0) rfl) pa_nil)) (pa_cons (pe_call (ok_mirror (P := P) (w := w) (base := base) T) (hr.mono (by decide)) (by rfl) (m_mirror T) (k_mirror T) (b_mirror T) .nil passN (pa_cons (pe_fld (pv 0) rfl) pa_nil)) pa_nil))) pa_nil)))) pss_nil)
      (pss_one (ps_ret (pv 1)))))), ?_⟩)
  · obtain ⟨j, b, a, z, rfl, _⟩ := h
    rfl
  · obtain ⟨j, b, a, z, rfl, hj, hi, q⟩ := h
    obtain ⟨hz, hb, hab, gb, ga⟩ := isJ_parts hi
    refine q_asgL (el_lst ea_nil (by decide)) fun p H1 hp e1 h1 => ?_
    have j1 := hj.ex e1
    refine q_when (b := !decide (z = "left")) (et_test (ev_op (ev_ways (te := tVar 0) T (by exact ev_var rfl) j1) ev_c rv_neTT)) (fun hc H2 e2 => ?_) (fun hc H2 e2 => ?_)
    · have h2 := e2 _ _ h1
      have j2 := j1.ex e2
      refine s_appU h2 (by exact ev_var rfl) (eu_tup (ea_cons (ev_before (te := tVar 0) T (by exact ev_var rfl) j2) (ea_cons (ev_after (te := tVar 0) T (by exact ev_var rfl) j2) ea_nil)) (by simp)) (by decide) fun t H3 ht e3 h3 => ?_
      have hp3 := e3 _ _ h2
      have htp := ne_lt h3 hp3
      have j3 : IsJ K (upd H3 p (.lst ([] ++ [.ref t]))) j b a z := by
        refine hj.ex ?_
        exact Ex.mut ((e1.trans e2).trans e3) hp
      have e3' : Ex H (upd H3 p (.lst ([] ++ [.ref t]))) := Ex.mut ((e1.trans e2).trans e3) hp
      have t3 : upd H3 p (.lst ([] ++ [.ref t])) t = some (.tup [.str (S b), .str (S a)]) := by
        rw [upd_ne htp]
        exact h3
      have p3 : upd H3 p (.lst ([] ++ [.ref t])) p = some (.lst [.ref t]) := upd_same
      generalize upd H3 p (.lst ([] ++ [.ref t])) = H4 at j3 e3' t3 p3
      refine q_when (b := !decide (z = "right")) (et_test (ev_op (ev_ways (te := tVar 0) T (by exact ev_var rfl) j3) ev_c rv_neTT)) (fun hc2 H5 e5 => ?_) (fun hc2 H5 e5 => ?_)
      · have j5 := j3.ex e5
        have p5 := e5 _ _ p3
        refine s_appU p5 (by exact ev_var rfl) (eu_tup (ea_cons (ev_mirror gb (by omega) (ev_before (te := tVar 0) T (by exact ev_var rfl) j5)) (ea_cons (ev_mirror ga (by omega) (ev_after (te := tVar 0) T (by exact ev_var rfl) j5)) ea_nil)) (by simp)) (by simp) fun t2 H6 ht2 e6 h6 => ?_
        have hp6 := e6 _ _ p5
        dsimp only
        refine s_ret (v := .ref p) (by exact ev_var rfl) fun H7 e7 => q p H7 hp ((Ex.mut ((e3'.trans e5).trans e6) hp).trans e7) ⟨[t, t2], e7 _ _ upd_same, ?_⟩
        unfold winsOf
        rw [if_neg (by simpa using hc), if_neg (by simpa using hc2)]
        refine ⟨e7 _ _ ?_, e7 _ _ ?_, trivial⟩
        · rw [upd_ne (ne_lt (e6 _ _ (e5 _ _ t3)) hp6)]
          exact e6 _ _ (e5 _ _ t3)
        · rw [upd_ne (ne_lt h6 hp6)]
          exact h6
      · refine s_ret (by exact ev_var rfl) fun H7 e7 => q p H7 hp ((e3'.trans e5).trans e7) ⟨[t], e7 _ _ (e5 _ _ p3), ?_⟩
        unfold winsOf
        rw [if_neg (by simpa using hc), if_pos (by simpa using hc2)]
        exact ⟨e7 _ _ (e5 _ _ t3), trivial⟩
    · have h2 := e2 _ _ h1
      have j2 := j1.ex e2
      refine q_when (b := !decide (z = "right")) (et_test (ev_op (ev_ways (te := tVar 0) T (by exact ev_var rfl) j2) ev_c rv_neTT)) (fun hc2 H5 e5 => ?_) (fun hc2 H5 e5 => ?_)
      · have j5 := j2.ex e5
        have p5 := e5 _ _ h2
        refine s_appU p5 (by exact ev_var rfl) (eu_tup (ea_cons (ev_mirror gb (by omega) (ev_before (te := tVar 0) T (by exact ev_var rfl) j5)) (ea_cons (ev_mirror ga (by omega) (ev_after (te := tVar 0) T (by exact ev_var rfl) j5)) ea_nil)) (by simp)) (by simp) fun t2 H6 ht2 e6 h6 => ?_
        have hp6 := e6 _ _ p5
        dsimp only
        refine s_ret (v := .ref p) (by exact ev_var rfl) fun H7 e7 => q p H7 hp ((Ex.mut (((e1.trans e2).trans e5).trans e6) hp).trans e7) ⟨[t2], e7 _ _ upd_same, ?_⟩
        unfold winsOf
        rw [if_pos (by simpa using hc), if_neg (by simpa using hc2)]
        refine ⟨e7 _ _ ?_, trivial⟩
        rw [upd_ne (ne_lt h6 hp6)]
        exact h6
      · refine s_ret (by exact ev_var rfl) fun H7 e7 => q p H7 hp (((e1.trans e2).trans e5).trans e7) ⟨[], e7 _ _ (e5 _ _ h2), ?_⟩
        unfold winsOf
        rw [if_pos (by simpa using hc), if_pos (by simpa using hc2)]
        trivial
end
end K03
namespace K03
open PySem PySem.Spec PyProof.Rows L2 Lc Evl
section
variable {P : Program} {w : World} {K : PySem.W.Frag} {mg : Str → Option Value} {base : Heap}
/-! ### jumps made -/
theorem b_Jump_init (T : Tx K mg w) : Binds K (fdOf K (d_Jump_init.at_ K)) ps_Jump_init [] := by
  obtain ⟨ds, hv, hb⟩ := FunD.binds1 (ps := ps_Jump_init) (h_Jump_init T) 4 1 (by simp [He5.DefA.dvs, d_Jump_init]) rfl fun T kV doc pm an cdv ct us its hu hi => match us, its, hu, hi with
    | [_, _, _, _], [_], _, _ => ⟨_, rfl, rfl⟩
  cases hv
  exact hb
theorem b2_Jump_init (T : Tx K mg w) : ∃ ds, Vals [V.str "right"] ds ∧ Binds K (fdOf K (d_Jump_init.at_ K)) ps_Jump_init ds :=
  FunD.binds1 (ps := ps_Jump_init) (h_Jump_init T) 3 0 (by simp [He5.DefA.dvs, d_Jump_init]) rfl fun T kV doc pm an cdv ct us its hu hi => match us, its, hu, hi with
    | [_, _, _], [_], _, _ => ⟨_, rfl, rfl⟩
def EvJ (K : PySem.W.Frag) (te : TE) (σ : L2.St) (H : Hp) (b a : List Nat) (z : Str) : Prop := ∀ H1, Ex H H1 → ∀ Q : VK, (∀ p H2, H1 p = none → Ex H1 H2 → IsJ K H2 p b a z → Q (.ref p) H2) → te σ H1 Q
theorem ev_make {σ : L2.St} {H : Hp} {t1 t2 t3 : TE} {b a : List Nat} {z : Str} {E : XK} (hi : isJ b a z = true) (h1 : Ev t1 σ H (.str (S b))) (h2 : Ev t2 σ H (.str (S a))) (h3 : Ev t3 σ H (.str z)) :
    EvJ K (tMake (cU K) (sp_Jump_init K) [] E (tCons t1 (tCons t2 (tCons t3 tNil)))) σ H b a z := fun H1 e Q q => by
  obtain ⟨_, hb, hab, gb, ga⟩ := isJ_parts hi
  refine (ea_cons h1 (ea_cons h2 (ea_cons h3 ea_nil))) H1 e _ fun H2 e2 x dx hx hd hdx => ?_
  refine ⟨x, dx, b, a, z, rfl, by omega, by omega, fun c hc => sg_low c (gb c hc), upd_same, fun _ H' eb hj => ⟨rfl, q x H' (fresh_back e2 hx) ?_ hj⟩, fun hn => by rw [hi] at hn; cases hn⟩
  intro c o ho
  have ho2 := e2 c o ho
  have n1 : c ≠ x := fun z => by rw [z, hx] at ho2; cases ho2
  have n2 : c ≠ dx := fun z => by rw [z, hd] at ho2; cases ho2
  exact eb c o n1 (by rw [upd_ne n1, upd_ne n2]; exact ho2)
theorem s_retJ {σ : L2.St} {H : Hp} {te : TE} {D : Ends} {b a : List Nat} {z : Str} (h : EvJ K te σ H b a z) (k : ∀ p H1, H p = none → Ex H H1 → IsJ K H1 p b a z → D.rt (.ref p) H1) : tRet te D σ H := h H (Ex.refl H) _ k
theorem q_asgJ {σ : L2.St} {H : Hp} {te : TE} {tz : TS} {D : Ends} {b a : List Nat} {z : Str} {i : Nat} (h : EvJ K te σ H b a z) (k : ∀ p H1, H p = none → Ex H H1 → IsJ K H1 p b a z → tz D (σ.set i (some (.ref p))) H1) : tSeq (tAsg te (gName i)) tz D σ H := h H (Ex.refl H) _ k
def oth (z : Str) : Str := if z = "right" then "left" else if z = "left" then "right" else "both"
theorem oth_in {z : Str} (h : z ∈ wys) : oth z ∈ wys := by
  simp only [wys, List.mem_cons, List.not_mem_nil, or_false] at h
  rcases h with rfl | rfl | rfl <;> decide +kernel
theorem isJ_way {b a : List Nat} {z z2 : Str} (h : isJ b a z = true) (h2 : z2 ∈ wys) : isJ b a z2 = true := by
  unfold isJ at h ⊢
  rw [decide_eq_true h2]
  exact (Bool.and_eq_true_iff.mp h).2
theorem kdct_oth (T : Tx K mg w) {z : Str} (h : z ∈ wys) : KDct K w (He.ga K "OTHER_WAYS") z (.str (oth z)) := by
  obtain ⟨es, n, D⟩ := t_OTHER_WAYS T
  simp only [wys, List.mem_cons, List.not_mem_nil, or_false] at h
  rcases h with rfl | rfl | rfl
  · obtain ⟨u, hu, hr⟩ := He.valsB_ok (v_OTHER_WAYS T) (q := ("right", .str "left")) (by simp)
    exact ⟨es, n, u, D.at_, D.lit, hu, hr⟩
  · obtain ⟨u, hu, hr⟩ := He.valsB_ok (v_OTHER_WAYS T) (q := ("left", .str "right")) (by simp)
    exact ⟨es, n, u, D.at_, D.lit, hu, hr⟩
  · obtain ⟨u, hu, hr⟩ := He.valsB_ok (v_OTHER_WAYS T) (q := ("both", .str "both")) (by simp)
    exact ⟨es, n, u, D.at_, D.lit, hu, hr⟩
theorem rv_kdct {H : Hp} {d : Addr} {z : Str} {v : V} (h : KDct K w d z v) : RV (rIxD K w) (.ref d) (.str z) H v := fun H1 e Q q => ⟨d, z, v, rfl, rfl, h, q H1 (Ex.refl H1)⟩
def sp_Jump_mirrored (K : PySem.W.Frag) : Sp := fun vs H Q _ => ∃ (j : Addr) (b a : List Nat) (z : Str), vs = [.ref j] ∧ IsJ K H j b a z ∧ isJ b a z = true ∧ ∀ p H', H p = none → Ex H H' → IsJ K H' p b a (oth z) → Q (.ref p) H'
theorem ok_Jump_mirrored (T : Tx K mg w) : OkD P w K mg base 5 d_Jump_mirrored ps_Jump_mirrored (sp_Jump_mirrored K) := by
  refine (h_Jump_mirrored T).ok sc_Jump_mirrored (fun vs H Q E h => ?_) (fun cdv A outer s H vs Q E hr h => ⟨_,
      (pss_one (ps_ret (pe_make (mk_Jump T) (ok_Jump_init (P := P) (w := w) (base := base) T) (hr.mono (by decide)) (by rfl) (m_Jump T) (b_Jump_init T) .nil passN (pa_cons (pe_fld (pv 0) rfl) (pa_cons (pe_fld (pv 0) rfl) (pa_cons (pe_ix ix_kdict (pe_glob (v := .ref (He.ga K "OTHER_WAYS")) rfl (m_OTHER_WAYS T) rfl) (pe_fld (pv 0) rfl) (fun _ _ => rfl)) pa_nil)))))), ?_⟩)
  · obtain ⟨j, b, a, z, rfl, _⟩ := h
    rfl
  · obtain ⟨j, b, a, z, rfl, hj, hi, q⟩ := h
    obtain ⟨hz, _⟩ := isJ_parts hi
    exact s_retJ (ev_make (isJ_way hi (oth_in hz)) (ev_before (te := tVar 0) T (by exact ev_var rfl) hj) (ev_after (te := tVar 0) T (by exact ev_var rfl) hj) (ev_op ev_c (ev_ways (te := tVar 0) T (by exact ev_var rfl) hj) (rv_kdct (kdct_oth T hz)))) fun p H1 hp e hj => q p H1 hp e hj
/-! ### jumps read -/
def rdW (l : List Nat) : Str := if l = [62] then "right" else if l = [60] then "left" else if l = [61] then "both" else ""
theorem sign_at (T : Tx K mg w) (l : List Nat) : ∃ (r : Option Value) (o : Option V), PySem.W.nsIn K (He.ga K "SIGN_WAYS") (S l) = some r ∧
    (match o, r with
      | some v, some u => RelV v u
      | none, none => True
      | _, _ => False) ∧ o.getD (.str "") = .str (rdW l) := by
  have k1 : (">" : Str) = S [62] := by decide +kernel
  have k2 : ("<" : Str) = S [60] := by decide +kernel
  have k3 : ("=" : Str) = S [61] := by decide +kernel
  by_cases h1 : l = [62]
  · obtain ⟨u, hu, hr⟩ := He.valsB_ok (v_SIGN_WAYS T) (q := (">", .str "right")) (by simp)
    rw [k1] at hu
    subst h1
    exact ⟨some u, some (.str "right"), hu, hr, rfl⟩
  by_cases h2 : l = [60]
  · obtain ⟨u, hu, hr⟩ := He.valsB_ok (v_SIGN_WAYS T) (q := ("<", .str "left")) (by simp)
    rw [k2] at hu
    subst h2
    exact ⟨some u, some (.str "left"), hu, hr, rfl⟩
  by_cases h3 : l = [61]
  · obtain ⟨u, hu, hr⟩ := He.valsB_ok (v_SIGN_WAYS T) (q := ("=", .str "both")) (by simp)
    rw [k3] at hu
    subst h3
    exact ⟨some u, some (.str "both"), hu, hr, rfl⟩
  · refine ⟨none, none, no_SIGN_WAYS T ?_, trivial, ?_⟩
    · intro hm
      simp only [List.mem_cons, List.not_mem_nil, or_false, k1, k2, k3] at hm
      rcases hm with h | h | h
      · exact h1 (S_inj h)
      · exact h2 (S_inj h)
      · exact h3 (S_inj h)
    · unfold rdW
      rw [if_neg h1, if_neg h2, if_neg h3]
      rfl
theorem ev_kget {σ : L2.St} {H : Hp} {d : Addr} {td ty tx : TE} {n : Str} {z : V} {r : Option Value} {o : Option V} (h1 : Ev td σ H (.ref d)) (h2 : Ev ty σ H (.str n)) (h3 : Ev tx σ H z)
    (hm : match o, r with
      | some v, some u => RelV v u
      | none, none => True
      | _, _ => False) (hr : PySem.W.nsIn K d n = some r) : Ev (tKGet K d td ty tx) σ H (o.getD z) := fun H1 e Q q =>
  h1 H1 e _ fun H2 e2 => ⟨rfl, h2 H2 (e.trans e2) _ fun H3 e3 => h3 H3 ((e.trans e2).trans e3) _ fun H4 e4 => ⟨n, r, o, rfl, hr, hm, q H4 ((e2.trans e3).trans e4)⟩⟩
theorem cut_mid (l : List Nat) (m : Nat) : cutS (S l) (some (m : Int)) (some ((m : Int) + 1)) = S ((l.drop m).take 1) := by
  unfold cutS
  rw [S_len, tl_S, show ((m : Int) + 1) = ((m + 1 : Nat) : Int) by omega, HT.sIx_nat, HT.sIx_nat]
  refine congrArg S ?_
  by_cases h : m < l.length
  · rw [Nat.min_eq_left (by omega), Nat.min_eq_left (by omega), show m + 1 - m = 1 by omega]
  · rw [Nat.min_eq_right (by omega), Nat.min_eq_right (by omega), Nat.sub_self, List.take_zero, List.drop_of_length_le (by omega)]
    rfl
theorem q_par3 {σ : L2.St} {H : Hp} {ta : TA} {tz : TS} {D : Ends} {i j l : Nat} {u v x : V} (h : EvA ta σ H [u, v, x]) (k : ∀ H1, Ex H H1 → tz D (((σ.set i (some u)).set j (some v)).set l (some x)) H1) : tSeq (tPar3 i j l ta) tz D σ H :=
  h H (Ex.refl H) _ fun H1 e => ⟨u, v, x, rfl, k H1 e⟩
def rdB (l : List Nat) : List Nat := l.take (l.length / 2)
def rdS (l : List Nat) : List Nat := (l.drop (l.length / 2)).take 1
def rdA (l : List Nat) : List Nat := l.drop (l.length / 2 + 1)
def sp_Jump_read (K : PySem.W.Frag) : Sp := fun vs H Q E => ∃ l, vs = [.str (S l)] ∧ l.length ≤ 100 ∧ (∀ c ∈ l, c < 128) ∧
  (isJ (rdB l) (rdA l) (rdW (rdS l)) = true → ∀ p H', H p = none → Ex H H' → IsJ K H' p (rdB l) (rdA l) (rdW (rdS l)) → Q (.ref p) H') ∧ (isJ (rdB l) (rdA l) (rdW (rdS l)) = false → BadJ K H E (S l))
theorem ok_Jump_read (T : Tx K mg w) : OkD P w K mg base 5 d_Jump_read ps_Jump_read (sp_Jump_read K) := by
  refine (h_Jump_read T).ok sc_Jump_read (fun vs H Q E h => ?_) (fun cdv A outer s H vs Q E hr h => ⟨_,
      (pss_cons (ps_set (i := 1) sc_Jump_read.nd rfl (Or.inl rfl) (pe_op op_fdivW (pe_callB call_len_str (by rfl) (m_len T) (by decide +kernel) (pa_cons (pv 0) pa_nil)) pe_int))
      (pss_cons (ps_par3 (i := 3) (j := 4) (l := 5) rfl sc_Jump_read.nd rfl rfl rfl (by decide) (by decide) (by decide) rfl rfl rfl (pa_cons (pe_slice sl_str (pv 0) po_none (po_some (pv 1))) (pa_cons (pe_slice sl_str (pv 0) (po_some (pv 1)) (po_some (pe_op op_add (pv 1) pe_int))) (pa_cons (pe_slice sl_str (pv 0) (po_some (pe_op op_add (pv 1) pe_int)) po_none) pa_nil))) rfl)
      (pss_cons (ps_set (i := 2) sc_Jump_read.nd rfl (Or.inl rfl) (pe_kget (t_SIGN_WAYS T).choose_spec.choose_spec (pe_glob (v := .ref (He.ga K "SIGN_WAYS")) rfl (m_SIGN_WAYS T) rfl) (pv 4) pe_str ⟨rfl, rfl, rfl, rfl⟩))
      (pss_cons (ps_if (pt_not (pt_val (pe_call (ok_is_jump (P := P) (w := w) (base := base) T) (hr.mono (by decide)) (by rfl) (m_is_jump T) (k_is_jump T) (b_is_jump T) .nil passN (pa_cons (pv 3) (pa_cons (pv 5) (pa_cons (pv 2) pa_nil)))))) (pss_one (L2N.ps_raise rfl (L2N.takes_of rfl rfl rfl rfl) (pmkN_oex (x_InvalidJump T).oex (x_InvalidJump T).iC (x_InvalidJump T).tI (ok_InvalidJump_init (P := P) (w := w) (base := base) T) (hr.mono (by decide)) (b_InvalidJump_init T) .nil passN (by rfl) (m_InvalidJump T) (pa_cons (pv 0) pa_nil)))) pss_nil)
      (pss_one (ps_ret (pe_make (mk_Jump T) (ok_Jump_init (P := P) (w := w) (base := base) T) (hr.mono (by decide)) (by rfl) (m_Jump T) (b_Jump_init T) .nil (passX (L2N.takes_of rfl rfl rfl rfl)) (pa_cons (pv 3) (pa_cons (pv 5) (pa_cons (pv 2) pa_nil)))))))))), ?_⟩)
  · obtain ⟨l, rfl, _⟩ := h
    rfl
  · obtain ⟨l, rfl, hl, hc, q1, q2⟩ := h
    have hm : (l.length : Int) / 2 = ((l.length / 2 : Nat) : Int) := by omega
    refine q_asg (v := .int ((l.length / 2 : Nat) : Int)) (by rw [← hm]; repeat' (first | ((with_reducible refine ev_pow10 ?_ ?_ ?_) <;> first | rfl | decide) | (with_reducible refine fun (_ : _ = true) => ?_) | (with_reducible refine fun (_ : _ = false) => ?_) | (with_reducible exact ev_c) | ((with_reducible apply ev_var); rfl) | (with_reducible apply ev_op) | (with_reducible apply ev_un) | (with_reducible apply ev_cb) | (with_reducible apply ea_cons) | (with_reducible apply ev_andV) | (with_reducible apply ev_orV) | (with_reducible apply ev_notV) | (with_reducible apply ev_if) | (with_reducible apply eo_some) | (with_reducible apply el_lst) | (with_reducible exact ea_nil) | (with_reducible exact rv_I0) | (with_reducible exact ru_neg) | (with_reducible exact rv_ltS) | (with_reducible exact rv_inC) | (with_reducible exact rv_notInC) | (with_reducible exact rc_intI) | (with_reducible exact rc_intB) | (with_reducible exact rc_min2) | (with_reducible exact rc_isStr) | (with_reducible exact eo_none) | (with_reducible exact rv_inSS) | (with_reducible exact rv_notInSS) | (with_reducible exact rv_ltSS) | (with_reducible exact rv_eqSS) | (with_reducible exact rv_eqII) | (with_reducible exact rv_neII) | (with_reducible exact rv_neSS) | ((with_reducible refine rc_lenSS ?_); (first | assumption | omega | decide | (simp only [S_len] at *; omega))) | ((with_reducible refine rc_lenStr ?_); (first | assumption | omega | decide | (simp only [S_len] at *; omega))) | ((with_reducible refine rv_catSS ?_); (first | assumption | omega | decide | (simp only [S_len] at *; omega))) | (with_reducible exact rv_eq rfl) | (with_reducible exact rv_ne rfl) | ((with_reducible refine rc_lenS ?_); (first | assumption | omega | decide | (simp only [S_len] at *; omega))) | ((with_reducible refine rc_lenL ?_); assumption) | ((with_reducible apply rv_ixL); assumption; rfl) | ((with_reducible refine rv_catS ?_); (first | assumption | omega | decide | (simp only [S_len] at *; omega))) | ((with_reducible refine rv_I ?_); (first | (show (0 : Int) < _; (first | assumption | omega | decide | (simp only [S_len] at *; omega))) | exact .inr ⟨by decide, by decide⟩ | exact .inl ⟨by (first | assumption | omega | decide | (simp only [S_len] at *; omega)), by (first | assumption | omega | decide | (simp only [S_len] at *; omega))⟩ | exact .inr ⟨by (first | assumption | omega | decide | (simp only [S_len] at *; omega)), by (first | assumption | omega | decide | (simp only [S_len] at *; omega))⟩ | exact ⟨by decide, by decide, by decide⟩ | exact wide_div (b := 128) (by (first | assumption | omega | decide | (simp only [S_len] at *; omega))) (by (first | assumption | omega | decide | (simp only [S_len] at *; omega))) (by decide) (by decide))))) fun H1 e1 => ?_
    have hB : Ev (tSl rSlS (tVar 0) tNoPart (tPart (tVar 1))) [some (.str (S l)), some (.int ((l.length / 2 : Nat) : Int)), none, none, none, none] H1 (.str (S (rdB l))) := ev_to (k := l.length / 2) (ev_var rfl) (ev_var rfl) (by omega)
    have hS : Ev (tSl rSlS (tVar 0) (tPart (tVar 1)) (tPart (tOp (rI0 fun i j => V.int (i + j)) (tVar 1) (tC (V.int 1))))) [some (.str (S l)), some (.int ((l.length / 2 : Nat) : Int)), none, none, none, none] H1 (.str (S (rdS l))) := by
      have h := ev_slS (σ := [some (.str (S l)), some (.int ((l.length / 2 : Nat) : Int)), none, none, none, none]) (H := H1) (te := tVar 0) (tl := tPart (tVar 1)) (th := tPart (tOp (rI0 fun i j => V.int (i + j)) (tVar 1) (tC (V.int 1)))) (w := S l) (lo := some ((l.length / 2 : Nat) : Int)) (hi := some (((l.length / 2 : Nat) : Int) + 1)) (ev_var rfl) (eo_some (ev_var rfl)) (eo_some (by repeat' (first | ((with_reducible refine ev_pow10 ?_ ?_ ?_) <;> first | rfl | decide) | (with_reducible refine fun (_ : _ = true) => ?_) | (with_reducible refine fun (_ : _ = false) => ?_) | (with_reducible exact ev_c) | ((with_reducible apply ev_var); rfl) | (with_reducible apply ev_op) | (with_reducible apply ev_un) | (with_reducible apply ev_cb) | (with_reducible apply ea_cons) | (with_reducible apply ev_andV) | (with_reducible apply ev_orV) | (with_reducible apply ev_notV) | (with_reducible apply ev_if) | (with_reducible apply eo_some) | (with_reducible apply el_lst) | (with_reducible exact ea_nil) | (with_reducible exact rv_I0) | (with_reducible exact ru_neg) | (with_reducible exact rv_ltS) | (with_reducible exact rv_inC) | (with_reducible exact rv_notInC) | (with_reducible exact rc_intI) | (with_reducible exact rc_intB) | (with_reducible exact rc_min2) | (with_reducible exact rc_isStr) | (with_reducible exact eo_none) | (with_reducible exact rv_inSS) | (with_reducible exact rv_notInSS) | (with_reducible exact rv_ltSS) | (with_reducible exact rv_eqSS) | (with_reducible exact rv_eqII) | (with_reducible exact rv_neII) | (with_reducible exact rv_neSS) | ((with_reducible refine rc_lenSS ?_); (first | assumption | omega | decide | (simp only [S_len] at *; omega))) | ((with_reducible refine rc_lenStr ?_); (first | assumption | omega | decide | (simp only [S_len] at *; omega))) | ((with_reducible refine rv_catSS ?_); (first | assumption | omega | decide | (simp only [S_len] at *; omega))) | (with_reducible exact rv_eq rfl) | (with_reducible exact rv_ne rfl) | ((with_reducible refine rc_lenS ?_); (first | assumption | omega | decide | (simp only [S_len] at *; omega))) | ((with_reducible refine rc_lenL ?_); assumption) | ((with_reducible apply rv_ixL); assumption; rfl) | ((with_reducible refine rv_catS ?_); (first | assumption | omega | decide | (simp only [S_len] at *; omega))) | ((with_reducible refine rv_I ?_); (first | (show (0 : Int) < _; (first | assumption | omega | decide | (simp only [S_len] at *; omega))) | exact .inr ⟨by decide, by decide⟩ | exact .inl ⟨by (first | assumption | omega | decide | (simp only [S_len] at *; omega)), by (first | assumption | omega | decide | (simp only [S_len] at *; omega))⟩ | exact .inr ⟨by (first | assumption | omega | decide | (simp only [S_len] at *; omega)), by (first | assumption | omega | decide | (simp only [S_len] at *; omega))⟩ | exact ⟨by decide, by decide, by decide⟩ | exact wide_div (b := 128) (by (first | assumption | omega | decide | (simp only [S_len] at *; omega))) (by (first | assumption | omega | decide | (simp only [S_len] at *; omega))) (by decide) (by decide)))))) (by rw [S_len]; omega)
      rw [cut_mid] at h
      exact h
    have hA : Ev (tSl rSlS (tVar 0) (tPart (tOp (rI0 fun i j => V.int (i + j)) (tVar 1) (tC (V.int 1)))) tNoPart) [some (.str (S l)), some (.int ((l.length / 2 : Nat) : Int)), none, none, none, none] H1 (.str (S (rdA l))) := ev_from (k := l.length / 2 + 1) (ev_var rfl) (by rw [show ((l.length / 2 + 1 : Nat) : Int) = ((l.length / 2 : Nat) : Int) + 1 by omega]; repeat' (first | ((with_reducible refine ev_pow10 ?_ ?_ ?_) <;> first | rfl | decide) | (with_reducible refine fun (_ : _ = true) => ?_) | (with_reducible refine fun (_ : _ = false) => ?_) | (with_reducible exact ev_c) | ((with_reducible apply ev_var); rfl) | (with_reducible apply ev_op) | (with_reducible apply ev_un) | (with_reducible apply ev_cb) | (with_reducible apply ea_cons) | (with_reducible apply ev_andV) | (with_reducible apply ev_orV) | (with_reducible apply ev_notV) | (with_reducible apply ev_if) | (with_reducible apply eo_some) | (with_reducible apply el_lst) | (with_reducible exact ea_nil) | (with_reducible exact rv_I0) | (with_reducible exact ru_neg) | (with_reducible exact rv_ltS) | (with_reducible exact rv_inC) | (with_reducible exact rv_notInC) | (with_reducible exact rc_intI) | (with_reducible exact rc_intB) | (with_reducible exact rc_min2) | (with_reducible exact rc_isStr) | (with_reducible exact eo_none) | (with_reducible exact rv_inSS) | (with_reducible exact rv_notInSS) | (with_reducible exact rv_ltSS) | (with_reducible exact rv_eqSS) | (with_reducible exact rv_eqII) | (with_reducible exact rv_neII) | (with_reducible exact rv_neSS) | ((with_reducible refine rc_lenSS ?_); (first | assumption | omega | decide | (simp only [S_len] at *; omega))) | ((with_reducible refine rc_lenStr ?_); (first | assumption | omega | decide | (simp only [S_len] at *; omega))) | ((with_reducible refine rv_catSS ?_); (first | assumption | omega | decide | (simp only [S_len] at *; omega))) | (with_reducible exact rv_eq rfl) | (with_reducible exact rv_ne rfl) | ((with_reducible refine rc_lenS ?_); (first | assumption | omega | decide | (simp only [S_len] at *; omega))) | ((with_reducible refine rc_lenL ?_); assumption) | ((with_reducible apply rv_ixL); assumption; rfl) | ((with_reducible refine rv_catS ?_); (first | assumption | omega | decide | (simp only [S_len] at *; omega))) | ((with_reducible refine rv_I ?_); (first | (show (0 : Int) < _; (first | assumption | omega | decide | (simp only [S_len] at *; omega))) | exact .inr ⟨by decide, by decide⟩ | exact .inl ⟨by (first | assumption | omega | decide | (simp only [S_len] at *; omega)), by (first | assumption | omega | decide | (simp only [S_len] at *; omega))⟩ | exact .inr ⟨by (first | assumption | omega | decide | (simp only [S_len] at *; omega)), by (first | assumption | omega | decide | (simp only [S_len] at *; omega))⟩ | exact ⟨by decide, by decide, by decide⟩ | exact wide_div (b := 128) (by (first | assumption | omega | decide | (simp only [S_len] at *; omega))) (by (first | assumption | omega | decide | (simp only [S_len] at *; omega))) (by decide) (by decide))))) (by omega)
    refine q_par3 (ea_cons hB (ea_cons hS (ea_cons hA ea_nil))) fun H2 e2 => ?_
    obtain ⟨r, o, hr1, hr2, hr3⟩ := sign_at T (rdS l)
    refine q_asg (v := .str (rdW (rdS l))) (by rw [← hr3]; exact ev_kget ev_c (ev_var rfl) ev_c hr2 hr1) fun H3 e3 => ?_
    have hlb : (rdB l).length ≤ 1000 := by unfold rdB; rw [List.length_take]; omega
    have hla : (rdA l).length ≤ 1000 := by unfold rdA; rw [List.length_drop]; omega
    refine q_when (b := !isJ (rdB l) (rdA l) (rdW (rdS l))) (et_not (et_B (ev_isj (by exact ev_var rfl) (by exact ev_var rfl) (by exact ev_var rfl) hlb hla))) (fun hc1 H4 e4 => ?_) (fun hc1 H4 e4 => ?_)
    · refine ⟨_, rfl, by simp, fun x hx => ⟨x, l, rfl, by omega, hc, upd_same, fun dy hd hda => ?_⟩⟩
      have e1 := ((e1.trans e2).trans e3).trans e4
      rw [upd_ne hda] at hd
      refine ⟨rfl, dy, [(("text" : Str), .str (S l))], upd_same, by rw [upd_ne hda, upd_same], hd, ?_⟩
      refine q2 (not_t hc1) dy _ (fresh_back e1 hd) ?_ upd_same
      intro p o hp
      have hp1 := e1 p o hp
      have n1 : p ≠ dy := fun z => by rw [z, hd] at hp1; cases hp1
      have n2 : p ≠ x := fun z => by rw [z, hx] at hp1; cases hp1
      rw [upd_ne n1, del_ne n2, upd_ne n2, upd_ne n1, upd_ne n2]
      exact hp1
    · have e1 := ((e1.trans e2).trans e3).trans e4
      exact s_retJ (ev_make (not_f hc1) (by exact ev_var rfl) (by exact ev_var rfl) (by exact ev_var rfl)) fun p H5 hp e hj => q1 (not_f hc1) p H5 (fresh_back e1 hp) (e1.trans e) hj
end
end K03
namespace K03
open PySem PySem.Spec PyProof.Rows L2 Lc Evl
section
variable {P : Program} {w : World} {K : PySem.W.Frag} {mg : Str → Option Value} {base : Heap}
/-! ### the law's own jumps -/
theorem k_dot : Str.ofString "." = S [46] := by decide +kernel
theorem k_abcd : Str.ofString "abcd" = S kL := by decide +kernel
theorem k_dabcd : Str.ofString ".abcd" = S (46 :: kL) := by decide +kernel
theorem isJ_iff {b a : List Nat} {z : Str} : isJ b a z = true ↔ z ∈ wys ∧ (b.length = 3 ∨ b.length = 4) ∧ b.length = a.length ∧ b.getD (b.length - 1) 0 = 46 ∧ a.getD 0 0 = 46 ∧ (∀ c ∈ b.take (b.length - 1), c ∈ kL) ∧ ∀ c ∈ a, c = 46 ∨ c ∈ kL := by
  unfold isJ
  simp only [Bool.and_eq_true, decide_eq_true_eq, List.all_eq_true, Bool.or_eq_true]
theorem isJ_no {b a : List Nat} {z : Str} (h : isJ b a z = true → False) : isJ b a z = false := by
  cases e : isJ b a z with
  | false => rfl
  | true => exact (h e).elim
theorem in_wys (z : Str) : inV (.str z) [.str "right", .str "left", .str "both"] = decide (z ∈ wys) := by
  rw [Bool.eq_iff_iff]
  simp only [inV, eqV, wys, List.any_cons, List.any_nil, Bool.or_eq_true, beq_iff_eq, decide_eq_true_eq, List.mem_cons, List.not_mem_nil, Bool.or_false, or_false]
  constructor
  · rintro (h | h | h)
    · exact .inl h.symm
    · exact .inr (.inl h.symm)
    · exact .inr (.inr h.symm)
  · rintro (h | h | h)
    · exact .inl h.symm
    · exact .inr (.inl h.symm)
    · exact .inr (.inr h.symm)
def sp_law_is_jump : Sp := fun vs H Q _ => ∃ (b a : List Nat) (z : Str), vs = [.str (S b), .str (S a), .str z] ∧ b.length ≤ 1000 ∧ a.length ≤ 1000 ∧ RetV (.bl (isJ b a z)) H Q
theorem ok_law_is_jump (T : Tx K mg w) : OkD P w K mg base 1 d_law_is_jump ps_law_is_jump sp_law_is_jump := by
  refine (h_law_is_jump T).ok sc_law_is_jump (fun vs H Q E h => ?_) (fun cdv A outer s H vs Q E hr h => ⟨_,
      (pss_cons (ps_set (i := 3) sc_law_is_jump.nd rfl (Or.inl rfl) (pe_callB call_len_str (by rfl) (m_len T) (by decide +kernel) (pa_cons (pv 0) pa_nil)))
      (pss_cons (ps_if (PW.pt (pw_or (pt_cmpR op_notIn_seq (pv 2) (pe_lst (pa_cons pe_str (pa_cons pe_str (pa_cons pe_str pa_nil)))) (by rfl)) (pw_or (pt_cmpR op_ne (pe_callB call_len_str (by rfl) (m_len T) (by decide +kernel) (pa_cons (pv 1) pa_nil)) (pv 3) (nomark _)) (pw_or (pt_cmpR op_lt (pv 3) pe_int (nomark _)) (pw_or1 (pt_cmpR op_gt (pv 3) pe_int (nomark _))))))) (pss_one (ps_ret pe_bl)) pss_nil)
      (pss_cons (ps_if (PW.pt (pw_or (pt_cmpR op_ne (pe_ix ix_str (pv 0) (pe_op op_sub (pv 3) pe_int) (fun _ _ => rfl)) pe_str (nomark _)) (pw_or1 (pt_cmpR op_ne (pe_ix ix_str (pv 1) pe_int (fun _ _ => rfl)) pe_str (nomark _))))) (pss_one (ps_ret pe_bl)) pss_nil)
      (pss_cons (ps_for (passes_of rfl) rfl (pi_range1 rfl (m_range T) (pa_cons (pe_op op_sub (pv 3) pe_int) pa_nil)) (pg_name (i := 4) sc_law_is_jump.nd rfl (Or.inl rfl)) (pss_one (ps_if (PW.pt (pw_or (pt_cmpR op_notIn_sign (pe_ix ix_str (pv 0) (pv 4) (fun _ _ => rfl)) pe_str (by rfl)) (pw_or1 (pt_cmpR op_notIn_sign (pe_ix ix_str (pv 1) (pe_op op_add (pv 4) pe_int) (fun _ _ => rfl)) pe_str (by rfl))))) (pss_one (ps_ret pe_bl)) pss_nil)))
      (pss_one (ps_ret pe_bl)))))), ?_⟩)
  · obtain ⟨b, a, z, rfl, _⟩ := h
    rfl
  · obtain ⟨b, a, z, rfl, hb, ha, q⟩ := h
    simp only [k_dot, k_abcd, k_dabcd]
    refine q_asg (v := .int b.length) (by repeat' (first | ((with_reducible refine ev_pow10 ?_ ?_ ?_) <;> first | rfl | decide) | (with_reducible refine fun (_ : _ = true) => ?_) | (with_reducible refine fun (_ : _ = false) => ?_) | (with_reducible exact ev_c) | ((with_reducible apply ev_var); rfl) | (with_reducible apply ev_op) | (with_reducible apply ev_un) | (with_reducible apply ev_cb) | (with_reducible apply ea_cons) | (with_reducible apply ev_andV) | (with_reducible apply ev_orV) | (with_reducible apply ev_notV) | (with_reducible apply ev_if) | (with_reducible apply eo_some) | (with_reducible apply el_lst) | (with_reducible exact ea_nil) | (with_reducible exact rv_I0) | (with_reducible exact ru_neg) | (with_reducible exact rv_ltS) | (with_reducible exact rv_inC) | (with_reducible exact rv_notInC) | (with_reducible exact rc_intI) | (with_reducible exact rc_intB) | (with_reducible exact rc_min2) | (with_reducible exact rc_isStr) | (with_reducible exact eo_none) | (with_reducible exact rv_inSS) | (with_reducible exact rv_notInSS) | (with_reducible exact rv_ltSS) | (with_reducible exact rv_eqSS) | (with_reducible exact rv_eqII) | (with_reducible exact rv_neII) | (with_reducible exact rv_neSS) | ((with_reducible refine rc_lenSS ?_); (first | assumption | omega | decide | (simp only [S_len] at *; omega))) | ((with_reducible refine rc_lenStr ?_); (first | assumption | omega | decide | (simp only [S_len] at *; omega))) | ((with_reducible refine rv_catSS ?_); (first | assumption | omega | decide | (simp only [S_len] at *; omega))) | (with_reducible exact rv_eq rfl) | (with_reducible exact rv_ne rfl) | ((with_reducible refine rc_lenS ?_); (first | assumption | omega | decide | (simp only [S_len] at *; omega))) | ((with_reducible refine rc_lenL ?_); assumption) | ((with_reducible apply rv_ixL); assumption; rfl) | ((with_reducible refine rv_catS ?_); (first | assumption | omega | decide | (simp only [S_len] at *; omega))) | ((with_reducible refine rv_I ?_); (first | (show (0 : Int) < _; (first | assumption | omega | decide | (simp only [S_len] at *; omega))) | exact .inr ⟨by decide, by decide⟩ | exact .inl ⟨by (first | assumption | omega | decide | (simp only [S_len] at *; omega)), by (first | assumption | omega | decide | (simp only [S_len] at *; omega))⟩ | exact .inr ⟨by (first | assumption | omega | decide | (simp only [S_len] at *; omega)), by (first | assumption | omega | decide | (simp only [S_len] at *; omega))⟩ | exact ⟨by decide, by decide, by decide⟩ | exact wide_div (b := 128) (by (first | assumption | omega | decide | (simp only [S_len] at *; omega))) (by (first | assumption | omega | decide | (simp only [S_len] at *; omega))) (by decide) (by decide))))) fun H1 e1 => ?_
    refine q_when (b := (!inV (.str z) [.str "right", .str "left", .str "both"] || (!decide ((a.length : Int) = (b.length : Int)) || (decide ((b.length : Int) < 3) || decide ((b.length : Int) > 4))))) (et_or (et_test (ev_opL (by exact ev_var rfl) (el_lst (ea_cons ev_c (ea_cons ev_c (ea_cons ev_c ea_nil))) (by simp)) fun _ _ h _ => rv_niL (sq_of h) rfl rfl)) fun _ => et_or (et_test (by repeat' (first | ((with_reducible refine ev_pow10 ?_ ?_ ?_) <;> first | rfl | decide) | (with_reducible refine fun (_ : _ = true) => ?_) | (with_reducible refine fun (_ : _ = false) => ?_) | (with_reducible exact ev_c) | ((with_reducible apply ev_var); rfl) | (with_reducible apply ev_op) | (with_reducible apply ev_un) | (with_reducible apply ev_cb) | (with_reducible apply ea_cons) | (with_reducible apply ev_andV) | (with_reducible apply ev_orV) | (with_reducible apply ev_notV) | (with_reducible apply ev_if) | (with_reducible apply eo_some) | (with_reducible apply el_lst) | (with_reducible exact ea_nil) | (with_reducible exact rv_I0) | (with_reducible exact ru_neg) | (with_reducible exact rv_ltS) | (with_reducible exact rv_inC) | (with_reducible exact rv_notInC) | (with_reducible exact rc_intI) | (with_reducible exact rc_intB) | (with_reducible exact rc_min2) | (with_reducible exact rc_isStr) | (with_reducible exact eo_none) | (with_reducible exact rv_inSS) | (with_reducible exact rv_notInSS) | (with_reducible exact rv_ltSS) | (with_reducible exact rv_eqSS) | (with_reducible exact rv_eqII) | (with_reducible exact rv_neII) | (with_reducible exact rv_neSS) | ((with_reducible refine rc_lenSS ?_); (first | assumption | omega | decide | (simp only [S_len] at *; omega))) | ((with_reducible refine rc_lenStr ?_); (first | assumption | omega | decide | (simp only [S_len] at *; omega))) | ((with_reducible refine rv_catSS ?_); (first | assumption | omega | decide | (simp only [S_len] at *; omega))) | (with_reducible exact rv_eq rfl) | (with_reducible exact rv_ne rfl) | ((with_reducible refine rc_lenS ?_); (first | assumption | omega | decide | (simp only [S_len] at *; omega))) | ((with_reducible refine rc_lenL ?_); assumption) | ((with_reducible apply rv_ixL); assumption; rfl) | ((with_reducible refine rv_catS ?_); (first | assumption | omega | decide | (simp only [S_len] at *; omega))) | ((with_reducible refine rv_I ?_); (first | (show (0 : Int) < _; (first | assumption | omega | decide | (simp only [S_len] at *; omega))) | exact .inr ⟨by decide, by decide⟩ | exact .inl ⟨by (first | assumption | omega | decide | (simp only [S_len] at *; omega)), by (first | assumption | omega | decide | (simp only [S_len] at *; omega))⟩ | exact .inr ⟨by (first | assumption | omega | decide | (simp only [S_len] at *; omega)), by (first | assumption | omega | decide | (simp only [S_len] at *; omega))⟩ | exact ⟨by decide, by decide, by decide⟩ | exact wide_div (b := 128) (by (first | assumption | omega | decide | (simp only [S_len] at *; omega))) (by (first | assumption | omega | decide | (simp only [S_len] at *; omega))) (by decide) (by decide)))))) fun _ => et_or (et_test (by repeat' (first | ((with_reducible refine ev_pow10 ?_ ?_ ?_) <;> first | rfl | decide) | (with_reducible refine fun (_ : _ = true) => ?_) | (with_reducible refine fun (_ : _ = false) => ?_) | (with_reducible exact ev_c) | ((with_reducible apply ev_var); rfl) | (with_reducible apply ev_op) | (with_reducible apply ev_un) | (with_reducible apply ev_cb) | (with_reducible apply ea_cons) | (with_reducible apply ev_andV) | (with_reducible apply ev_orV) | (with_reducible apply ev_notV) | (with_reducible apply ev_if) | (with_reducible apply eo_some) | (with_reducible apply el_lst) | (with_reducible exact ea_nil) | (with_reducible exact rv_I0) | (with_reducible exact ru_neg) | (with_reducible exact rv_ltS) | (with_reducible exact rv_inC) | (with_reducible exact rv_notInC) | (with_reducible exact rc_intI) | (with_reducible exact rc_intB) | (with_reducible exact rc_min2) | (with_reducible exact rc_isStr) | (with_reducible exact eo_none) | (with_reducible exact rv_inSS) | (with_reducible exact rv_notInSS) | (with_reducible exact rv_ltSS) | (with_reducible exact rv_eqSS) | (with_reducible exact rv_eqII) | (with_reducible exact rv_neII) | (with_reducible exact rv_neSS) | ((with_reducible refine rc_lenSS ?_); (first | assumption | omega | decide | (simp only [S_len] at *; omega))) | ((with_reducible refine rc_lenStr ?_); (first | assumption | omega | decide | (simp only [S_len] at *; omega))) | ((with_reducible refine rv_catSS ?_); (first | assumption | omega | decide | (simp only [S_len] at *; omega))) | (with_reducible exact rv_eq rfl) | (with_reducible exact rv_ne rfl) | ((with_reducible refine rc_lenS ?_); (first | assumption | omega | decide | (simp only [S_len] at *; omega))) | ((with_reducible refine rc_lenL ?_); assumption) | ((with_reducible apply rv_ixL); assumption; rfl) | ((with_reducible refine rv_catS ?_); (first | assumption | omega | decide | (simp only [S_len] at *; omega))) | ((with_reducible refine rv_I ?_); (first | (show (0 : Int) < _; (first | assumption | omega | decide | (simp only [S_len] at *; omega))) | exact .inr ⟨by decide, by decide⟩ | exact .inl ⟨by (first | assumption | omega | decide | (simp only [S_len] at *; omega)), by (first | assumption | omega | decide | (simp only [S_len] at *; omega))⟩ | exact .inr ⟨by (first | assumption | omega | decide | (simp only [S_len] at *; omega)), by (first | assumption | omega | decide | (simp only [S_len] at *; omega))⟩ | exact ⟨by decide, by decide, by decide⟩ | exact wide_div (b := 128) (by (first | assumption | omega | decide | (simp only [S_len] at *; omega))) (by (first | assumption | omega | decide | (simp only [S_len] at *; omega))) (by decide) (by decide)))))) fun _ => et_test (by repeat' (first | ((with_reducible refine ev_pow10 ?_ ?_ ?_) <;> first | rfl | decide) | (with_reducible refine fun (_ : _ = true) => ?_) | (with_reducible refine fun (_ : _ = false) => ?_) | (with_reducible exact ev_c) | ((with_reducible apply ev_var); rfl) | (with_reducible apply ev_op) | (with_reducible apply ev_un) | (with_reducible apply ev_cb) | (with_reducible apply ea_cons) | (with_reducible apply ev_andV) | (with_reducible apply ev_orV) | (with_reducible apply ev_notV) | (with_reducible apply ev_if) | (with_reducible apply eo_some) | (with_reducible apply el_lst) | (with_reducible exact ea_nil) | (with_reducible exact rv_I0) | (with_reducible exact ru_neg) | (with_reducible exact rv_ltS) | (with_reducible exact rv_inC) | (with_reducible exact rv_notInC) | (with_reducible exact rc_intI) | (with_reducible exact rc_intB) | (with_reducible exact rc_min2) | (with_reducible exact rc_isStr) | (with_reducible exact eo_none) | (with_reducible exact rv_inSS) | (with_reducible exact rv_notInSS) | (with_reducible exact rv_ltSS) | (with_reducible exact rv_eqSS) | (with_reducible exact rv_eqII) | (with_reducible exact rv_neII) | (with_reducible exact rv_neSS) | ((with_reducible refine rc_lenSS ?_); (first | assumption | omega | decide | (simp only [S_len] at *; omega))) | ((with_reducible refine rc_lenStr ?_); (first | assumption | omega | decide | (simp only [S_len] at *; omega))) | ((with_reducible refine rv_catSS ?_); (first | assumption | omega | decide | (simp only [S_len] at *; omega))) | (with_reducible exact rv_eq rfl) | (with_reducible exact rv_ne rfl) | ((with_reducible refine rc_lenS ?_); (first | assumption | omega | decide | (simp only [S_len] at *; omega))) | ((with_reducible refine rc_lenL ?_); assumption) | ((with_reducible apply rv_ixL); assumption; rfl) | ((with_reducible refine rv_catS ?_); (first | assumption | omega | decide | (simp only [S_len] at *; omega))) | ((with_reducible refine rv_I ?_); (first | (show (0 : Int) < _; (first | assumption | omega | decide | (simp only [S_len] at *; omega))) | exact .inr ⟨by decide, by decide⟩ | exact .inl ⟨by (first | assumption | omega | decide | (simp only [S_len] at *; omega)), by (first | assumption | omega | decide | (simp only [S_len] at *; omega))⟩ | exact .inr ⟨by (first | assumption | omega | decide | (simp only [S_len] at *; omega)), by (first | assumption | omega | decide | (simp only [S_len] at *; omega))⟩ | exact ⟨by decide, by decide, by decide⟩ | exact wide_div (b := 128) (by (first | assumption | omega | decide | (simp only [S_len] at *; omega))) (by (first | assumption | omega | decide | (simp only [S_len] at *; omega))) (by decide) (by decide)))))) (fun hc H2 e2 => ?_) (fun hc H2 e2 => ?_)
    · refine s_ret ev_c fun H3 e3 => ?_
      have q2 := q H3 ((e1.trans e2).trans e3)
      rw [isJ_no (fun h => ?_)] at q2
      · exact q2
      · obtain ⟨h1, h2, h3, _⟩ := isJ_iff.mp h
        rw [in_wys, decide_eq_true h1] at hc
        simp only [Bool.not_true, Bool.false_or, Bool.or_eq_true, Bool.not_eq_true', decide_eq_false_iff_not, decide_eq_true_eq] at hc
        omega
    · rw [in_wys] at hc
      simp only [Bool.or_eq_false_iff, Bool.not_eq_false', decide_eq_true_eq, decide_eq_false_iff_not] at hc
      obtain ⟨c1, c2, c3, c4⟩ := hc
      have cl : b.length = 3 ∨ b.length = 4 := by omega
      have cab : b.length = a.length := by omega
      have ei : (b.length : Int) - 1 = ((b.length - 1 : Nat) : Int) := by omega
      refine q_when (b := (!decide ([b.getD (b.length - 1) 0] = [46]) || !decide ([a.getD 0 0] = [46]))) (et_or (et_test (ev_op (ev_op (by exact ev_var rfl) (y := .int ((b.length - 1 : Nat) : Int)) (by rw [← ei]; repeat' (first | ((with_reducible refine ev_pow10 ?_ ?_ ?_) <;> first | rfl | decide) | (with_reducible refine fun (_ : _ = true) => ?_) | (with_reducible refine fun (_ : _ = false) => ?_) | (with_reducible exact ev_c) | ((with_reducible apply ev_var); rfl) | (with_reducible apply ev_op) | (with_reducible apply ev_un) | (with_reducible apply ev_cb) | (with_reducible apply ea_cons) | (with_reducible apply ev_andV) | (with_reducible apply ev_orV) | (with_reducible apply ev_notV) | (with_reducible apply ev_if) | (with_reducible apply eo_some) | (with_reducible apply el_lst) | (with_reducible exact ea_nil) | (with_reducible exact rv_I0) | (with_reducible exact ru_neg) | (with_reducible exact rv_ltS) | (with_reducible exact rv_inC) | (with_reducible exact rv_notInC) | (with_reducible exact rc_intI) | (with_reducible exact rc_intB) | (with_reducible exact rc_min2) | (with_reducible exact rc_isStr) | (with_reducible exact eo_none) | (with_reducible exact rv_inSS) | (with_reducible exact rv_notInSS) | (with_reducible exact rv_ltSS) | (with_reducible exact rv_eqSS) | (with_reducible exact rv_eqII) | (with_reducible exact rv_neII) | (with_reducible exact rv_neSS) | ((with_reducible refine rc_lenSS ?_); (first | assumption | omega | decide | (simp only [S_len] at *; omega))) | ((with_reducible refine rc_lenStr ?_); (first | assumption | omega | decide | (simp only [S_len] at *; omega))) | ((with_reducible refine rv_catSS ?_); (first | assumption | omega | decide | (simp only [S_len] at *; omega))) | (with_reducible exact rv_eq rfl) | (with_reducible exact rv_ne rfl) | ((with_reducible refine rc_lenS ?_); (first | assumption | omega | decide | (simp only [S_len] at *; omega))) | ((with_reducible refine rc_lenL ?_); assumption) | ((with_reducible apply rv_ixL); assumption; rfl) | ((with_reducible refine rv_catS ?_); (first | assumption | omega | decide | (simp only [S_len] at *; omega))) | ((with_reducible refine rv_I ?_); (first | (show (0 : Int) < _; (first | assumption | omega | decide | (simp only [S_len] at *; omega))) | exact .inr ⟨by decide, by decide⟩ | exact .inl ⟨by (first | assumption | omega | decide | (simp only [S_len] at *; omega)), by (first | assumption | omega | decide | (simp only [S_len] at *; omega))⟩ | exact .inr ⟨by (first | assumption | omega | decide | (simp only [S_len] at *; omega)), by (first | assumption | omega | decide | (simp only [S_len] at *; omega))⟩ | exact ⟨by decide, by decide, by decide⟩ | exact wide_div (b := 128) (by (first | assumption | omega | decide | (simp only [S_len] at *; omega))) (by (first | assumption | omega | decide | (simp only [S_len] at *; omega))) (by decide) (by decide))))) (rv_ixSS (i := ((b.length - 1 : Nat) : Int)) (by omega) (by omega) (by omega))) ev_c rv_neSS)) fun _ => et_test (ev_op (ev_op (by exact ev_var rfl) ev_c (rv_ixSS (i := 0) (by omega) (by decide) (by omega))) ev_c rv_neSS)) (fun hc H3 e3 => ?_) (fun hc H3 e3 => ?_)
      · refine s_ret ev_c fun H4 e4 => ?_
        have q2 := q H4 (((e1.trans e2).trans e3).trans e4)
        rw [isJ_no (fun h => ?_)] at q2
        · exact q2
        · obtain ⟨_, _, _, h4, h5, _⟩ := isJ_iff.mp h
          rw [sg1, sg1, h4, h5] at hc
          simp at hc
      · rw [sg1, sg1] at hc
        simp only [Bool.or_eq_false_iff, Bool.not_eq_false', decide_eq_true_eq] at hc
        obtain ⟨c5, c6⟩ := hc
        refine q_forR1 (n := ((b.length - 1 : Nat) : Int)) (by rw [← ei]; repeat' (first | ((with_reducible refine ev_pow10 ?_ ?_ ?_) <;> first | rfl | decide) | (with_reducible refine fun (_ : _ = true) => ?_) | (with_reducible refine fun (_ : _ = false) => ?_) | (with_reducible exact ev_c) | ((with_reducible apply ev_var); rfl) | (with_reducible apply ev_op) | (with_reducible apply ev_un) | (with_reducible apply ev_cb) | (with_reducible apply ea_cons) | (with_reducible apply ev_andV) | (with_reducible apply ev_orV) | (with_reducible apply ev_notV) | (with_reducible apply ev_if) | (with_reducible apply eo_some) | (with_reducible apply el_lst) | (with_reducible exact ea_nil) | (with_reducible exact rv_I0) | (with_reducible exact ru_neg) | (with_reducible exact rv_ltS) | (with_reducible exact rv_inC) | (with_reducible exact rv_notInC) | (with_reducible exact rc_intI) | (with_reducible exact rc_intB) | (with_reducible exact rc_min2) | (with_reducible exact rc_isStr) | (with_reducible exact eo_none) | (with_reducible exact rv_inSS) | (with_reducible exact rv_notInSS) | (with_reducible exact rv_ltSS) | (with_reducible exact rv_eqSS) | (with_reducible exact rv_eqII) | (with_reducible exact rv_neII) | (with_reducible exact rv_neSS) | ((with_reducible refine rc_lenSS ?_); (first | assumption | omega | decide | (simp only [S_len] at *; omega))) | ((with_reducible refine rc_lenStr ?_); (first | assumption | omega | decide | (simp only [S_len] at *; omega))) | ((with_reducible refine rv_catSS ?_); (first | assumption | omega | decide | (simp only [S_len] at *; omega))) | (with_reducible exact rv_eq rfl) | (with_reducible exact rv_ne rfl) | ((with_reducible refine rc_lenS ?_); (first | assumption | omega | decide | (simp only [S_len] at *; omega))) | ((with_reducible refine rc_lenL ?_); assumption) | ((with_reducible apply rv_ixL); assumption; rfl) | ((with_reducible refine rv_catS ?_); (first | assumption | omega | decide | (simp only [S_len] at *; omega))) | ((with_reducible refine rv_I ?_); (first | (show (0 : Int) < _; (first | assumption | omega | decide | (simp only [S_len] at *; omega))) | exact .inr ⟨by decide, by decide⟩ | exact .inl ⟨by (first | assumption | omega | decide | (simp only [S_len] at *; omega)), by (first | assumption | omega | decide | (simp only [S_len] at *; omega))⟩ | exact .inr ⟨by (first | assumption | omega | decide | (simp only [S_len] at *; omega)), by (first | assumption | omega | decide | (simp only [S_len] at *; omega))⟩ | exact ⟨by decide, by decide, by decide⟩ | exact wide_div (b := 128) (by (first | assumption | omega | decide | (simp only [S_len] at *; omega))) (by (first | assumption | omega | decide | (simp only [S_len] at *; omega))) (by decide) (by decide))))) (by omega) (fun i σ' H' => Ex H H' ∧ (∀ m, m < i → b.getD m 0 ∈ kL ∧ a.getD (m + 1) 0 ∈ 46 :: kL) ∧ ∃ kv, σ' = [some (.str (S b)), some (.str (S a)), some (.str z), some (.int b.length), kv]) (fun H4 e4 => ⟨((e1.trans e2).trans e3).trans e4, fun m hm => by omega, none, rfl⟩) ?_ ?_
        · rintro i σ' H' hi ⟨e, hp, kv, rfl⟩
          refine s_when (b := (!decide (b.getD i 0 ∈ kL) || !decide (a.getD (i + 1) 0 ∈ 46 :: kL))) (et_or (et_test (ev_op (ev_op (by exact ev_var rfl) (by exact ev_var rfl) (rv_ixSS (i := (i : Int)) (by omega) (by omega) (by omega))) ev_c rv_notInSS)) fun _ => et_test (ev_op (ev_op (by exact ev_var rfl) (y := .int ((i + 1 : Nat) : Int)) (by rw [show ((i + 1 : Nat) : Int) = (i : Int) + 1 by omega]; repeat' (first | ((with_reducible refine ev_pow10 ?_ ?_ ?_) <;> first | rfl | decide) | (with_reducible refine fun (_ : _ = true) => ?_) | (with_reducible refine fun (_ : _ = false) => ?_) | (with_reducible exact ev_c) | ((with_reducible apply ev_var); rfl) | (with_reducible apply ev_op) | (with_reducible apply ev_un) | (with_reducible apply ev_cb) | (with_reducible apply ea_cons) | (with_reducible apply ev_andV) | (with_reducible apply ev_orV) | (with_reducible apply ev_notV) | (with_reducible apply ev_if) | (with_reducible apply eo_some) | (with_reducible apply el_lst) | (with_reducible exact ea_nil) | (with_reducible exact rv_I0) | (with_reducible exact ru_neg) | (with_reducible exact rv_ltS) | (with_reducible exact rv_inC) | (with_reducible exact rv_notInC) | (with_reducible exact rc_intI) | (with_reducible exact rc_intB) | (with_reducible exact rc_min2) | (with_reducible exact rc_isStr) | (with_reducible exact eo_none) | (with_reducible exact rv_inSS) | (with_reducible exact rv_notInSS) | (with_reducible exact rv_ltSS) | (with_reducible exact rv_eqSS) | (with_reducible exact rv_eqII) | (with_reducible exact rv_neII) | (with_reducible exact rv_neSS) | ((with_reducible refine rc_lenSS ?_); (first | assumption | omega | decide | (simp only [S_len] at *; omega))) | ((with_reducible refine rc_lenStr ?_); (first | assumption | omega | decide | (simp only [S_len] at *; omega))) | ((with_reducible refine rv_catSS ?_); (first | assumption | omega | decide | (simp only [S_len] at *; omega))) | (with_reducible exact rv_eq rfl) | (with_reducible exact rv_ne rfl) | ((with_reducible refine rc_lenS ?_); (first | assumption | omega | decide | (simp only [S_len] at *; omega))) | ((with_reducible refine rc_lenL ?_); assumption) | ((with_reducible apply rv_ixL); assumption; rfl) | ((with_reducible refine rv_catS ?_); (first | assumption | omega | decide | (simp only [S_len] at *; omega))) | ((with_reducible refine rv_I ?_); (first | (show (0 : Int) < _; (first | assumption | omega | decide | (simp only [S_len] at *; omega))) | exact .inr ⟨by decide, by decide⟩ | exact .inl ⟨by (first | assumption | omega | decide | (simp only [S_len] at *; omega)), by (first | assumption | omega | decide | (simp only [S_len] at *; omega))⟩ | exact .inr ⟨by (first | assumption | omega | decide | (simp only [S_len] at *; omega)), by (first | assumption | omega | decide | (simp only [S_len] at *; omega))⟩ | exact ⟨by decide, by decide, by decide⟩ | exact wide_div (b := 128) (by (first | assumption | omega | decide | (simp only [S_len] at *; omega))) (by (first | assumption | omega | decide | (simp only [S_len] at *; omega))) (by decide) (by decide))))) (rv_ixSS (i := ((i + 1 : Nat) : Int)) (by omega) (by omega) (by omega))) ev_c rv_notInSS)) (fun hc H4 e4 => ?_) (fun hc H4 e4 => ?_)
          · refine s_ret ev_c fun H5 e5 => ?_
            have q2 := q H5 ((e.trans e4).trans e5)
            rw [isJ_no (fun h => ?_)] at q2
            · exact q2
            · obtain ⟨_, _, _, _, _, h6, h7⟩ := isJ_iff.mp h
              have m1 : b.getD i 0 ∈ kL := by
                refine h6 _ ?_
                rw [List.getD_eq_getElem?_getD, List.getElem?_eq_getElem (by omega)]
                rw [List.mem_take_iff_getElem]
                exact ⟨i, by omega, rfl⟩
              have m2 : a.getD (i + 1) 0 ∈ 46 :: kL := List.mem_cons.mpr (h7 _ (getD_in (by omega)))
              rw [decide_eq_true m1, decide_eq_true m2] at hc
              simp at hc
          · simp only [Bool.or_eq_false_iff, Bool.not_eq_false', decide_eq_true_eq] at hc
            refine ⟨e.trans e4, fun m hm => ?_, _, rfl⟩
            by_cases em : m = i
            · rw [em]
              exact hc
            · exact hp m (by omega)
        · rintro σ' H' ⟨e, hp, kv, rfl⟩
          rw [Int.toNat_natCast] at hp
          refine s_ret ev_c fun H5 e5 => ?_
          have q2 := q H5 (e.trans e5)
          rw [isJ_iff.mpr ⟨c1, cl, cab, c5, c6, fun c hc => ?_, fun c hc => ?_⟩] at q2
          · exact q2
          · rw [List.mem_take_iff_getElem] at hc
            obtain ⟨i, hi, rfl⟩ := hc
            have := (hp i (by omega)).1
            rw [List.getD_eq_getElem?_getD, List.getElem?_eq_getElem (by omega)] at this
            exact this
          · obtain ⟨i, hi, rfl⟩ := List.mem_iff_getElem.mp hc
            by_cases h0 : i = 0
            · subst h0
              rw [List.getD_eq_getElem?_getD, List.getElem?_eq_getElem hi] at c6
              exact .inl c6
            · have := (hp (i - 1) (by omega)).2
              rw [show i - 1 + 1 = i by omega, List.getD_eq_getElem?_getD, List.getElem?_eq_getElem hi] at this
              exact List.mem_cons.mp this
end
end K03
namespace K03
open PySem PySem.Spec PyProof.Rows L2 Lc Evl
section
variable {P : Program} {w : World} {K : PySem.W.Frag} {mg : Str → Option Value} {base : Heap}
/-! ### triples, and displays looked up -/
def Tri (H : Hp) (t : Addr) (b a : List Nat) (z : Str) : Prop := H t = some (.tup [.str (S b), .str (S a), .str z])
theorem Tri.ex {H H' : Hp} {t : Addr} {b a : List Nat} {z : Str} (h : Tri H t b a z) (e : Ex H H') : Tri H' t b a z := e _ _ h
theorem ev_t0 {σ : L2.St} {H : Hp} {te : TE} {t : Addr} {b a : List Nat} {z : Str} (h : Ev te σ H (.ref t)) (ht : Tri H t b a z) : Ev (tOp (rIxT K) te (tC (.int 0))) σ H (.str (S b)) := ev_op h ev_c (rv_ixT (st_of ht) rfl)
theorem ev_t1 {σ : L2.St} {H : Hp} {te : TE} {t : Addr} {b a : List Nat} {z : Str} (h : Ev te σ H (.ref t)) (ht : Tri H t b a z) : Ev (tOp (rIxT K) te (tC (.int 1))) σ H (.str (S a)) := ev_op h ev_c (rv_ixT (st_of ht) rfl)
theorem ev_t2 {σ : L2.St} {H : Hp} {te : TE} {t : Addr} {b a : List Nat} {z : Str} (h : Ev te σ H (.ref t)) (ht : Tri H t b a z) : Ev (tOp (rIxT K) te (tC (.int 2))) σ H (.str z) := ev_op h ev_c (rv_ixT (st_of ht) rfl)
abbrev D3 (k1 v1 k2 v2 k3 v3 : Str) : TE := tDisp [(tC (.str k1), tC (.str v1)), (tC (.str k2), tC (.str v2)), (tC (.str k3), tC (.str v3))]
def kv3 (k1 v1 k2 v2 k3 v3 : Str) : List (Key × V) := [(Sum.inr k1, .str v1), (Sum.inr k2, .str v2), (Sum.inr k3, .str v3)]
theorem d3_run {σ : L2.St} {H : Hp} {k1 v1 k2 v2 k3 v3 : Str} {Q : VK} (q : ∀ p H1, H p = none → Ex H H1 → H1 p = some (.dK (mergeK [] (kv3 k1 v1 k2 v2 k3 v3))) → Q (.ref p) H1) : D3 k1 v1 k2 v2 k3 v3 σ H Q := fun p hp =>
  ⟨upd_same, kv3 k1 v1 k2 v2 k3 v3, rfl, by show 3 ≤ 15; decide, q p _ hp (Ex.mut (Ex.new hp) hp) upd_same⟩
theorem ev_d3 {σ : L2.St} {H : Hp} {k1 v1 k2 v2 k3 v3 n : Str} {v : V} {ty : TE} (hy : Ev ty σ H (.str n)) (hv : valV (mergeK [] (kv3 k1 v1 k2 v2 k3 v3)) (Sum.inr n) = some v) : Ev (tDGet (D3 k1 v1 k2 v2 k3 v3) ty) σ H v := fun H1 e Q q => by
  unfold tDGet
  exact d3_run fun p H2 hp e2 h2 => hy H2 (e.trans e2) _ fun H3 e3 => ⟨p, v, rfl, .inl ⟨_, Sum.inr n, .inl (e3 _ _ h2), rfl, hv.symm⟩, q H3 (e2.trans e3)⟩
theorem ev_d3g {σ : L2.St} {H : Hp} {k1 v1 k2 v2 k3 v3 n : Str} {z : V} {ty tx : TE} (hy : Ev ty σ H (.str n)) (hx : Ev tx σ H z) : Ev (tDGet2 (D3 k1 v1 k2 v2 k3 v3) ty tx) σ H ((valV (mergeK [] (kv3 k1 v1 k2 v2 k3 v3)) (Sum.inr n)).getD z) := fun H1 e Q q => by
  unfold tDGet2
  exact d3_run fun p H2 hp e2 h2 => ⟨p, rfl, .inl ⟨_, .inl h2⟩, hy H2 (e.trans e2) _ fun H3 e3 => hx H3 ((e.trans e2).trans e3) _ fun H4 e4 => ⟨_, .inl ⟨_, Sum.inr n, .inl (e4 _ _ (e3 _ _ h2)), rfl, rfl⟩, q H4 ((e2.trans e3).trans e4)⟩⟩
theorem val_w {z : Str} (h : z ∈ wys) : valV (mergeK [] (kv3 "right" ">" "left" "<" "both" "=")) (Sum.inr z) = some (.str (S (wsg z))) := by
  simp only [wys, List.mem_cons, List.not_mem_nil, or_false] at h
  rcases h with rfl | rfl | rfl <;> rfl
theorem val_o {z : Str} (h : z ∈ wys) : valV (mergeK [] (kv3 "right" "left" "left" "right" "both" "both")) (Sum.inr z) = some (.str (oth z)) := by
  simp only [wys, List.mem_cons, List.not_mem_nil, or_false] at h
  rcases h with rfl | rfl | rfl <;> rfl
def sp_law_written (K : PySem.W.Frag) : Sp := fun vs H Q _ => ∃ (t : Addr) (b a : List Nat) (z : Str), vs = [.ref t] ∧ Tri H t b a z ∧ b.length ≤ 1000 ∧ a.length ≤ 1000 ∧ z ∈ wys ∧ RetV (.str (S (b ++ wsg z ++ a))) H Q
theorem ok_law_written (T : Tx K mg w) : OkD P w K mg base 1 d_law_written ps_law_written (sp_law_written K) := by
  refine (h_law_written T).ok sc_law_written (fun vs H Q E h => ?_) (fun cdv A outer s H vs Q E hr h => ⟨_,
      (pss_one (ps_ret (pe_op op_add_str (pe_op op_add_str (pe_ix ix_tup (pv 0) pe_int (fun _ _ => rfl)) (pe_dget (hu_of hr) (pe_disp (pps_cons pe_str pe_str (pps_cons pe_str pe_str (pps_cons pe_str pe_str pps_nil))) (by rfl) (by rfl) (fun z => by cases z) (by decide)) (pe_ix ix_tup (pv 0) pe_int (fun _ _ => rfl)) (fun _ _ => rfl))) (pe_ix ix_tup (pv 0) pe_int (fun _ _ => rfl))))), ?_⟩)
  · obtain ⟨t, b, a, z, rfl, _⟩ := h
    rfl
  · obtain ⟨t, b, a, z, rfl, ht, hb, ha, hz, q⟩ := h
    have ew : (wsg z).length ≤ 1 := by
      unfold wsg
      split
      · decide
      · split <;> decide
    refine s_ret (ev_op (ev_op (ev_t0 (te := tVar 0) (by exact ev_var rfl) ht) (ev_d3 (ev_t2 (te := tVar 0) (by exact ev_var rfl) ht) (val_w hz)) (rv_catSS (by omega))) (ev_t1 (te := tVar 0) (by exact ev_var rfl) ht) (rv_catSS (by rw [List.length_append]; omega))) fun H1 e1 => q H1 e1
def RetT (H : Hp) (b a : List Nat) (z : Str) (Q : VK) : Prop := ∀ p H1, H p = none → Ex H H1 → Tri H1 p b a z → Q (.ref p) H1
def sp_law_swapped (K : PySem.W.Frag) : Sp := fun vs H Q _ => ∃ (t : Addr) (b a : List Nat) (z : Str), vs = [.ref t] ∧ Tri H t b a z ∧ z ∈ wys ∧ RetT H b a (oth z) Q
theorem ok_law_swapped (T : Tx K mg w) : OkD P w K mg base 1 d_law_swapped ps_law_swapped (sp_law_swapped K) := by
  refine (h_law_swapped T).ok sc_law_swapped (fun vs H Q E h => ?_) (fun cdv A outer s H vs Q E hr h => ⟨_,
      (pss_one (ps_ret (pe_tup (pa_cons (pe_ix ix_tup (pv 0) pe_int (fun _ _ => rfl)) (pa_cons (pe_ix ix_tup (pv 0) pe_int (fun _ _ => rfl)) (pa_cons (pe_dget (hu_of hr) (pe_disp (pps_cons pe_str pe_str (pps_cons pe_str pe_str (pps_cons pe_str pe_str pps_nil))) (by rfl) (by rfl) (fun z => by cases z) (by decide)) (pe_ix ix_tup (pv 0) pe_int (fun _ _ => rfl)) (fun _ _ => rfl)) pa_nil)))))), ?_⟩)
  · obtain ⟨t, b, a, z, rfl, _⟩ := h
    rfl
  · obtain ⟨t, b, a, z, rfl, ht, hz, q⟩ := h
    exact s_retU (eu_tup (ea_cons (ev_t0 (te := tVar 0) (by exact ev_var rfl) ht) (ea_cons (ev_t1 (te := tVar 0) (by exact ev_var rfl) ht) (ea_cons (ev_d3 (ev_t2 (te := tVar 0) (by exact ev_var rfl) ht) (val_o hz)) ea_nil))) (by simp)) fun p H1 hp e h => q p H1 hp e h
/-! ### the law reads -/
theorem val_r (l : List Nat) : (valV (mergeK [] (kv3 ">" "right" "<" "left" "=" "both")) (Sum.inr (S l))).getD (.str "") = .str (rdW l) := by
  have k1 : (">" : Str) = S [62] := by decide +kernel
  have k2 : ("<" : Str) = S [60] := by decide +kernel
  have k3 : ("=" : Str) = S [61] := by decide +kernel
  have e : mergeK [] (kv3 ">" "right" "<" "left" "=" "both") = [(Sum.inr (S [62]), .str "right"), (Sum.inr (S [60]), .str "left"), (Sum.inr (S [61]), .str "both")] := by rfl
  rw [e]
  unfold rdW valV
  by_cases h1 : l = [62]
  · subst h1
    rfl
  by_cases h2 : l = [60]
  · subst h2
    rfl
  by_cases h3 : l = [61]
  · subst h3
    rfl
  · rw [if_neg h1, if_neg h2, if_neg h3]
    have n1 : ¬ (Sum.inr (S [62]) : Key) = Sum.inr (S l) := fun z => h1 (S_inj (Sum.inr.inj z)).symm
    have n2 : ¬ (Sum.inr (S [60]) : Key) = Sum.inr (S l) := fun z => h2 (S_inj (Sum.inr.inj z)).symm
    have n3 : ¬ (Sum.inr (S [61]) : Key) = Sum.inr (S l) := fun z => h3 (S_inj (Sum.inr.inj z)).symm
    rw [List.find?_cons_of_neg (by simpa using n1), List.find?_cons_of_neg (by simpa using n2), List.find?_cons_of_neg (by simpa using n3)]
    rfl
theorem in79 (n : Nat) : inV (.int (n : Int)) [.int 7, .int 9] = decide (n = 7 ∨ n = 9) := by
  rw [Bool.eq_iff_iff]
  simp [inV, eqV]
  omega
theorem rdS_eq {l : List Nat} (h : l.length / 2 < l.length) : rdS l = [l.getD (l.length / 2) 0] := by
  unfold rdS
  rw [List.drop_eq_getElem_cons h, List.getD_eq_getElem?_getD, List.getElem?_eq_getElem h]
  rfl
def sp_law_read (K : PySem.W.Frag) : Sp := fun vs H Q _ => ∃ l, vs = [.str (S l)] ∧ l.length ≤ 100 ∧
  (isJ (rdB l) (rdA l) (rdW (rdS l)) = true → RetT H (rdB l) (rdA l) (rdW (rdS l)) Q) ∧ (isJ (rdB l) (rdA l) (rdW (rdS l)) = false → ∀ p H1, H p = none → Ex H H1 → H1 p = some (.tup []) → Q (.ref p) H1)
theorem ok_law_read (T : Tx K mg w) : OkD P w K mg base 2 d_law_read ps_law_read (sp_law_read K) := by
  refine (h_law_read T).ok sc_law_read (fun vs H Q E h => ?_) (fun cdv A outer s H vs Q E hr h => ⟨_,
      (pss_cons (ps_if (pt_cmpR op_notIn_seq (pe_callB call_len_str (by rfl) (m_len T) (by decide +kernel) (pa_cons (pv 0) pa_nil)) (pe_lst (pa_cons pe_int (pa_cons pe_int pa_nil))) (by rfl)) (pss_one (ps_ret (pe_tup pa_nil))) pss_nil)
      (pss_cons (ps_set (i := 1) sc_law_read.nd rfl (Or.inl rfl) (pe_op op_fdivW (pe_callB call_len_str (by rfl) (m_len T) (by decide +kernel) (pa_cons (pv 0) pa_nil)) pe_int))
      (pss_cons (ps_set (i := 2) sc_law_read.nd rfl (Or.inl rfl) (pe_dget2 (hu_of hr) (pe_disp (pps_cons pe_str pe_str (pps_cons pe_str pe_str (pps_cons pe_str pe_str pps_nil))) (by rfl) (by rfl) (fun z => by cases z) (by decide)) (pe_ix ix_str (pv 0) (pv 1) (fun _ _ => rfl)) pe_str ⟨rfl, rfl, rfl, rfl⟩))
      (pss_cons (ps_if (pt_not (pt_val (pe_call (ok_law_is_jump (P := P) (w := w) (base := base) T) (hr.mono (by decide)) (by rfl) (m_law_is_jump T) (k_law_is_jump T) (b_law_is_jump T) .nil passN (pa_cons (pe_slice sl_str (pv 0) po_none (po_some (pv 1))) (pa_cons (pe_slice sl_str (pv 0) (po_some (pe_op op_add (pv 1) pe_int)) po_none) (pa_cons (pv 2) pa_nil)))))) (pss_one (ps_ret (pe_tup pa_nil))) pss_nil)
      (pss_one (ps_ret (pe_tup (pa_cons (pe_slice sl_str (pv 0) po_none (po_some (pv 1))) (pa_cons (pe_slice sl_str (pv 0) (po_some (pe_op op_add (pv 1) pe_int)) po_none) (pa_cons (pv 2) pa_nil)))))))))), ?_⟩)
  · obtain ⟨l, rfl, _⟩ := h
    rfl
  · obtain ⟨l, rfl, hl, q1, q2⟩ := h
    refine q_when (b := !inV (.int (l.length : Int)) [.int 7, .int 9]) (et_test (ev_opL (by repeat' (first | ((with_reducible refine ev_pow10 ?_ ?_ ?_) <;> first | rfl | decide) | (with_reducible refine fun (_ : _ = true) => ?_) | (with_reducible refine fun (_ : _ = false) => ?_) | (with_reducible exact ev_c) | ((with_reducible apply ev_var); rfl) | (with_reducible apply ev_op) | (with_reducible apply ev_un) | (with_reducible apply ev_cb) | (with_reducible apply ea_cons) | (with_reducible apply ev_andV) | (with_reducible apply ev_orV) | (with_reducible apply ev_notV) | (with_reducible apply ev_if) | (with_reducible apply eo_some) | (with_reducible apply el_lst) | (with_reducible exact ea_nil) | (with_reducible exact rv_I0) | (with_reducible exact ru_neg) | (with_reducible exact rv_ltS) | (with_reducible exact rv_inC) | (with_reducible exact rv_notInC) | (with_reducible exact rc_intI) | (with_reducible exact rc_intB) | (with_reducible exact rc_min2) | (with_reducible exact rc_isStr) | (with_reducible exact eo_none) | (with_reducible exact rv_inSS) | (with_reducible exact rv_notInSS) | (with_reducible exact rv_ltSS) | (with_reducible exact rv_eqSS) | (with_reducible exact rv_eqII) | (with_reducible exact rv_neII) | (with_reducible exact rv_neSS) | ((with_reducible refine rc_lenSS ?_); (first | assumption | omega | decide | (simp only [S_len] at *; omega))) | ((with_reducible refine rc_lenStr ?_); (first | assumption | omega | decide | (simp only [S_len] at *; omega))) | ((with_reducible refine rv_catSS ?_); (first | assumption | omega | decide | (simp only [S_len] at *; omega))) | (with_reducible exact rv_eq rfl) | (with_reducible exact rv_ne rfl) | ((with_reducible refine rc_lenS ?_); (first | assumption | omega | decide | (simp only [S_len] at *; omega))) | ((with_reducible refine rc_lenL ?_); assumption) | ((with_reducible apply rv_ixL); assumption; rfl) | ((with_reducible refine rv_catS ?_); (first | assumption | omega | decide | (simp only [S_len] at *; omega))) | ((with_reducible refine rv_I ?_); (first | (show (0 : Int) < _; (first | assumption | omega | decide | (simp only [S_len] at *; omega))) | exact .inr ⟨by decide, by decide⟩ | exact .inl ⟨by (first | assumption | omega | decide | (simp only [S_len] at *; omega)), by (first | assumption | omega | decide | (simp only [S_len] at *; omega))⟩ | exact .inr ⟨by (first | assumption | omega | decide | (simp only [S_len] at *; omega)), by (first | assumption | omega | decide | (simp only [S_len] at *; omega))⟩ | exact ⟨by decide, by decide, by decide⟩ | exact wide_div (b := 128) (by (first | assumption | omega | decide | (simp only [S_len] at *; omega))) (by (first | assumption | omega | decide | (simp only [S_len] at *; omega))) (by decide) (by decide))))) (el_lst (ea_cons ev_c (ea_cons ev_c ea_nil)) (by simp)) fun _ _ h _ => rv_niL (sq_of h) rfl rfl)) (fun hc H1 e1 => ?_) (fun hc H1 e1 => ?_)
    · refine s_retU (eu_tup ea_nil (by simp)) fun p H2 hp e2 h2 => q2 (isJ_no fun h => ?_) p H2 (fresh_back e1 hp) (e1.trans e2) h2
      obtain ⟨_, h1, h3, _⟩ := isJ_iff.mp h
      rw [in79] at hc
      simp only [Bool.not_eq_true', decide_eq_false_iff_not] at hc
      unfold rdA rdB at h3
      unfold rdB at h1
      rw [List.length_take] at h1 h3
      rw [List.length_drop] at h3
      omega
    · rw [in79] at hc
      simp only [Bool.not_eq_false', decide_eq_true_eq] at hc
      have hm : (l.length : Int) / 2 = ((l.length / 2 : Nat) : Int) := by omega
      refine q_asg (v := .int ((l.length / 2 : Nat) : Int)) (by rw [← hm]; repeat' (first | ((with_reducible refine ev_pow10 ?_ ?_ ?_) <;> first | rfl | decide) | (with_reducible refine fun (_ : _ = true) => ?_) | (with_reducible refine fun (_ : _ = false) => ?_) | (with_reducible exact ev_c) | ((with_reducible apply ev_var); rfl) | (with_reducible apply ev_op) | (with_reducible apply ev_un) | (with_reducible apply ev_cb) | (with_reducible apply ea_cons) | (with_reducible apply ev_andV) | (with_reducible apply ev_orV) | (with_reducible apply ev_notV) | (with_reducible apply ev_if) | (with_reducible apply eo_some) | (with_reducible apply el_lst) | (with_reducible exact ea_nil) | (with_reducible exact rv_I0) | (with_reducible exact ru_neg) | (with_reducible exact rv_ltS) | (with_reducible exact rv_inC) | (with_reducible exact rv_notInC) | (with_reducible exact rc_intI) | (with_reducible exact rc_intB) | (with_reducible exact rc_min2) | (with_reducible exact rc_isStr) | (with_reducible exact eo_none) | (with_reducible exact rv_inSS) | (with_reducible exact rv_notInSS) | (with_reducible exact rv_ltSS) | (with_reducible exact rv_eqSS) | (with_reducible exact rv_eqII) | (with_reducible exact rv_neII) | (with_reducible exact rv_neSS) | ((with_reducible refine rc_lenSS ?_); (first | assumption | omega | decide | (simp only [S_len] at *; omega))) | ((with_reducible refine rc_lenStr ?_); (first | assumption | omega | decide | (simp only [S_len] at *; omega))) | ((with_reducible refine rv_catSS ?_); (first | assumption | omega | decide | (simp only [S_len] at *; omega))) | (with_reducible exact rv_eq rfl) | (with_reducible exact rv_ne rfl) | ((with_reducible refine rc_lenS ?_); (first | assumption | omega | decide | (simp only [S_len] at *; omega))) | ((with_reducible refine rc_lenL ?_); assumption) | ((with_reducible apply rv_ixL); assumption; rfl) | ((with_reducible refine rv_catS ?_); (first | assumption | omega | decide | (simp only [S_len] at *; omega))) | ((with_reducible refine rv_I ?_); (first | (show (0 : Int) < _; (first | assumption | omega | decide | (simp only [S_len] at *; omega))) | exact .inr ⟨by decide, by decide⟩ | exact .inl ⟨by (first | assumption | omega | decide | (simp only [S_len] at *; omega)), by (first | assumption | omega | decide | (simp only [S_len] at *; omega))⟩ | exact .inr ⟨by (first | assumption | omega | decide | (simp only [S_len] at *; omega)), by (first | assumption | omega | decide | (simp only [S_len] at *; omega))⟩ | exact ⟨by decide, by decide, by decide⟩ | exact wide_div (b := 128) (by (first | assumption | omega | decide | (simp only [S_len] at *; omega))) (by (first | assumption | omega | decide | (simp only [S_len] at *; omega))) (by decide) (by decide))))) fun H2 e2 => ?_
      refine q_asg (v := .str (rdW (rdS l))) ?_ fun H3 e3 => ?_
      · rw [← val_r, rdS_eq (by omega)]
        exact ev_d3g (n := S [l.getD (l.length / 2) 0]) (ev_op (ev_var rfl) (ev_var rfl) (rv_ixSS (i := ((l.length / 2 : Nat) : Int)) (by omega) (by omega) (by omega))) ev_c
      have hB : ∀ H3, Ev (tSl rSlS (tVar 0) tNoPart (tPart (tVar 1))) [some (.str (S l)), some (.int ((l.length / 2 : Nat) : Int)), some (.str (rdW (rdS l)))] H3 (.str (S (rdB l))) := fun H3 => ev_to (k := l.length / 2) (ev_var rfl) (ev_var rfl) (by omega)
      have hA : ∀ H3, Ev (tSl rSlS (tVar 0) (tPart (tOp (rI0 fun i j => V.int (i + j)) (tVar 1) (tC (V.int 1)))) tNoPart) [some (.str (S l)), some (.int ((l.length / 2 : Nat) : Int)), some (.str (rdW (rdS l)))] H3 (.str (S (rdA l))) := fun H3 => ev_from (k := l.length / 2 + 1) (ev_var rfl) (by rw [show ((l.length / 2 + 1 : Nat) : Int) = ((l.length / 2 : Nat) : Int) + 1 by omega]; repeat' (first | ((with_reducible refine ev_pow10 ?_ ?_ ?_) <;> first | rfl | decide) | (with_reducible refine fun (_ : _ = true) => ?_) | (with_reducible refine fun (_ : _ = false) => ?_) | (with_reducible exact ev_c) | ((with_reducible apply ev_var); rfl) | (with_reducible apply ev_op) | (with_reducible apply ev_un) | (with_reducible apply ev_cb) | (with_reducible apply ea_cons) | (with_reducible apply ev_andV) | (with_reducible apply ev_orV) | (with_reducible apply ev_notV) | (with_reducible apply ev_if) | (with_reducible apply eo_some) | (with_reducible apply el_lst) | (with_reducible exact ea_nil) | (with_reducible exact rv_I0) | (with_reducible exact ru_neg) | (with_reducible exact rv_ltS) | (with_reducible exact rv_inC) | (with_reducible exact rv_notInC) | (with_reducible exact rc_intI) | (with_reducible exact rc_intB) | (with_reducible exact rc_min2) | (with_reducible exact rc_isStr) | (with_reducible exact eo_none) | (with_reducible exact rv_inSS) | (with_reducible exact rv_notInSS) | (with_reducible exact rv_ltSS) | (with_reducible exact rv_eqSS) | (with_reducible exact rv_eqII) | (with_reducible exact rv_neII) | (with_reducible exact rv_neSS) | ((with_reducible refine rc_lenSS ?_); (first | assumption | omega | decide | (simp only [S_len] at *; omega))) | ((with_reducible refine rc_lenStr ?_); (first | assumption | omega | decide | (simp only [S_len] at *; omega))) | ((with_reducible refine rv_catSS ?_); (first | assumption | omega | decide | (simp only [S_len] at *; omega))) | (with_reducible exact rv_eq rfl) | (with_reducible exact rv_ne rfl) | ((with_reducible refine rc_lenS ?_); (first | assumption | omega | decide | (simp only [S_len] at *; omega))) | ((with_reducible refine rc_lenL ?_); assumption) | ((with_reducible apply rv_ixL); assumption; rfl) | ((with_reducible refine rv_catS ?_); (first | assumption | omega | decide | (simp only [S_len] at *; omega))) | ((with_reducible refine rv_I ?_); (first | (show (0 : Int) < _; (first | assumption | omega | decide | (simp only [S_len] at *; omega))) | exact .inr ⟨by decide, by decide⟩ | exact .inl ⟨by (first | assumption | omega | decide | (simp only [S_len] at *; omega)), by (first | assumption | omega | decide | (simp only [S_len] at *; omega))⟩ | exact .inr ⟨by (first | assumption | omega | decide | (simp only [S_len] at *; omega)), by (first | assumption | omega | decide | (simp only [S_len] at *; omega))⟩ | exact ⟨by decide, by decide, by decide⟩ | exact wide_div (b := 128) (by (first | assumption | omega | decide | (simp only [S_len] at *; omega))) (by (first | assumption | omega | decide | (simp only [S_len] at *; omega))) (by decide) (by decide))))) (by omega)
      have hlb : (rdB l).length ≤ 1000 := by unfold rdB; rw [List.length_take]; omega
      have hla : (rdA l).length ≤ 1000 := by unfold rdA; rw [List.length_drop]; omega
      refine q_when (b := !isJ (rdB l) (rdA l) (rdW (rdS l))) (et_not (et_test (ev_call (ea_cons (hB _) (ea_cons (hA _) (ea_cons (ev_var rfl) ea_nil))) fun H4 e4 Q q E => ⟨_, _, _, rfl, hlb, hla, q⟩))) (fun hc1 H4 e4 => ?_) (fun hc1 H4 e4 => ?_)
      · exact s_retU (eu_tup ea_nil (by simp)) fun p H5 hp e5 h5 => q2 (not_t hc1) p H5 (fresh_back (((e1.trans e2).trans e3).trans e4) hp) ((((e1.trans e2).trans e3).trans e4).trans e5) h5
      · exact s_retU (eu_tup (ea_cons (hB _) (ea_cons (hA _) (ea_cons (ev_var rfl) ea_nil))) (by simp)) fun p H5 hp e5 h5 => q1 (not_f hc1) p H5 (fresh_back (((e1.trans e2).trans e3).trans e4) hp) ((((e1.trans e2).trans e3).trans e4).trans e5) h5
end
end K03
namespace K03
open PySem PySem.Spec PyProof.Rows L2 Lc Evl
section
variable {P : Program} {w : World} {K : PySem.W.Frag} {mg : Str → Option Value} {base : Heap}
/-! ### the law's windows -/
theorem ev_image {σ : L2.St} {H : Hp} {te : TE} {l : List Nat} (hl : l.length ≤ 60) (h : Ev te σ H (.str (S l))) : Ev (tCall sp_law_image [] E0 (tCons te tNil)) σ H (.str (S l.reverse)) :=
  ev_call (ea_cons h ea_nil) fun H1 e1 Q q E => ⟨l, rfl, by omega, q⟩
def sp_law_windows (K : PySem.W.Frag) : Sp := fun vs H Q _ => ∃ (j : Addr) (b a : List Nat) (z : Str), vs = [.ref j] ∧ Tri H j b a z ∧ b.length ≤ 60 ∧ a.length ≤ 60 ∧ ∀ p H', H p = none → Ex H H' → Wins H' p (winsOf b a z) → Q (.ref p) H'
theorem ok_law_windows (T : Tx K mg w) : OkD P w K mg base 2 d_law_windows ps_law_windows (sp_law_windows K) := by
  refine (h_law_windows T).ok sc_law_windows (fun vs H Q E h => ?_) (fun cdv A outer s H vs Q E hr h => ⟨_,
      (pss_cons (ps_set (i := 1) sc_law_windows.nd rfl (Or.inl rfl) (pe_lst pa_nil))
      (pss_cons (ps_if (pt_cmpR op_ne (pe_ix ix_tup (pv 0) pe_int (fun _ _ => rfl)) pe_str (nomark _)) (pss_one (ps_expr (pe_bm PySem.F.plainAttrs_list PySem.F.slot_list_append PySem.F.type_list_append mt_append (pv 1) (pa_cons (pe_tup (pa_cons (pe_ix ix_tup (pv 0) pe_int (fun _ _ => rfl)) (pa_cons (pe_ix ix_tup (pv 0) pe_int (fun _ _ => rfl)) pa_nil))) pa_nil)))) pss_nil)
      (pss_cons (ps_if (pt_cmpR op_ne (pe_ix ix_tup (pv 0) pe_int (fun _ _ => rfl)) pe_str (nomark _)) (pss_one (ps_expr (pe_bm PySem.F.plainAttrs_list PySem.F.slot_list_append PySem.F.type_list_append mt_append (pv 1) (pa_cons (pe_tup (pa_cons (pe_call (ok_law_image (P := P) (w := w) (base := base) T) (hr.mono (by decide)) (by rfl) (m_law_image T) (k_law_image T) (b_law_image T) .nil passN (pa_cons (pe_ix ix_tup (pv 0) pe_int (fun _ _ => rfl)) pa_nil)) (pa_cons (pe_call (ok_law_image (P := P) (w := w) (base := base) T) (hr.mono (by decide)) (by rfl) (m_law_image T) (k_law_image T) (b_law_image T) .nil passN (pa_cons (pe_ix ix_tup (pv 0) pe_int (fun _ _ => rfl)) pa_nil)) pa_nil))) pa_nil)))) pss_nil)
      (pss_one (ps_ret (pv 1)))))), ?_⟩)
  · obtain ⟨j, b, a, z, rfl, _⟩ := h
    rfl
  · obtain ⟨j, b, a, z, rfl, hj, hb, ha, q⟩ := h
    refine q_asgL (el_lst ea_nil (by decide)) fun p H1 hp e1 h1 => ?_
    have j1 := hj.ex e1
    refine q_when (b := !decide (z = "left")) (et_test (ev_op (ev_t2 (te := tVar 0) (by exact ev_var rfl) j1) ev_c rv_neTT)) (fun hc H2 e2 => ?_) (fun hc H2 e2 => ?_)
    · have h2 := e2 _ _ h1
      have j2 := j1.ex e2
      refine s_appU h2 (by exact ev_var rfl) (eu_tup (ea_cons (ev_t0 (te := tVar 0) (by exact ev_var rfl) j2) (ea_cons (ev_t1 (te := tVar 0) (by exact ev_var rfl) j2) ea_nil)) (by simp)) (by decide) fun t H3 ht e3 h3 => ?_
      have hp3 := e3 _ _ h2
      have htp := ne_lt h3 hp3
      have j3 : Tri (upd H3 p (.lst ([] ++ [.ref t]))) j b a z := by
        refine hj.ex ?_
        exact Ex.mut ((e1.trans e2).trans e3) hp
      have e3' : Ex H (upd H3 p (.lst ([] ++ [.ref t]))) := Ex.mut ((e1.trans e2).trans e3) hp
      have t3 : upd H3 p (.lst ([] ++ [.ref t])) t = some (.tup [.str (S b), .str (S a)]) := by
        rw [upd_ne htp]
        exact h3
      have p3 : upd H3 p (.lst ([] ++ [.ref t])) p = some (.lst [.ref t]) := upd_same
      generalize upd H3 p (.lst ([] ++ [.ref t])) = H4 at j3 e3' t3 p3
      refine q_when (b := !decide (z = "right")) (et_test (ev_op (ev_t2 (te := tVar 0) (by exact ev_var rfl) j3) ev_c rv_neTT)) (fun hc2 H5 e5 => ?_) (fun hc2 H5 e5 => ?_)
      · have j5 := j3.ex e5
        have p5 := e5 _ _ p3
        refine s_appU p5 (by exact ev_var rfl) (eu_tup (ea_cons (ev_image hb (ev_t0 (te := tVar 0) (by exact ev_var rfl) j5)) (ea_cons (ev_image ha (ev_t1 (te := tVar 0) (by exact ev_var rfl) j5)) ea_nil)) (by simp)) (by simp) fun t2 H6 ht2 e6 h6 => ?_
        have hp6 := e6 _ _ p5
        dsimp only
        refine s_ret (v := .ref p) (by exact ev_var rfl) fun H7 e7 => q p H7 hp ((Ex.mut ((e3'.trans e5).trans e6) hp).trans e7) ⟨[t, t2], e7 _ _ upd_same, ?_⟩
        unfold winsOf
        rw [if_neg (by simpa using hc), if_neg (by simpa using hc2)]
        refine ⟨e7 _ _ ?_, e7 _ _ ?_, trivial⟩
        · rw [upd_ne (ne_lt (e6 _ _ (e5 _ _ t3)) hp6)]
          exact e6 _ _ (e5 _ _ t3)
        · rw [upd_ne (ne_lt h6 hp6)]
          exact h6
      · refine s_ret (by exact ev_var rfl) fun H7 e7 => q p H7 hp ((e3'.trans e5).trans e7) ⟨[t], e7 _ _ (e5 _ _ p3), ?_⟩
        unfold winsOf
        rw [if_neg (by simpa using hc), if_pos (by simpa using hc2)]
        exact ⟨e7 _ _ (e5 _ _ t3), trivial⟩
    · have h2 := e2 _ _ h1
      have j2 := j1.ex e2
      refine q_when (b := !decide (z = "right")) (et_test (ev_op (ev_t2 (te := tVar 0) (by exact ev_var rfl) j2) ev_c rv_neTT)) (fun hc2 H5 e5 => ?_) (fun hc2 H5 e5 => ?_)
      · have j5 := j2.ex e5
        have p5 := e5 _ _ h2
        refine s_appU p5 (by exact ev_var rfl) (eu_tup (ea_cons (ev_image hb (ev_t0 (te := tVar 0) (by exact ev_var rfl) j5)) (ea_cons (ev_image ha (ev_t1 (te := tVar 0) (by exact ev_var rfl) j5)) ea_nil)) (by simp)) (by simp) fun t2 H6 ht2 e6 h6 => ?_
        have hp6 := e6 _ _ p5
        dsimp only
        refine s_ret (v := .ref p) (by exact ev_var rfl) fun H7 e7 => q p H7 hp ((Ex.mut (((e1.trans e2).trans e5).trans e6) hp).trans e7) ⟨[t2], e7 _ _ upd_same, ?_⟩
        unfold winsOf
        rw [if_pos (by simpa using hc), if_neg (by simpa using hc2)]
        refine ⟨e7 _ _ ?_, trivial⟩
        rw [upd_ne (ne_lt h6 hp6)]
        exact h6
      · refine s_ret (by exact ev_var rfl) fun H7 e7 => q p H7 hp (((e1.trans e2).trans e5).trans e7) ⟨[], e7 _ _ (e5 _ _ h2), ?_⟩
        unfold winsOf
        rw [if_pos (by simpa using hc), if_pos (by simpa using hc2)]
        trivial
/-! ### texts drawn sign by sign -/
theorem bx_lc {σ : L2.St} {H : Hp} {b : Addr} {i j n : Nat} {al : List Nat} {ta : TA} {tal tm : TE} {Q : VK} (hj : ∀ x, ((wipe σ [j]).set j (some x))[i]? = some (some (.ref b))) (hw : ∀ x, wipe ((wipe σ [j]).set j (some x)) [j] = wipe σ [j])
    (hn : EvA ta σ H [.int (n : Int)]) (hal : ∀ x H1, Ev tal ((wipe σ [j]).set j (some x)) H1 (.str (S al))) {m : Int} (hmm : m = (al.length : Int)) (hm : ∀ x H1, Ev tm ((wipe σ [j]).set j (some x)) H1 (.int m)) (hb : Bx H b) (h0 : 0 < al.length) (h1 : al.length ≤ 100) (hn1 : n ≤ 1000)
    (k : ∀ (cs : List Nat) p H', cs.length = n → (∀ c ∈ cs, c ∈ al) → H p = none → H' p = some (.lst (cs.map fun c => V.str (S [c]))) → ExB b H H' → Bx H' b → Q (.ref p) H') :
    tLc (iRng1 ta) (gName j) tYes (tOp rIxS tal (tCall sp_law_take [] E0 (tCons (tVar i) (tCons tm tNil)))) [j] σ H Q := by
  refine hn H (Ex.refl H) _ fun H1 e1 => ⟨(n : Int), rfl, by omega, by omega, fun D hD => ?_⟩
  have hb1 := hb.ex e1
  have hDb : D ≠ b := fun z => by
    obtain ⟨x, y, v, hx⟩ := hb1
    rw [z, hx] at hD
    cases hD
  refine lc_range (lo := 0) (n := n) (fun i H' => ∃ cs : List Nat, cs.length = i ∧ (∀ c ∈ cs, c ∈ al) ∧ H' D = some (.lst (cs.map fun c => V.str (S [c]))) ∧ ExB b H1 H' ∧ Bx H' b) ⟨[], rfl, by simp, upd_same, ExB.of (Ex.new hD), hb1.ex (Ex.new hD)⟩ ?_ ?_
  · rintro u H' hu ⟨cs, rfl, hca, hDl, ep, bp'⟩
    refine ⟨hw _, ?_⟩
    refine hal _ H' H' (Ex.refl H') _ fun H2 e2 => ?_
    refine sp_take_then (b := b) (many := m) (hj _) (bp'.ex e2) (hm _ _) (by omega) (Nat.lt_of_le_of_lt (show m.natAbs ≤ 100 by omega) (by decide)) fun d H3 d0 d1 e3 b3 => ?_
    refine ⟨S al, d, al.getD d.toNat 0, rfl, rfl, sz_of (by rw [S_len]; omega), atI_i d0 (by show d < (al.length : Int); omega) 0, ?_⟩
    refine ⟨_, e3 D _ hDb (e2 _ _ hDl), Nat.lt_of_lt_of_le (show _ < 2000 by rw [List.length_map]; omega) (by decide), cs ++ [al.getD d.toNat 0], by simp, ?_, ?_, ?_, ?_⟩
    · intro c hc
      rcases List.mem_append.mp hc with hc | hc
      · exact hca c hc
      · have hc2 : c = al.getD d.toNat 0 := by simpa using hc
        rw [hc2]
        exact getD_in (by omega)
    · rw [upd_same, List.map_append]
      rfl
    · intro c o hc ho
      have hcD : c ≠ D := fun z => by rw [z, hD] at ho; cases ho
      rw [upd_ne hcD]
      exact e3 c o hc (e2 _ _ (ep c o hc ho))
    · obtain ⟨x, y, z, h3⟩ := b3
      exact ⟨x, y, z, by rw [upd_ne (Ne.symm hDb)]; exact h3⟩
  · rintro H' ⟨cs, hcl, hca, hDl, ep, bp'⟩
    exact k cs D H' hcl hca (fresh_back e1 hD) hDl ((ExB.of e1).trans ep) bp'
theorem bx_join {σ : L2.St} {H : Hp} {b : Addr} {i j n : Nat} {al : List Nat} {ta : TA} {tal tm : TE} {Q : VK} (hj : ∀ x, ((wipe σ [j]).set j (some x))[i]? = some (some (.ref b))) (hw : ∀ x, wipe ((wipe σ [j]).set j (some x)) [j] = wipe σ [j])
    (hn : EvA ta σ H [.int (n : Int)]) (hal : ∀ x H1, Ev tal ((wipe σ [j]).set j (some x)) H1 (.str (S al))) {m : Int} (hmm : m = (al.length : Int)) (hm : ∀ x H1, Ev tm ((wipe σ [j]).set j (some x)) H1 (.int m)) (hb : Bx H b) (h0 : 0 < al.length) (h1 : al.length ≤ 100) (hn1 : n ≤ 1000)
    (k : ∀ (cs : List Nat) H', cs.length = n → (∀ c ∈ cs, c ∈ al) → ExB b H H' → Bx H' b → Q (.str (S cs)) H') :
    tM1 (fun x xs H Q => ∃ a p, ∃ ys : List Str, x = .str a ∧ xs = [.ref p] ∧ (SqL K H p (ys.map V.str) ∨ SqT K H p (ys.map V.str)) ∧ (ys.map (·.length)).sum + ys.length * a.length ≤ 16777216 ∧ Q (.str (Txt.join a ys)) H) (tC (.str (S [])))
      (tLc (iRng1 ta) (gName j) tYes (tOp rIxS tal (tCall sp_law_take [] E0 (tCons (tVar i) (tCons tm tNil)))) [j]) σ H Q := by
  refine ⟨⟨_, rfl⟩, bx_lc hj hw hn hal hmm hm hb h0 h1 hn1 fun cs p H' hl hc hp h2 e b2 => ?_⟩
  refine ⟨S [], p, cs.map fun c => S [c], rfl, rfl, .inl (SqL.of (by rw [List.map_map]; exact h2)), join_sz _ (by omega), ?_⟩
  rw [join_S]
  exact k cs H' hl hc e b2
theorem q_first {σ : L2.St} {H : Hp} {te : TE} {tz : TS} {D : Ends} {i : Nat} (h : te σ H fun v H1 => tz D (σ.set i (some v)) H1) : tSeq (tAsg te (gName i)) tz D σ H := h
theorem op_fst {σ : L2.St} {H : Hp} {r : R2} {ta tb : TE} {Q : VK} (h : ta σ H fun x H1 => tb σ H1 fun y H2 => r x y H2 Q) : tOp r ta tb σ H Q := h
theorem op_c {σ : L2.St} {H : Hp} {r : R2} {tb : TE} {v : V} {Q : VK} (h : tb σ H fun y H2 => r v y H2 Q) : tOp r (tC v) tb σ H Q := h
theorem ret_fst {σ : L2.St} {H : Hp} {te : TE} {D : Ends} (h : te σ H D.rt) : tRet te D σ H := h
end
end K03
namespace K03
open PySem PySem.Spec PyProof.Rows L2 Lc Evl
section
variable {P : Program} {w : World} {K : PySem.W.Frag} {mg : Str → Option Value} {base : Heap}
/-! ### jumps drawn -/
def sp_law_good (K : PySem.W.Frag) : Sp := fun vs H Q _ => ∃ bx, vs = [.ref bx] ∧ Bx H bx ∧ ∀ p b a z H', H p = none → isJ b a z = true → Tri H' p b a z → ExB bx H H' → Bx H' bx → Q (.ref p) H'
theorem good_isJ {cs ds : List Nat} {z : Str} (hc : ∀ c ∈ cs, c ∈ kL) (hd : ∀ c ∈ ds, c ∈ 46 :: kL) (hz : z ∈ wys) (hl : cs.length = 2 ∨ cs.length = 3) (he : ds.length = cs.length) : isJ (cs ++ [46]) (46 :: ds) z = true := by
  refine isJ_iff.mpr ⟨hz, ?_, ?_, ?_, rfl, fun c h => ?_, fun c h => ?_⟩
  · rw [List.length_append]
    simp
    omega
  · rw [List.length_append, List.length_cons]
    simp
    omega
  · simp
  · rw [List.length_append, List.length_singleton, Nat.add_sub_cancel, List.take_left'] at h
    · exact hc c h
    · rfl
  · rcases List.mem_cons.mp h with h | h
    · exact .inl h
    · exact List.mem_cons.mp (hd c h)
theorem ok_law_good (T : Tx K mg w) : OkD P w K mg base 2 d_law_good ps_law_good (sp_law_good K) := by
  refine (h_law_good T).ok sc_law_good (fun vs H Q E h => ?_) (fun cdv A outer s H vs Q E hr h => ⟨_,
      (pss_cons (ps_set (i := 1) sc_law_good.nd rfl (Or.inl rfl) (pe_op op_add pe_int (pe_call (ok_law_take (P := P) (w := w) (base := base) T) (hr.mono (by decide)) (by rfl) (m_law_take T) (k_law_take T) (b_law_take T) .nil passN (pa_cons (pv 0) (pa_cons pe_int pa_nil)))))
      (pss_cons (ps_set (i := 2) sc_law_good.nd rfl (Or.inl rfl) (pe_op op_add_str (pe_join pe_str (pe_lc (own := [("at", 4)]) (g := gName 4) rfl sc_law_good.nd (pi_range1 rfl (m_range T) (pa_cons (pv 1) pa_nil)) (blkOk_by (own := [("at", 4)]) (N := ns_law_good) (sc := defScope st_law_good) (by decide +kernel)) (fun _ _ _ _ _ => pg_name (i := 4) sc_law_good.nd rfl (Or.inl rfl)) (fun _ _ _ _ _ => pts_nil) (fun _ _ _ _ _ => (pe_ix ix_str pe_str (pe_call (ok_law_take (P := P) (w := w) (base := base) T) (hr.mono (by decide)) (by rfl) (m_law_take T) (k_law_take T) (b_law_take T) .nil passN (pa_cons (pv 0) (pa_cons pe_int pa_nil))) (fun _ _ => rfl))))) pe_str))
      (pss_cons (ps_set (i := 3) sc_law_good.nd rfl (Or.inl rfl) (pe_op op_add_str pe_str (pe_join pe_str (pe_lc (own := [("at", 4)]) (g := gName 4) rfl sc_law_good.nd (pi_range1 rfl (m_range T) (pa_cons (pv 1) pa_nil)) (blkOk_by (own := [("at", 4)]) (N := ns_law_good) (sc := defScope st_law_good) (by decide +kernel)) (fun _ _ _ _ _ => pg_name (i := 4) sc_law_good.nd rfl (Or.inl rfl)) (fun _ _ _ _ _ => pts_nil) (fun _ _ _ _ _ => (pe_ix ix_str pe_str (pe_call (ok_law_take (P := P) (w := w) (base := base) T) (hr.mono (by decide)) (by rfl) (m_law_take T) (k_law_take T) (b_law_take T) .nil passN (pa_cons (pv 0) (pa_cons pe_int pa_nil))) (fun _ _ => rfl)))))))
      (pss_one (ps_ret (pe_tup (pa_cons (pv 2) (pa_cons (pv 3) (pa_cons (pe_ix ix_list (pe_lst (pa_cons pe_str (pa_cons pe_str (pa_cons pe_str pa_nil)))) (pe_call (ok_law_take (P := P) (w := w) (base := base) T) (hr.mono (by decide)) (by rfl) (m_law_take T) (k_law_take T) (b_law_take T) .nil passN (pa_cons (pv 0) (pa_cons pe_int pa_nil))) (fun _ _ => rfl)) pa_nil))))))))), ?_⟩)
  · obtain ⟨bx, rfl, _⟩ := h
    rfl
  · obtain ⟨bx, rfl, hb, q⟩ := h
    simp only [k_dot, k_abcd, k_dabcd]
    have k0 : Str.ofString "" = S [] := by decide +kernel
    rw [k0]
    refine q_first (op_c ?_)
    refine sp_take_then (b := bx) (many := 2) rfl hb (by exact ev_c) (by decide) (by decide) fun d H1 d0 d1 e1 b1 => ?_
    obtain ⟨d, rfl⟩ : ∃ k : Nat, d = (k : Int) := ⟨d.toNat, by omega⟩
    refine ⟨_, _, rfl, rfl, ?_⟩
    have en : (2 : Int) + (d : Int) = ((2 + d : Nat) : Int) := by omega
    refine q_first (op_fst ?_)
    refine bx_join (b := bx) (i := 0) (j := 4) (n := 2 + d) (al := kL) (m := 4) (fun x => rfl) (fun x => rfl) ?_ (fun x H1 => ev_c) (by decide) (fun x H1 => ev_c) b1 (by decide) (by decide) (by omega) fun cs H2 hcl hcm e2 b2 => ?_
    · rw [← en]
      repeat' (first | ((with_reducible refine ev_pow10 ?_ ?_ ?_) <;> first | rfl | decide) | (with_reducible refine fun (_ : _ = true) => ?_) | (with_reducible refine fun (_ : _ = false) => ?_) | (with_reducible exact ev_c) | ((with_reducible apply ev_var); rfl) | (with_reducible apply ev_op) | (with_reducible apply ev_un) | (with_reducible apply ev_cb) | (with_reducible apply ea_cons) | (with_reducible apply ev_andV) | (with_reducible apply ev_orV) | (with_reducible apply ev_notV) | (with_reducible apply ev_if) | (with_reducible apply eo_some) | (with_reducible apply el_lst) | (with_reducible exact ea_nil) | (with_reducible exact rv_I0) | (with_reducible exact ru_neg) | (with_reducible exact rv_ltS) | (with_reducible exact rv_inC) | (with_reducible exact rv_notInC) | (with_reducible exact rc_intI) | (with_reducible exact rc_intB) | (with_reducible exact rc_min2) | (with_reducible exact rc_isStr) | (with_reducible exact eo_none) | (with_reducible exact rv_inSS) | (with_reducible exact rv_notInSS) | (with_reducible exact rv_ltSS) | (with_reducible exact rv_eqSS) | (with_reducible exact rv_eqII) | (with_reducible exact rv_neII) | (with_reducible exact rv_neSS) | ((with_reducible refine rc_lenSS ?_); (first | assumption | omega | decide | (simp only [S_len] at *; omega))) | ((with_reducible refine rc_lenStr ?_); (first | assumption | omega | decide | (simp only [S_len] at *; omega))) | ((with_reducible refine rv_catSS ?_); (first | assumption | omega | decide | (simp only [S_len] at *; omega))) | (with_reducible exact rv_eq rfl) | (with_reducible exact rv_ne rfl) | ((with_reducible refine rc_lenS ?_); (first | assumption | omega | decide | (simp only [S_len] at *; omega))) | ((with_reducible refine rc_lenL ?_); assumption) | ((with_reducible apply rv_ixL); assumption; rfl) | ((with_reducible refine rv_catS ?_); (first | assumption | omega | decide | (simp only [S_len] at *; omega))) | ((with_reducible refine rv_I ?_); (first | (show (0 : Int) < _; (first | assumption | omega | decide | (simp only [S_len] at *; omega))) | exact .inr ⟨by decide, by decide⟩ | exact .inl ⟨by (first | assumption | omega | decide | (simp only [S_len] at *; omega)), by (first | assumption | omega | decide | (simp only [S_len] at *; omega))⟩ | exact .inr ⟨by (first | assumption | omega | decide | (simp only [S_len] at *; omega)), by (first | assumption | omega | decide | (simp only [S_len] at *; omega))⟩ | exact ⟨by decide, by decide, by decide⟩ | exact wide_div (b := 128) (by (first | assumption | omega | decide | (simp only [S_len] at *; omega))) (by (first | assumption | omega | decide | (simp only [S_len] at *; omega))) (by decide) (by decide))))
    refine ⟨S cs, S [46], rfl, rfl, sz_of (by rw [S_len, S_len]; simp; omega), ?_⟩
    rw [S_app]
    refine q_first (op_c ?_)
    refine bx_join (b := bx) (i := 0) (j := 4) (n := 2 + d) (al := 46 :: kL) (m := 5) (fun x => rfl) (fun x => rfl) ?_ (fun x H1 => ev_c) (by decide) (fun x H1 => ev_c) b2 (by decide) (by decide) (by omega) fun ds H3 hdl hdm e3 b3 => ?_
    · rw [← en]
      repeat' (first | ((with_reducible refine ev_pow10 ?_ ?_ ?_) <;> first | rfl | decide) | (with_reducible refine fun (_ : _ = true) => ?_) | (with_reducible refine fun (_ : _ = false) => ?_) | (with_reducible exact ev_c) | ((with_reducible apply ev_var); rfl) | (with_reducible apply ev_op) | (with_reducible apply ev_un) | (with_reducible apply ev_cb) | (with_reducible apply ea_cons) | (with_reducible apply ev_andV) | (with_reducible apply ev_orV) | (with_reducible apply ev_notV) | (with_reducible apply ev_if) | (with_reducible apply eo_some) | (with_reducible apply el_lst) | (with_reducible exact ea_nil) | (with_reducible exact rv_I0) | (with_reducible exact ru_neg) | (with_reducible exact rv_ltS) | (with_reducible exact rv_inC) | (with_reducible exact rv_notInC) | (with_reducible exact rc_intI) | (with_reducible exact rc_intB) | (with_reducible exact rc_min2) | (with_reducible exact rc_isStr) | (with_reducible exact eo_none) | (with_reducible exact rv_inSS) | (with_reducible exact rv_notInSS) | (with_reducible exact rv_ltSS) | (with_reducible exact rv_eqSS) | (with_reducible exact rv_eqII) | (with_reducible exact rv_neII) | (with_reducible exact rv_neSS) | ((with_reducible refine rc_lenSS ?_); (first | assumption | omega | decide | (simp only [S_len] at *; omega))) | ((with_reducible refine rc_lenStr ?_); (first | assumption | omega | decide | (simp only [S_len] at *; omega))) | ((with_reducible refine rv_catSS ?_); (first | assumption | omega | decide | (simp only [S_len] at *; omega))) | (with_reducible exact rv_eq rfl) | (with_reducible exact rv_ne rfl) | ((with_reducible refine rc_lenS ?_); (first | assumption | omega | decide | (simp only [S_len] at *; omega))) | ((with_reducible refine rc_lenL ?_); assumption) | ((with_reducible apply rv_ixL); assumption; rfl) | ((with_reducible refine rv_catS ?_); (first | assumption | omega | decide | (simp only [S_len] at *; omega))) | ((with_reducible refine rv_I ?_); (first | (show (0 : Int) < _; (first | assumption | omega | decide | (simp only [S_len] at *; omega))) | exact .inr ⟨by decide, by decide⟩ | exact .inl ⟨by (first | assumption | omega | decide | (simp only [S_len] at *; omega)), by (first | assumption | omega | decide | (simp only [S_len] at *; omega))⟩ | exact .inr ⟨by (first | assumption | omega | decide | (simp only [S_len] at *; omega)), by (first | assumption | omega | decide | (simp only [S_len] at *; omega))⟩ | exact ⟨by decide, by decide, by decide⟩ | exact wide_div (b := 128) (by (first | assumption | omega | decide | (simp only [S_len] at *; omega))) (by (first | assumption | omega | decide | (simp only [S_len] at *; omega))) (by decide) (by decide))))
    refine ⟨S [46], S ds, rfl, rfl, sz_of (by rw [S_len, S_len]; simp; omega), ?_⟩
    rw [S_app]
    refine ret_fst ?_
    refine ⟨_, rfl, _, rfl, ?_⟩
    refine op_fst ?_
    refine el_lst (vs := [.str "right", .str "left", .str "both"]) (ea_cons ev_c (ea_cons ev_c (ea_cons ev_c ea_nil))) (by simp) H3 (Ex.refl H3) _ fun l H4 hl e4 h4 => ?_
    refine sp_take_then (b := bx) (many := 3) rfl (b3.ex e4) (by exact ev_c) (by decide) (by decide) fun u H5 u0 u1 e5 b5 => ?_
    have hlb : l ≠ bx := fun z => by
      obtain ⟨x, y, v, hx⟩ := b3
      rw [z, hx] at hl
      cases hl
    obtain ⟨z, hz, hat⟩ : ∃ z : Str, z ∈ wys ∧ atI [V.str "right", V.str "left", V.str "both"] u = some (.str z) := by
      obtain ⟨u, rfl⟩ : ∃ k : Nat, u = (k : Int) := ⟨u.toNat, by omega⟩
      have h3 : u = 0 ∨ u = 1 ∨ u = 2 := by omega
      rcases h3 with rfl | rfl | rfl
      · exact ⟨"right", by simp [wys], rfl⟩
      · exact ⟨"left", by simp [wys], rfl⟩
      · exact ⟨"both", by simp [wys], rfl⟩
    refine ⟨l, _, u, _, rfl, rfl, sq_of (e5 _ _ hlb h4), hat, ?_⟩
    refine ⟨sz_of (by simp), fun p hp => ?_⟩
    have hp5 : ∀ c o, H c = some o → c ≠ bx → c ≠ p := fun c o hc hb z => by
      have := e5 c o hb (e4 _ _ (e3 c o hb (e2 c o hb (e1 c o hb hc))))
      rw [z, hp] at this
      cases this
    have hpb : p ≠ bx := fun z => by
      obtain ⟨x, y, v, hx⟩ := b5
      rw [z, hx] at hp
      cases hp
    have hpH : H p = none := by
      cases hh : H p with
      | none => rfl
      | some o => exact absurd rfl (hp5 p o hh hpb)
    refine q p _ _ z _ hpH (good_isJ hcm hdm hz (by omega) (by omega)) upd_same ((((e1.trans e2).trans e3).trans (ExB.of e4)).trans (e5.trans (ExB.of (Ex.new hp)))) (b5.ex (Ex.new hp))
end
end K03
namespace K03
open PySem PySem.Spec PyProof.Rows L2 Lc Evl
section
variable {P : Program} {w : World} {K : PySem.W.Frag} {mg : Str → Option Value} {base : Heap}
/-! ### texts bent -/
def Low (l : List Nat) : Prop := ∀ c ∈ l, c < 128
theorem Low.app {a b : List Nat} (h : Low a) (k : Low b) : Low (a ++ b) := fun c hc => (List.mem_append.mp hc).elim (h c) (k c)
theorem Low.sub {a b : List Nat} (h : Low a) (k : ∀ c ∈ b, c ∈ a) : Low b := fun c hc => h c (k c hc)
theorem ev_cut {σ : L2.St} {te : TE} {tl th : TO} {l : List Nat} {lo hi : Option Int} (h : ∀ H, Ev te σ H (.str (S l))) (h1 : ∀ H, EvO tl σ H lo) (h2 : ∀ H, EvO th σ H hi) (hl : l.length ≤ 1000) (hlow : Low l) : ∃ m, (∀ H, Ev (tSl rSlS te tl th) σ H (.str (S m))) ∧ m.length ≤ l.length ∧ Low m := by
  refine ⟨_, fun H => ev_slS (h H) (h1 H) (h2 H) (by rw [S_len]; omega), ?_, fun c hc => hlow c ?_⟩
  · rw [List.length_take, List.length_drop, tl_S]
    omega
  · exact List.mem_of_mem_drop (List.mem_of_mem_take hc)
def sp_law_bend (K : PySem.W.Frag) : Sp := fun vs H Q _ => ∃ (bx : Addr) (l : List Nat), vs = [.ref bx, .str (S l)] ∧ Bx H bx ∧ l.length ≤ 60 ∧ Low l ∧ ∀ m H', m.length ≤ 2 * l.length + 2 → Low m → ExB bx H H' → Bx H' bx → Q (.str (S m)) H'
def menuB : List Nat := [97, 98, 99, 100, 46, 62, 60, 61, 97, 98, 99, 100, 46, 62, 60, 61, 58, 35, 65, 66, 67, 68, 101, 48, 32, 45, 126, 10]
theorem k_menuB : Str.ofString "abcd.><=abcd.><=:#ABCDe0 -~\n" = S menuB := by decide +kernel
theorem low_menuB : Low menuB := by unfold Low; decide +kernel
theorem k_nl : Str.ofString "\n" = S [10] := by decide +kernel
theorem k_sp : Str.ofString " " = S [32] := by decide +kernel
theorem ok_law_bend (T : Tx K mg w) : OkD P w K mg base 2 d_law_bend ps_law_bend (sp_law_bend K) := by
  refine (h_law_bend T).ok sc_law_bend (fun vs H Q E h => ?_) (fun cdv A outer s H vs Q E hr h => ⟨_,
      (pss_cons (ps_set (i := 2) sc_law_bend.nd rfl (Or.inl rfl) pe_str)
      (pss_cons (ps_set (i := 3) sc_law_bend.nd rfl (Or.inl rfl) (pe_call (ok_law_take (P := P) (w := w) (base := base) T) (hr.mono (by decide)) (by rfl) (m_law_take T) (k_law_take T) (b_law_take T) .nil passN (pa_cons (pv 0) (pa_cons pe_int pa_nil))))
      (pss_cons (ps_set (i := 4) sc_law_bend.nd rfl (Or.inl rfl) (pe_call (ok_law_take (P := P) (w := w) (base := base) T) (hr.mono (by decide)) (by rfl) (m_law_take T) (k_law_take T) (b_law_take T) .nil passN (pa_cons (pv 0) (pa_cons (pe_op op_add (pe_callB call_len_str (by rfl) (m_len T) (by decide +kernel) (pa_cons (pv 1) pa_nil)) pe_int) pa_nil))))
      (pss_cons (ps_set (i := 5) sc_law_bend.nd rfl (Or.inl rfl) (pe_ix ix_str (pv 2) (pe_call (ok_law_take (P := P) (w := w) (base := base) T) (hr.mono (by decide)) (by rfl) (m_law_take T) (k_law_take T) (b_law_take T) .nil passN (pa_cons (pv 0) (pa_cons (pe_callB call_len_str (by rfl) (m_len T) (by decide +kernel) (pa_cons (pv 2) pa_nil)) pa_nil))) (fun _ _ => rfl)))
      (pss_cons (ps_if (pt_cmpR op_lt (pv 3) pe_int (nomark _)) (pss_one (ps_ret (pe_op op_add_str (pe_op op_add_str (pe_slice sl_str (pv 1) po_none (po_some (pv 4))) (pv 5)) (pe_slice sl_str (pv 1) (po_some (pv 4)) po_none)))) pss_nil)
      (pss_cons (ps_if (pt_cmpR op_lt (pv 3) pe_int (nomark _)) (pss_one (ps_ret (pe_op op_add_str (pe_op op_add_str (pe_slice sl_str (pv 1) po_none (po_some (pv 4))) (pv 5)) (pe_slice sl_str (pv 1) (po_some (pe_op op_add (pv 4) pe_int)) po_none)))) pss_nil)
      (pss_cons (ps_if (pt_cmpR op_eq (pv 3) pe_int (nomark _)) (pss_one (ps_ret (pe_op op_add_str (pe_slice sl_str (pv 1) po_none (po_some (pv 4))) (pe_slice sl_str (pv 1) (po_some (pe_op op_add (pv 4) pe_int)) po_none)))) pss_nil)
      (pss_cons (ps_if (pt_cmpR op_eq (pv 3) pe_int (nomark _)) (pss_one (ps_ret (pe_op op_add_str (pe_op op_add_str (pe_op op_add_str (pe_slice sl_str (pv 1) po_none (po_some (pv 4))) (pe_slice sl_str (pv 1) (po_some (pe_op op_add (pv 4) pe_int)) (po_some (pe_op op_add (pv 4) pe_int)))) (pe_slice sl_str (pv 1) (po_some (pv 4)) (po_some (pe_op op_add (pv 4) pe_int)))) (pe_slice sl_str (pv 1) (po_some (pe_op op_add (pv 4) pe_int)) po_none)))) pss_nil)
      (pss_cons (ps_if (pt_cmpR op_eq (pv 3) pe_int (nomark _)) (pss_one (ps_ret (pe_slice sl_str (pv 1) po_none (po_some (pv 4))))) pss_nil)
      (pss_cons (ps_if (pt_cmpR op_eq (pv 3) pe_int (nomark _)) (pss_one (ps_ret (pe_op op_add_str (pe_op op_add_str (pv 1) (pv 5)) (pe_slice sl_str (pv 1) (po_some (pv 4)) po_none)))) pss_nil)
      (pss_one (ps_ret (pe_ix ix_list (pe_lst (pa_cons (pe_op op_add_str (pv 1) pe_str) (pa_cons (pe_op op_add_str pe_str (pv 1)) (pa_cons (pe_op op_add_str (pv 1) pe_str) pa_nil)))) (pe_call (ok_law_take (P := P) (w := w) (base := base) T) (hr.mono (by decide)) (by rfl) (m_law_take T) (k_law_take T) (b_law_take T) .nil passN (pa_cons (pv 0) (pa_cons pe_int pa_nil))) (fun _ _ => rfl)))))))))))))), ?_⟩)
  · obtain ⟨bx, l, rfl, _⟩ := h
    rfl
  · obtain ⟨bx, l, rfl, hb, hl, hlow, q⟩ := h
    simp only [k_menuB, k_nl, k_sp]
    refine q_asg (v := .str (S menuB)) ev_c fun H1 e1 => ?_
    refine q_first ?_
    refine sp_take_then (b := bx) (many := 10) rfl (hb.ex e1) (by exact ev_c) (by decide) (by decide) fun deed H2 _ _ e2 b2 => ?_
    refine q_first ?_
    refine sp_take_then (b := bx) (many := (l.length : Int) + 1) rfl b2 (by repeat' (first | ((with_reducible refine ev_pow10 ?_ ?_ ?_) <;> first | rfl | decide) | (with_reducible refine fun (_ : _ = true) => ?_) | (with_reducible refine fun (_ : _ = false) => ?_) | (with_reducible exact ev_c) | ((with_reducible apply ev_var); rfl) | (with_reducible apply ev_op) | (with_reducible apply ev_un) | (with_reducible apply ev_cb) | (with_reducible apply ea_cons) | (with_reducible apply ev_andV) | (with_reducible apply ev_orV) | (with_reducible apply ev_notV) | (with_reducible apply ev_if) | (with_reducible apply eo_some) | (with_reducible apply el_lst) | (with_reducible exact ea_nil) | (with_reducible exact rv_I0) | (with_reducible exact ru_neg) | (with_reducible exact rv_ltS) | (with_reducible exact rv_inC) | (with_reducible exact rv_notInC) | (with_reducible exact rc_intI) | (with_reducible exact rc_intB) | (with_reducible exact rc_min2) | (with_reducible exact rc_isStr) | (with_reducible exact eo_none) | (with_reducible exact rv_inSS) | (with_reducible exact rv_notInSS) | (with_reducible exact rv_ltSS) | (with_reducible exact rv_eqSS) | (with_reducible exact rv_eqII) | (with_reducible exact rv_neII) | (with_reducible exact rv_neSS) | ((with_reducible refine rc_lenSS ?_); (first | assumption | omega | decide | (simp only [S_len] at *; omega))) | ((with_reducible refine rc_lenStr ?_); (first | assumption | omega | decide | (simp only [S_len] at *; omega))) | ((with_reducible refine rv_catSS ?_); (first | assumption | omega | decide | (simp only [S_len] at *; omega))) | (with_reducible exact rv_eq rfl) | (with_reducible exact rv_ne rfl) | ((with_reducible refine rc_lenS ?_); (first | assumption | omega | decide | (simp only [S_len] at *; omega))) | ((with_reducible refine rc_lenL ?_); assumption) | ((with_reducible apply rv_ixL); assumption; rfl) | ((with_reducible refine rv_catS ?_); (first | assumption | omega | decide | (simp only [S_len] at *; omega))) | ((with_reducible refine rv_I ?_); (first | (show (0 : Int) < _; (first | assumption | omega | decide | (simp only [S_len] at *; omega))) | exact .inr ⟨by decide, by decide⟩ | exact .inl ⟨by (first | assumption | omega | decide | (simp only [S_len] at *; omega)), by (first | assumption | omega | decide | (simp only [S_len] at *; omega))⟩ | exact .inr ⟨by (first | assumption | omega | decide | (simp only [S_len] at *; omega)), by (first | assumption | omega | decide | (simp only [S_len] at *; omega))⟩ | exact ⟨by decide, by decide, by decide⟩ | exact wide_div (b := 128) (by (first | assumption | omega | decide | (simp only [S_len] at *; omega))) (by (first | assumption | omega | decide | (simp only [S_len] at *; omega))) (by decide) (by decide))))) (by omega) (Nat.lt_of_le_of_lt (show ((l.length : Int) + 1).natAbs ≤ 100 by omega) (by decide)) fun at_ H3 a0 a1 e3 b3 => ?_
    refine q_first (op_first (ev_var rfl) fun H4 e4 => ?_)
    have hml : menuB.length = 28 := by decide
    refine sp_take_then (b := bx) (many := 28) rfl (b3.ex e4) ?_ (by decide) (by decide) fun d H5 d0 d1 e5 b5 => ?_
    · have h := ev_cb (ea_cons (ta := tVar 2) (ev_var (σ := [some (.ref bx), some (.str (S l)), some (.str (S menuB)), some (.int deed), some (.int at_), none]) (H := H4) (i := 2) rfl) ea_nil) (rc_lenStr (l := menuB) (by decide))
      rw [hml] at h
      exact h
    refine ⟨S menuB, d, menuB.getD d.toNat 0, rfl, rfl, sz_of (by rw [S_len, hml]; decide), atI_i d0 (by rw [tl_S, hml]; exact d1) 0, ?_⟩
    have hc := low_menuB _ (getD_in (l := menuB) (k := d.toNat) (by omega))
    generalize menuB.getD d.toNat 0 = c at hc
    have eb : ExB bx H H5 := ((((ExB.of e1).trans e2).trans e3).trans (ExB.of e4)).trans e5
    clear e1 e2 e3 e4 e5 b2 b3
    dsimp only
    have lc : Low [c] := fun x hx => by
      have : x = c := by simpa using hx
      rw [this]
      exact hc
    generalize H5 = H1 at *
    obtain ⟨mA, hA, lA, wA⟩ := ev_cut (σ := [some (.ref bx), some (.str (S l)), some (.str (S menuB)), some (.int deed), some (.int at_), some (.str (S [c]))]) (te := tVar 1) (tl := tNoPart) (th := tPart (tVar 4)) (l := l) (lo := none) (hi := some at_) (fun H => ev_var rfl) (fun H => eo_none) (fun H => eo_some (ev_var rfl)) (by omega) hlow
    obtain ⟨mB0, hB0, lB0, wB0⟩ := ev_cut (σ := [some (.ref bx), some (.str (S l)), some (.str (S menuB)), some (.int deed), some (.int at_), some (.str (S [c]))]) (te := tVar 1) (tl := tPart (tVar 4)) (th := tNoPart) (l := l) (lo := some at_) (hi := none) (fun H => ev_var rfl) (fun H => eo_some (ev_var rfl)) (fun H => eo_none) (by omega) hlow
    obtain ⟨mB1, hB1, lB1, wB1⟩ := ev_cut (σ := [some (.ref bx), some (.str (S l)), some (.str (S menuB)), some (.int deed), some (.int at_), some (.str (S [c]))]) (te := tVar 1) (tl := tPart (tOp (rI0 fun i j => V.int (i + j)) (tVar 4) (tC (V.int 1)))) (th := tNoPart) (l := l) (lo := some (at_ + 1)) (hi := none) (fun H => ev_var rfl) (fun H => eo_some (by repeat' (first | ((with_reducible refine ev_pow10 ?_ ?_ ?_) <;> first | rfl | decide) | (with_reducible refine fun (_ : _ = true) => ?_) | (with_reducible refine fun (_ : _ = false) => ?_) | (with_reducible exact ev_c) | ((with_reducible apply ev_var); rfl) | (with_reducible apply ev_op) | (with_reducible apply ev_un) | (with_reducible apply ev_cb) | (with_reducible apply ea_cons) | (with_reducible apply ev_andV) | (with_reducible apply ev_orV) | (with_reducible apply ev_notV) | (with_reducible apply ev_if) | (with_reducible apply eo_some) | (with_reducible apply el_lst) | (with_reducible exact ea_nil) | (with_reducible exact rv_I0) | (with_reducible exact ru_neg) | (with_reducible exact rv_ltS) | (with_reducible exact rv_inC) | (with_reducible exact rv_notInC) | (with_reducible exact rc_intI) | (with_reducible exact rc_intB) | (with_reducible exact rc_min2) | (with_reducible exact rc_isStr) | (with_reducible exact eo_none) | (with_reducible exact rv_inSS) | (with_reducible exact rv_notInSS) | (with_reducible exact rv_ltSS) | (with_reducible exact rv_eqSS) | (with_reducible exact rv_eqII) | (with_reducible exact rv_neII) | (with_reducible exact rv_neSS) | ((with_reducible refine rc_lenSS ?_); (first | assumption | omega | decide | (simp only [S_len] at *; omega))) | ((with_reducible refine rc_lenStr ?_); (first | assumption | omega | decide | (simp only [S_len] at *; omega))) | ((with_reducible refine rv_catSS ?_); (first | assumption | omega | decide | (simp only [S_len] at *; omega))) | (with_reducible exact rv_eq rfl) | (with_reducible exact rv_ne rfl) | ((with_reducible refine rc_lenS ?_); (first | assumption | omega | decide | (simp only [S_len] at *; omega))) | ((with_reducible refine rc_lenL ?_); assumption) | ((with_reducible apply rv_ixL); assumption; rfl) | ((with_reducible refine rv_catS ?_); (first | assumption | omega | decide | (simp only [S_len] at *; omega))) | ((with_reducible refine rv_I ?_); (first | (show (0 : Int) < _; (first | assumption | omega | decide | (simp only [S_len] at *; omega))) | exact .inr ⟨by decide, by decide⟩ | exact .inl ⟨by (first | assumption | omega | decide | (simp only [S_len] at *; omega)), by (first | assumption | omega | decide | (simp only [S_len] at *; omega))⟩ | exact .inr ⟨by (first | assumption | omega | decide | (simp only [S_len] at *; omega)), by (first | assumption | omega | decide | (simp only [S_len] at *; omega))⟩ | exact ⟨by decide, by decide, by decide⟩ | exact wide_div (b := 128) (by (first | assumption | omega | decide | (simp only [S_len] at *; omega))) (by (first | assumption | omega | decide | (simp only [S_len] at *; omega))) (by decide) (by decide)))))) (fun H => eo_none) (by omega) hlow
    obtain ⟨mB2, hB2, lB2, wB2⟩ := ev_cut (σ := [some (.ref bx), some (.str (S l)), some (.str (S menuB)), some (.int deed), some (.int at_), some (.str (S [c]))]) (te := tVar 1) (tl := tPart (tOp (rI0 fun i j => V.int (i + j)) (tVar 4) (tC (V.int 2)))) (th := tNoPart) (l := l) (lo := some (at_ + 2)) (hi := none) (fun H => ev_var rfl) (fun H => eo_some (by repeat' (first | ((with_reducible refine ev_pow10 ?_ ?_ ?_) <;> first | rfl | decide) | (with_reducible refine fun (_ : _ = true) => ?_) | (with_reducible refine fun (_ : _ = false) => ?_) | (with_reducible exact ev_c) | ((with_reducible apply ev_var); rfl) | (with_reducible apply ev_op) | (with_reducible apply ev_un) | (with_reducible apply ev_cb) | (with_reducible apply ea_cons) | (with_reducible apply ev_andV) | (with_reducible apply ev_orV) | (with_reducible apply ev_notV) | (with_reducible apply ev_if) | (with_reducible apply eo_some) | (with_reducible apply el_lst) | (with_reducible exact ea_nil) | (with_reducible exact rv_I0) | (with_reducible exact ru_neg) | (with_reducible exact rv_ltS) | (with_reducible exact rv_inC) | (with_reducible exact rv_notInC) | (with_reducible exact rc_intI) | (with_reducible exact rc_intB) | (with_reducible exact rc_min2) | (with_reducible exact rc_isStr) | (with_reducible exact eo_none) | (with_reducible exact rv_inSS) | (with_reducible exact rv_notInSS) | (with_reducible exact rv_ltSS) | (with_reducible exact rv_eqSS) | (with_reducible exact rv_eqII) | (with_reducible exact rv_neII) | (with_reducible exact rv_neSS) | ((with_reducible refine rc_lenSS ?_); (first | assumption | omega | decide | (simp only [S_len] at *; omega))) | ((with_reducible refine rc_lenStr ?_); (first | assumption | omega | decide | (simp only [S_len] at *; omega))) | ((with_reducible refine rv_catSS ?_); (first | assumption | omega | decide | (simp only [S_len] at *; omega))) | (with_reducible exact rv_eq rfl) | (with_reducible exact rv_ne rfl) | ((with_reducible refine rc_lenS ?_); (first | assumption | omega | decide | (simp only [S_len] at *; omega))) | ((with_reducible refine rc_lenL ?_); assumption) | ((with_reducible apply rv_ixL); assumption; rfl) | ((with_reducible refine rv_catS ?_); (first | assumption | omega | decide | (simp only [S_len] at *; omega))) | ((with_reducible refine rv_I ?_); (first | (show (0 : Int) < _; (first | assumption | omega | decide | (simp only [S_len] at *; omega))) | exact .inr ⟨by decide, by decide⟩ | exact .inl ⟨by (first | assumption | omega | decide | (simp only [S_len] at *; omega)), by (first | assumption | omega | decide | (simp only [S_len] at *; omega))⟩ | exact .inr ⟨by (first | assumption | omega | decide | (simp only [S_len] at *; omega)), by (first | assumption | omega | decide | (simp only [S_len] at *; omega))⟩ | exact ⟨by decide, by decide, by decide⟩ | exact wide_div (b := 128) (by (first | assumption | omega | decide | (simp only [S_len] at *; omega))) (by (first | assumption | omega | decide | (simp only [S_len] at *; omega))) (by decide) (by decide)))))) (fun H => eo_none) (by omega) hlow
    obtain ⟨m12, h12, l12, w12⟩ : ∃ m, (∀ H, Ev (tSl rSlS (tVar 1) (tPart (tOp (rI0 fun i j => V.int (i + j)) (tVar 4) (tC (V.int 1)))) (tPart (tOp (rI0 fun i j => V.int (i + j)) (tVar 4) (tC (V.int 2))))) [some (.ref bx), some (.str (S l)), some (.str (S menuB)), some (.int deed), some (.int at_), some (.str (S [c]))] H (.str (S m))) ∧ m.length ≤ 1 ∧ Low m := by
      obtain ⟨k, rfl⟩ : ∃ k : Nat, at_ = (k : Int) := ⟨at_.toNat, by omega⟩
      refine ⟨(l.drop (k + 1)).take 1, fun H => ?_, by rw [List.length_take]; omega, fun c hc => hlow c (List.mem_of_mem_drop (List.mem_of_mem_take hc))⟩
      have h := ev_slS (σ := [some (.ref bx), some (.str (S l)), some (.str (S menuB)), some (.int deed), some (.int (k : Int)), some (.str (S [c]))]) (H := H) (te := tVar 1) (tl := tPart (tOp (rI0 fun i j => V.int (i + j)) (tVar 4) (tC (V.int 1)))) (th := tPart (tOp (rI0 fun i j => V.int (i + j)) (tVar 4) (tC (V.int 2)))) (w := S l) (lo := some ((k : Int) + 1)) (hi := some ((k : Int) + 2)) (ev_var rfl) (eo_some (by repeat' (first | ((with_reducible refine ev_pow10 ?_ ?_ ?_) <;> first | rfl | decide) | (with_reducible refine fun (_ : _ = true) => ?_) | (with_reducible refine fun (_ : _ = false) => ?_) | (with_reducible exact ev_c) | ((with_reducible apply ev_var); rfl) | (with_reducible apply ev_op) | (with_reducible apply ev_un) | (with_reducible apply ev_cb) | (with_reducible apply ea_cons) | (with_reducible apply ev_andV) | (with_reducible apply ev_orV) | (with_reducible apply ev_notV) | (with_reducible apply ev_if) | (with_reducible apply eo_some) | (with_reducible apply el_lst) | (with_reducible exact ea_nil) | (with_reducible exact rv_I0) | (with_reducible exact ru_neg) | (with_reducible exact rv_ltS) | (with_reducible exact rv_inC) | (with_reducible exact rv_notInC) | (with_reducible exact rc_intI) | (with_reducible exact rc_intB) | (with_reducible exact rc_min2) | (with_reducible exact rc_isStr) | (with_reducible exact eo_none) | (with_reducible exact rv_inSS) | (with_reducible exact rv_notInSS) | (with_reducible exact rv_ltSS) | (with_reducible exact rv_eqSS) | (with_reducible exact rv_eqII) | (with_reducible exact rv_neII) | (with_reducible exact rv_neSS) | ((with_reducible refine rc_lenSS ?_); (first | assumption | omega | decide | (simp only [S_len] at *; omega))) | ((with_reducible refine rc_lenStr ?_); (first | assumption | omega | decide | (simp only [S_len] at *; omega))) | ((with_reducible refine rv_catSS ?_); (first | assumption | omega | decide | (simp only [S_len] at *; omega))) | (with_reducible exact rv_eq rfl) | (with_reducible exact rv_ne rfl) | ((with_reducible refine rc_lenS ?_); (first | assumption | omega | decide | (simp only [S_len] at *; omega))) | ((with_reducible refine rc_lenL ?_); assumption) | ((with_reducible apply rv_ixL); assumption; rfl) | ((with_reducible refine rv_catS ?_); (first | assumption | omega | decide | (simp only [S_len] at *; omega))) | ((with_reducible refine rv_I ?_); (first | (show (0 : Int) < _; (first | assumption | omega | decide | (simp only [S_len] at *; omega))) | exact .inr ⟨by decide, by decide⟩ | exact .inl ⟨by (first | assumption | omega | decide | (simp only [S_len] at *; omega)), by (first | assumption | omega | decide | (simp only [S_len] at *; omega))⟩ | exact .inr ⟨by (first | assumption | omega | decide | (simp only [S_len] at *; omega)), by (first | assumption | omega | decide | (simp only [S_len] at *; omega))⟩ | exact ⟨by decide, by decide, by decide⟩ | exact wide_div (b := 128) (by (first | assumption | omega | decide | (simp only [S_len] at *; omega))) (by (first | assumption | omega | decide | (simp only [S_len] at *; omega))) (by decide) (by decide)))))) (eo_some (by repeat' (first | ((with_reducible refine ev_pow10 ?_ ?_ ?_) <;> first | rfl | decide) | (with_reducible refine fun (_ : _ = true) => ?_) | (with_reducible refine fun (_ : _ = false) => ?_) | (with_reducible exact ev_c) | ((with_reducible apply ev_var); rfl) | (with_reducible apply ev_op) | (with_reducible apply ev_un) | (with_reducible apply ev_cb) | (with_reducible apply ea_cons) | (with_reducible apply ev_andV) | (with_reducible apply ev_orV) | (with_reducible apply ev_notV) | (with_reducible apply ev_if) | (with_reducible apply eo_some) | (with_reducible apply el_lst) | (with_reducible exact ea_nil) | (with_reducible exact rv_I0) | (with_reducible exact ru_neg) | (with_reducible exact rv_ltS) | (with_reducible exact rv_inC) | (with_reducible exact rv_notInC) | (with_reducible exact rc_intI) | (with_reducible exact rc_intB) | (with_reducible exact rc_min2) | (with_reducible exact rc_isStr) | (with_reducible exact eo_none) | (with_reducible exact rv_inSS) | (with_reducible exact rv_notInSS) | (with_reducible exact rv_ltSS) | (with_reducible exact rv_eqSS) | (with_reducible exact rv_eqII) | (with_reducible exact rv_neII) | (with_reducible exact rv_neSS) | ((with_reducible refine rc_lenSS ?_); (first | assumption | omega | decide | (simp only [S_len] at *; omega))) | ((with_reducible refine rc_lenStr ?_); (first | assumption | omega | decide | (simp only [S_len] at *; omega))) | ((with_reducible refine rv_catSS ?_); (first | assumption | omega | decide | (simp only [S_len] at *; omega))) | (with_reducible exact rv_eq rfl) | (with_reducible exact rv_ne rfl) | ((with_reducible refine rc_lenS ?_); (first | assumption | omega | decide | (simp only [S_len] at *; omega))) | ((with_reducible refine rc_lenL ?_); assumption) | ((with_reducible apply rv_ixL); assumption; rfl) | ((with_reducible refine rv_catS ?_); (first | assumption | omega | decide | (simp only [S_len] at *; omega))) | ((with_reducible refine rv_I ?_); (first | (show (0 : Int) < _; (first | assumption | omega | decide | (simp only [S_len] at *; omega))) | exact .inr ⟨by decide, by decide⟩ | exact .inl ⟨by (first | assumption | omega | decide | (simp only [S_len] at *; omega)), by (first | assumption | omega | decide | (simp only [S_len] at *; omega))⟩ | exact .inr ⟨by (first | assumption | omega | decide | (simp only [S_len] at *; omega)), by (first | assumption | omega | decide | (simp only [S_len] at *; omega))⟩ | exact ⟨by decide, by decide, by decide⟩ | exact wide_div (b := 128) (by (first | assumption | omega | decide | (simp only [S_len] at *; omega))) (by (first | assumption | omega | decide | (simp only [S_len] at *; omega))) (by decide) (by decide)))))) (by rw [S_len]; omega)
      rw [show (k : Int) + 2 = ((k + 1 : Nat) : Int) + 1 by omega, show (k : Int) + 1 = ((k + 1 : Nat) : Int) by omega, cut_mid] at h
      exact h
    obtain ⟨m01, h01, l01, w01⟩ : ∃ m, (∀ H, Ev (tSl rSlS (tVar 1) (tPart (tVar 4)) (tPart (tOp (rI0 fun i j => V.int (i + j)) (tVar 4) (tC (V.int 1))))) [some (.ref bx), some (.str (S l)), some (.str (S menuB)), some (.int deed), some (.int at_), some (.str (S [c]))] H (.str (S m))) ∧ m.length ≤ 1 ∧ Low m := by
      obtain ⟨k, rfl⟩ : ∃ k : Nat, at_ = (k : Int) := ⟨at_.toNat, by omega⟩
      refine ⟨(l.drop k).take 1, fun H => ?_, by rw [List.length_take]; omega, fun c hc => hlow c (List.mem_of_mem_drop (List.mem_of_mem_take hc))⟩
      have h := ev_slS (σ := [some (.ref bx), some (.str (S l)), some (.str (S menuB)), some (.int deed), some (.int (k : Int)), some (.str (S [c]))]) (H := H) (te := tVar 1) (tl := tPart (tVar 4)) (th := tPart (tOp (rI0 fun i j => V.int (i + j)) (tVar 4) (tC (V.int 1)))) (w := S l) (lo := some (k : Int)) (hi := some ((k : Int) + 1)) (ev_var rfl) (eo_some (ev_var rfl)) (eo_some (by repeat' (first | ((with_reducible refine ev_pow10 ?_ ?_ ?_) <;> first | rfl | decide) | (with_reducible refine fun (_ : _ = true) => ?_) | (with_reducible refine fun (_ : _ = false) => ?_) | (with_reducible exact ev_c) | ((with_reducible apply ev_var); rfl) | (with_reducible apply ev_op) | (with_reducible apply ev_un) | (with_reducible apply ev_cb) | (with_reducible apply ea_cons) | (with_reducible apply ev_andV) | (with_reducible apply ev_orV) | (with_reducible apply ev_notV) | (with_reducible apply ev_if) | (with_reducible apply eo_some) | (with_reducible apply el_lst) | (with_reducible exact ea_nil) | (with_reducible exact rv_I0) | (with_reducible exact ru_neg) | (with_reducible exact rv_ltS) | (with_reducible exact rv_inC) | (with_reducible exact rv_notInC) | (with_reducible exact rc_intI) | (with_reducible exact rc_intB) | (with_reducible exact rc_min2) | (with_reducible exact rc_isStr) | (with_reducible exact eo_none) | (with_reducible exact rv_inSS) | (with_reducible exact rv_notInSS) | (with_reducible exact rv_ltSS) | (with_reducible exact rv_eqSS) | (with_reducible exact rv_eqII) | (with_reducible exact rv_neII) | (with_reducible exact rv_neSS) | ((with_reducible refine rc_lenSS ?_); (first | assumption | omega | decide | (simp only [S_len] at *; omega))) | ((with_reducible refine rc_lenStr ?_); (first | assumption | omega | decide | (simp only [S_len] at *; omega))) | ((with_reducible refine rv_catSS ?_); (first | assumption | omega | decide | (simp only [S_len] at *; omega))) | (with_reducible exact rv_eq rfl) | (with_reducible exact rv_ne rfl) | ((with_reducible refine rc_lenS ?_); (first | assumption | omega | decide | (simp only [S_len] at *; omega))) | ((with_reducible refine rc_lenL ?_); assumption) | ((with_reducible apply rv_ixL); assumption; rfl) | ((with_reducible refine rv_catS ?_); (first | assumption | omega | decide | (simp only [S_len] at *; omega))) | ((with_reducible refine rv_I ?_); (first | (show (0 : Int) < _; (first | assumption | omega | decide | (simp only [S_len] at *; omega))) | exact .inr ⟨by decide, by decide⟩ | exact .inl ⟨by (first | assumption | omega | decide | (simp only [S_len] at *; omega)), by (first | assumption | omega | decide | (simp only [S_len] at *; omega))⟩ | exact .inr ⟨by (first | assumption | omega | decide | (simp only [S_len] at *; omega)), by (first | assumption | omega | decide | (simp only [S_len] at *; omega))⟩ | exact ⟨by decide, by decide, by decide⟩ | exact wide_div (b := 128) (by (first | assumption | omega | decide | (simp only [S_len] at *; omega))) (by (first | assumption | omega | decide | (simp only [S_len] at *; omega))) (by decide) (by decide)))))) (by rw [S_len]; omega)
      rw [cut_mid] at h
      exact h
    have hs : ∀ H, Ev (tVar 5) [some (.ref bx), some (.str (S l)), some (.str (S menuB)), some (.int deed), some (.int at_), some (.str (S [c]))] H (.str (S [c])) := fun H => ev_var rfl
    have ht : ∀ H, Ev (tVar 1) [some (.ref bx), some (.str (S l)), some (.str (S menuB)), some (.int deed), some (.int at_), some (.str (S [c]))] H (.str (S l)) := fun H => ev_var rfl
    have hcl : [c].length = 1 := rfl
    show tSeq _ _ _ [some (.ref bx), some (.str (S l)), some (.str (S menuB)), some (.int deed), some (.int at_), some (.str (S [c]))] H1
    refine q_when (b := decide (deed < 2)) (by first | ((with_reducible apply et_test); (repeat' (first | ((with_reducible refine ev_pow10 ?_ ?_ ?_) <;> first | rfl | decide) | (with_reducible refine fun (_ : _ = true) => ?_) | (with_reducible refine fun (_ : _ = false) => ?_) | (with_reducible exact ev_c) | ((with_reducible apply ev_var); rfl) | (with_reducible apply ev_op) | (with_reducible apply ev_un) | (with_reducible apply ev_cb) | (with_reducible apply ea_cons) | (with_reducible apply ev_andV) | (with_reducible apply ev_orV) | (with_reducible apply ev_notV) | (with_reducible apply ev_if) | (with_reducible apply eo_some) | (with_reducible apply el_lst) | (with_reducible exact ea_nil) | (with_reducible exact rv_I0) | (with_reducible exact ru_neg) | (with_reducible exact rv_ltS) | (with_reducible exact rv_inC) | (with_reducible exact rv_notInC) | (with_reducible exact rc_intI) | (with_reducible exact rc_intB) | (with_reducible exact rc_min2) | (with_reducible exact rc_isStr) | (with_reducible exact eo_none) | (with_reducible exact rv_inSS) | (with_reducible exact rv_notInSS) | (with_reducible exact rv_ltSS) | (with_reducible exact rv_eqSS) | (with_reducible exact rv_eqII) | (with_reducible exact rv_neII) | (with_reducible exact rv_neSS) | ((with_reducible refine rc_lenSS ?_); (first | assumption | omega | decide | (simp only [S_len] at *; omega))) | ((with_reducible refine rc_lenStr ?_); (first | assumption | omega | decide | (simp only [S_len] at *; omega))) | ((with_reducible refine rv_catSS ?_); (first | assumption | omega | decide | (simp only [S_len] at *; omega))) | (with_reducible exact rv_eq rfl) | (with_reducible exact rv_ne rfl) | ((with_reducible refine rc_lenS ?_); (first | assumption | omega | decide | (simp only [S_len] at *; omega))) | ((with_reducible refine rc_lenL ?_); assumption) | ((with_reducible apply rv_ixL); assumption; rfl) | ((with_reducible refine rv_catS ?_); (first | assumption | omega | decide | (simp only [S_len] at *; omega))) | ((with_reducible refine rv_I ?_); (first | (show (0 : Int) < _; (first | assumption | omega | decide | (simp only [S_len] at *; omega))) | exact .inr ⟨by decide, by decide⟩ | exact .inl ⟨by (first | assumption | omega | decide | (simp only [S_len] at *; omega)), by (first | assumption | omega | decide | (simp only [S_len] at *; omega))⟩ | exact .inr ⟨by (first | assumption | omega | decide | (simp only [S_len] at *; omega)), by (first | assumption | omega | decide | (simp only [S_len] at *; omega))⟩ | exact ⟨by decide, by decide, by decide⟩ | exact wide_div (b := 128) (by (first | assumption | omega | decide | (simp only [S_len] at *; omega))) (by (first | assumption | omega | decide | (simp only [S_len] at *; omega))) (by decide) (by decide)))))) | ((with_reducible apply et_B); (repeat' (first | ((with_reducible refine ev_pow10 ?_ ?_ ?_) <;> first | rfl | decide) | (with_reducible refine fun (_ : _ = true) => ?_) | (with_reducible refine fun (_ : _ = false) => ?_) | (with_reducible exact ev_c) | ((with_reducible apply ev_var); rfl) | (with_reducible apply ev_op) | (with_reducible apply ev_un) | (with_reducible apply ev_cb) | (with_reducible apply ea_cons) | (with_reducible apply ev_andV) | (with_reducible apply ev_orV) | (with_reducible apply ev_notV) | (with_reducible apply ev_if) | (with_reducible apply eo_some) | (with_reducible apply el_lst) | (with_reducible exact ea_nil) | (with_reducible exact rv_I0) | (with_reducible exact ru_neg) | (with_reducible exact rv_ltS) | (with_reducible exact rv_inC) | (with_reducible exact rv_notInC) | (with_reducible exact rc_intI) | (with_reducible exact rc_intB) | (with_reducible exact rc_min2) | (with_reducible exact rc_isStr) | (with_reducible exact eo_none) | (with_reducible exact rv_inSS) | (with_reducible exact rv_notInSS) | (with_reducible exact rv_ltSS) | (with_reducible exact rv_eqSS) | (with_reducible exact rv_eqII) | (with_reducible exact rv_neII) | (with_reducible exact rv_neSS) | ((with_reducible refine rc_lenSS ?_); (first | assumption | omega | decide | (simp only [S_len] at *; omega))) | ((with_reducible refine rc_lenStr ?_); (first | assumption | omega | decide | (simp only [S_len] at *; omega))) | ((with_reducible refine rv_catSS ?_); (first | assumption | omega | decide | (simp only [S_len] at *; omega))) | (with_reducible exact rv_eq rfl) | (with_reducible exact rv_ne rfl) | ((with_reducible refine rc_lenS ?_); (first | assumption | omega | decide | (simp only [S_len] at *; omega))) | ((with_reducible refine rc_lenL ?_); assumption) | ((with_reducible apply rv_ixL); assumption; rfl) | ((with_reducible refine rv_catS ?_); (first | assumption | omega | decide | (simp only [S_len] at *; omega))) | ((with_reducible refine rv_I ?_); (first | (show (0 : Int) < _; (first | assumption | omega | decide | (simp only [S_len] at *; omega))) | exact .inr ⟨by decide, by decide⟩ | exact .inl ⟨by (first | assumption | omega | decide | (simp only [S_len] at *; omega)), by (first | assumption | omega | decide | (simp only [S_len] at *; omega))⟩ | exact .inr ⟨by (first | assumption | omega | decide | (simp only [S_len] at *; omega)), by (first | assumption | omega | decide | (simp only [S_len] at *; omega))⟩ | exact ⟨by decide, by decide, by decide⟩ | exact wide_div (b := 128) (by (first | assumption | omega | decide | (simp only [S_len] at *; omega))) (by (first | assumption | omega | decide | (simp only [S_len] at *; omega))) (by decide) (by decide))))))) (fun _ H2 e2 => ?_) (fun _ H2 e2 => ?_)
    · exact s_ret (ev_op (ev_op (hA _) (hs _) (rv_catSS (by omega))) (hB0 _) (rv_catSS (by rw [List.length_append]; omega))) fun H3 e3 => q _ H3 (by rw [List.length_append, List.length_append]; omega) ((wA.app lc).app wB0) (eb.trans (ExB.of (e2.trans e3))) (b5.ex (e2.trans e3))
    refine q_when (b := decide (deed < 5)) (by first | ((with_reducible apply et_test); (repeat' (first | ((with_reducible refine ev_pow10 ?_ ?_ ?_) <;> first | rfl | decide) | (with_reducible refine fun (_ : _ = true) => ?_) | (with_reducible refine fun (_ : _ = false) => ?_) | (with_reducible exact ev_c) | ((with_reducible apply ev_var); rfl) | (with_reducible apply ev_op) | (with_reducible apply ev_un) | (with_reducible apply ev_cb) | (with_reducible apply ea_cons) | (with_reducible apply ev_andV) | (with_reducible apply ev_orV) | (with_reducible apply ev_notV) | (with_reducible apply ev_if) | (with_reducible apply eo_some) | (with_reducible apply el_lst) | (with_reducible exact ea_nil) | (with_reducible exact rv_I0) | (with_reducible exact ru_neg) | (with_reducible exact rv_ltS) | (with_reducible exact rv_inC) | (with_reducible exact rv_notInC) | (with_reducible exact rc_intI) | (with_reducible exact rc_intB) | (with_reducible exact rc_min2) | (with_reducible exact rc_isStr) | (with_reducible exact eo_none) | (with_reducible exact rv_inSS) | (with_reducible exact rv_notInSS) | (with_reducible exact rv_ltSS) | (with_reducible exact rv_eqSS) | (with_reducible exact rv_eqII) | (with_reducible exact rv_neII) | (with_reducible exact rv_neSS) | ((with_reducible refine rc_lenSS ?_); (first | assumption | omega | decide | (simp only [S_len] at *; omega))) | ((with_reducible refine rc_lenStr ?_); (first | assumption | omega | decide | (simp only [S_len] at *; omega))) | ((with_reducible refine rv_catSS ?_); (first | assumption | omega | decide | (simp only [S_len] at *; omega))) | (with_reducible exact rv_eq rfl) | (with_reducible exact rv_ne rfl) | ((with_reducible refine rc_lenS ?_); (first | assumption | omega | decide | (simp only [S_len] at *; omega))) | ((with_reducible refine rc_lenL ?_); assumption) | ((with_reducible apply rv_ixL); assumption; rfl) | ((with_reducible refine rv_catS ?_); (first | assumption | omega | decide | (simp only [S_len] at *; omega))) | ((with_reducible refine rv_I ?_); (first | (show (0 : Int) < _; (first | assumption | omega | decide | (simp only [S_len] at *; omega))) | exact .inr ⟨by decide, by decide⟩ | exact .inl ⟨by (first | assumption | omega | decide | (simp only [S_len] at *; omega)), by (first | assumption | omega | decide | (simp only [S_len] at *; omega))⟩ | exact .inr ⟨by (first | assumption | omega | decide | (simp only [S_len] at *; omega)), by (first | assumption | omega | decide | (simp only [S_len] at *; omega))⟩ | exact ⟨by decide, by decide, by decide⟩ | exact wide_div (b := 128) (by (first | assumption | omega | decide | (simp only [S_len] at *; omega))) (by (first | assumption | omega | decide | (simp only [S_len] at *; omega))) (by decide) (by decide)))))) | ((with_reducible apply et_B); (repeat' (first | ((with_reducible refine ev_pow10 ?_ ?_ ?_) <;> first | rfl | decide) | (with_reducible refine fun (_ : _ = true) => ?_) | (with_reducible refine fun (_ : _ = false) => ?_) | (with_reducible exact ev_c) | ((with_reducible apply ev_var); rfl) | (with_reducible apply ev_op) | (with_reducible apply ev_un) | (with_reducible apply ev_cb) | (with_reducible apply ea_cons) | (with_reducible apply ev_andV) | (with_reducible apply ev_orV) | (with_reducible apply ev_notV) | (with_reducible apply ev_if) | (with_reducible apply eo_some) | (with_reducible apply el_lst) | (with_reducible exact ea_nil) | (with_reducible exact rv_I0) | (with_reducible exact ru_neg) | (with_reducible exact rv_ltS) | (with_reducible exact rv_inC) | (with_reducible exact rv_notInC) | (with_reducible exact rc_intI) | (with_reducible exact rc_intB) | (with_reducible exact rc_min2) | (with_reducible exact rc_isStr) | (with_reducible exact eo_none) | (with_reducible exact rv_inSS) | (with_reducible exact rv_notInSS) | (with_reducible exact rv_ltSS) | (with_reducible exact rv_eqSS) | (with_reducible exact rv_eqII) | (with_reducible exact rv_neII) | (with_reducible exact rv_neSS) | ((with_reducible refine rc_lenSS ?_); (first | assumption | omega | decide | (simp only [S_len] at *; omega))) | ((with_reducible refine rc_lenStr ?_); (first | assumption | omega | decide | (simp only [S_len] at *; omega))) | ((with_reducible refine rv_catSS ?_); (first | assumption | omega | decide | (simp only [S_len] at *; omega))) | (with_reducible exact rv_eq rfl) | (with_reducible exact rv_ne rfl) | ((with_reducible refine rc_lenS ?_); (first | assumption | omega | decide | (simp only [S_len] at *; omega))) | ((with_reducible refine rc_lenL ?_); assumption) | ((with_reducible apply rv_ixL); assumption; rfl) | ((with_reducible refine rv_catS ?_); (first | assumption | omega | decide | (simp only [S_len] at *; omega))) | ((with_reducible refine rv_I ?_); (first | (show (0 : Int) < _; (first | assumption | omega | decide | (simp only [S_len] at *; omega))) | exact .inr ⟨by decide, by decide⟩ | exact .inl ⟨by (first | assumption | omega | decide | (simp only [S_len] at *; omega)), by (first | assumption | omega | decide | (simp only [S_len] at *; omega))⟩ | exact .inr ⟨by (first | assumption | omega | decide | (simp only [S_len] at *; omega)), by (first | assumption | omega | decide | (simp only [S_len] at *; omega))⟩ | exact ⟨by decide, by decide, by decide⟩ | exact wide_div (b := 128) (by (first | assumption | omega | decide | (simp only [S_len] at *; omega))) (by (first | assumption | omega | decide | (simp only [S_len] at *; omega))) (by decide) (by decide))))))) (fun _ H3 e3 => ?_) (fun _ H3 e3 => ?_)
    · exact s_ret (ev_op (ev_op (hA _) (hs _) (rv_catSS (by omega))) (hB1 _) (rv_catSS (by rw [List.length_append]; omega))) fun H4 e4 => q _ H4 (by rw [List.length_append, List.length_append]; omega) ((wA.app lc).app wB1) (eb.trans (ExB.of ((e2.trans e3).trans e4))) (b5.ex ((e2.trans e3).trans e4))
    replace e2 := e2.trans e3
    refine q_when (b := decide (deed = 5)) (by first | ((with_reducible apply et_test); (repeat' (first | ((with_reducible refine ev_pow10 ?_ ?_ ?_) <;> first | rfl | decide) | (with_reducible refine fun (_ : _ = true) => ?_) | (with_reducible refine fun (_ : _ = false) => ?_) | (with_reducible exact ev_c) | ((with_reducible apply ev_var); rfl) | (with_reducible apply ev_op) | (with_reducible apply ev_un) | (with_reducible apply ev_cb) | (with_reducible apply ea_cons) | (with_reducible apply ev_andV) | (with_reducible apply ev_orV) | (with_reducible apply ev_notV) | (with_reducible apply ev_if) | (with_reducible apply eo_some) | (with_reducible apply el_lst) | (with_reducible exact ea_nil) | (with_reducible exact rv_I0) | (with_reducible exact ru_neg) | (with_reducible exact rv_ltS) | (with_reducible exact rv_inC) | (with_reducible exact rv_notInC) | (with_reducible exact rc_intI) | (with_reducible exact rc_intB) | (with_reducible exact rc_min2) | (with_reducible exact rc_isStr) | (with_reducible exact eo_none) | (with_reducible exact rv_inSS) | (with_reducible exact rv_notInSS) | (with_reducible exact rv_ltSS) | (with_reducible exact rv_eqSS) | (with_reducible exact rv_eqII) | (with_reducible exact rv_neII) | (with_reducible exact rv_neSS) | ((with_reducible refine rc_lenSS ?_); (first | assumption | omega | decide | (simp only [S_len] at *; omega))) | ((with_reducible refine rc_lenStr ?_); (first | assumption | omega | decide | (simp only [S_len] at *; omega))) | ((with_reducible refine rv_catSS ?_); (first | assumption | omega | decide | (simp only [S_len] at *; omega))) | (with_reducible exact rv_eq rfl) | (with_reducible exact rv_ne rfl) | ((with_reducible refine rc_lenS ?_); (first | assumption | omega | decide | (simp only [S_len] at *; omega))) | ((with_reducible refine rc_lenL ?_); assumption) | ((with_reducible apply rv_ixL); assumption; rfl) | ((with_reducible refine rv_catS ?_); (first | assumption | omega | decide | (simp only [S_len] at *; omega))) | ((with_reducible refine rv_I ?_); (first | (show (0 : Int) < _; (first | assumption | omega | decide | (simp only [S_len] at *; omega))) | exact .inr ⟨by decide, by decide⟩ | exact .inl ⟨by (first | assumption | omega | decide | (simp only [S_len] at *; omega)), by (first | assumption | omega | decide | (simp only [S_len] at *; omega))⟩ | exact .inr ⟨by (first | assumption | omega | decide | (simp only [S_len] at *; omega)), by (first | assumption | omega | decide | (simp only [S_len] at *; omega))⟩ | exact ⟨by decide, by decide, by decide⟩ | exact wide_div (b := 128) (by (first | assumption | omega | decide | (simp only [S_len] at *; omega))) (by (first | assumption | omega | decide | (simp only [S_len] at *; omega))) (by decide) (by decide)))))) | ((with_reducible apply et_B); (repeat' (first | ((with_reducible refine ev_pow10 ?_ ?_ ?_) <;> first | rfl | decide) | (with_reducible refine fun (_ : _ = true) => ?_) | (with_reducible refine fun (_ : _ = false) => ?_) | (with_reducible exact ev_c) | ((with_reducible apply ev_var); rfl) | (with_reducible apply ev_op) | (with_reducible apply ev_un) | (with_reducible apply ev_cb) | (with_reducible apply ea_cons) | (with_reducible apply ev_andV) | (with_reducible apply ev_orV) | (with_reducible apply ev_notV) | (with_reducible apply ev_if) | (with_reducible apply eo_some) | (with_reducible apply el_lst) | (with_reducible exact ea_nil) | (with_reducible exact rv_I0) | (with_reducible exact ru_neg) | (with_reducible exact rv_ltS) | (with_reducible exact rv_inC) | (with_reducible exact rv_notInC) | (with_reducible exact rc_intI) | (with_reducible exact rc_intB) | (with_reducible exact rc_min2) | (with_reducible exact rc_isStr) | (with_reducible exact eo_none) | (with_reducible exact rv_inSS) | (with_reducible exact rv_notInSS) | (with_reducible exact rv_ltSS) | (with_reducible exact rv_eqSS) | (with_reducible exact rv_eqII) | (with_reducible exact rv_neII) | (with_reducible exact rv_neSS) | ((with_reducible refine rc_lenSS ?_); (first | assumption | omega | decide | (simp only [S_len] at *; omega))) | ((with_reducible refine rc_lenStr ?_); (first | assumption | omega | decide | (simp only [S_len] at *; omega))) | ((with_reducible refine rv_catSS ?_); (first | assumption | omega | decide | (simp only [S_len] at *; omega))) | (with_reducible exact rv_eq rfl) | (with_reducible exact rv_ne rfl) | ((with_reducible refine rc_lenS ?_); (first | assumption | omega | decide | (simp only [S_len] at *; omega))) | ((with_reducible refine rc_lenL ?_); assumption) | ((with_reducible apply rv_ixL); assumption; rfl) | ((with_reducible refine rv_catS ?_); (first | assumption | omega | decide | (simp only [S_len] at *; omega))) | ((with_reducible refine rv_I ?_); (first | (show (0 : Int) < _; (first | assumption | omega | decide | (simp only [S_len] at *; omega))) | exact .inr ⟨by decide, by decide⟩ | exact .inl ⟨by (first | assumption | omega | decide | (simp only [S_len] at *; omega)), by (first | assumption | omega | decide | (simp only [S_len] at *; omega))⟩ | exact .inr ⟨by (first | assumption | omega | decide | (simp only [S_len] at *; omega)), by (first | assumption | omega | decide | (simp only [S_len] at *; omega))⟩ | exact ⟨by decide, by decide, by decide⟩ | exact wide_div (b := 128) (by (first | assumption | omega | decide | (simp only [S_len] at *; omega))) (by (first | assumption | omega | decide | (simp only [S_len] at *; omega))) (by decide) (by decide))))))) (fun _ H4 e4 => ?_) (fun _ H4 e4 => ?_)
    · exact s_ret (ev_op (hA _) (hB1 _) (rv_catSS (by omega))) fun H5 e5 => q _ H5 (by rw [List.length_append]; omega) (wA.app wB1) (eb.trans (ExB.of ((e2.trans e4).trans e5))) (b5.ex ((e2.trans e4).trans e5))
    replace e2 := e2.trans e4
    refine q_when (b := decide (deed = 6)) (by first | ((with_reducible apply et_test); (repeat' (first | ((with_reducible refine ev_pow10 ?_ ?_ ?_) <;> first | rfl | decide) | (with_reducible refine fun (_ : _ = true) => ?_) | (with_reducible refine fun (_ : _ = false) => ?_) | (with_reducible exact ev_c) | ((with_reducible apply ev_var); rfl) | (with_reducible apply ev_op) | (with_reducible apply ev_un) | (with_reducible apply ev_cb) | (with_reducible apply ea_cons) | (with_reducible apply ev_andV) | (with_reducible apply ev_orV) | (with_reducible apply ev_notV) | (with_reducible apply ev_if) | (with_reducible apply eo_some) | (with_reducible apply el_lst) | (with_reducible exact ea_nil) | (with_reducible exact rv_I0) | (with_reducible exact ru_neg) | (with_reducible exact rv_ltS) | (with_reducible exact rv_inC) | (with_reducible exact rv_notInC) | (with_reducible exact rc_intI) | (with_reducible exact rc_intB) | (with_reducible exact rc_min2) | (with_reducible exact rc_isStr) | (with_reducible exact eo_none) | (with_reducible exact rv_inSS) | (with_reducible exact rv_notInSS) | (with_reducible exact rv_ltSS) | (with_reducible exact rv_eqSS) | (with_reducible exact rv_eqII) | (with_reducible exact rv_neII) | (with_reducible exact rv_neSS) | ((with_reducible refine rc_lenSS ?_); (first | assumption | omega | decide | (simp only [S_len] at *; omega))) | ((with_reducible refine rc_lenStr ?_); (first | assumption | omega | decide | (simp only [S_len] at *; omega))) | ((with_reducible refine rv_catSS ?_); (first | assumption | omega | decide | (simp only [S_len] at *; omega))) | (with_reducible exact rv_eq rfl) | (with_reducible exact rv_ne rfl) | ((with_reducible refine rc_lenS ?_); (first | assumption | omega | decide | (simp only [S_len] at *; omega))) | ((with_reducible refine rc_lenL ?_); assumption) | ((with_reducible apply rv_ixL); assumption; rfl) | ((with_reducible refine rv_catS ?_); (first | assumption | omega | decide | (simp only [S_len] at *; omega))) | ((with_reducible refine rv_I ?_); (first | (show (0 : Int) < _; (first | assumption | omega | decide | (simp only [S_len] at *; omega))) | exact .inr ⟨by decide, by decide⟩ | exact .inl ⟨by (first | assumption | omega | decide | (simp only [S_len] at *; omega)), by (first | assumption | omega | decide | (simp only [S_len] at *; omega))⟩ | exact .inr ⟨by (first | assumption | omega | decide | (simp only [S_len] at *; omega)), by (first | assumption | omega | decide | (simp only [S_len] at *; omega))⟩ | exact ⟨by decide, by decide, by decide⟩ | exact wide_div (b := 128) (by (first | assumption | omega | decide | (simp only [S_len] at *; omega))) (by (first | assumption | omega | decide | (simp only [S_len] at *; omega))) (by decide) (by decide)))))) | ((with_reducible apply et_B); (repeat' (first | ((with_reducible refine ev_pow10 ?_ ?_ ?_) <;> first | rfl | decide) | (with_reducible refine fun (_ : _ = true) => ?_) | (with_reducible refine fun (_ : _ = false) => ?_) | (with_reducible exact ev_c) | ((with_reducible apply ev_var); rfl) | (with_reducible apply ev_op) | (with_reducible apply ev_un) | (with_reducible apply ev_cb) | (with_reducible apply ea_cons) | (with_reducible apply ev_andV) | (with_reducible apply ev_orV) | (with_reducible apply ev_notV) | (with_reducible apply ev_if) | (with_reducible apply eo_some) | (with_reducible apply el_lst) | (with_reducible exact ea_nil) | (with_reducible exact rv_I0) | (with_reducible exact ru_neg) | (with_reducible exact rv_ltS) | (with_reducible exact rv_inC) | (with_reducible exact rv_notInC) | (with_reducible exact rc_intI) | (with_reducible exact rc_intB) | (with_reducible exact rc_min2) | (with_reducible exact rc_isStr) | (with_reducible exact eo_none) | (with_reducible exact rv_inSS) | (with_reducible exact rv_notInSS) | (with_reducible exact rv_ltSS) | (with_reducible exact rv_eqSS) | (with_reducible exact rv_eqII) | (with_reducible exact rv_neII) | (with_reducible exact rv_neSS) | ((with_reducible refine rc_lenSS ?_); (first | assumption | omega | decide | (simp only [S_len] at *; omega))) | ((with_reducible refine rc_lenStr ?_); (first | assumption | omega | decide | (simp only [S_len] at *; omega))) | ((with_reducible refine rv_catSS ?_); (first | assumption | omega | decide | (simp only [S_len] at *; omega))) | (with_reducible exact rv_eq rfl) | (with_reducible exact rv_ne rfl) | ((with_reducible refine rc_lenS ?_); (first | assumption | omega | decide | (simp only [S_len] at *; omega))) | ((with_reducible refine rc_lenL ?_); assumption) | ((with_reducible apply rv_ixL); assumption; rfl) | ((with_reducible refine rv_catS ?_); (first | assumption | omega | decide | (simp only [S_len] at *; omega))) | ((with_reducible refine rv_I ?_); (first | (show (0 : Int) < _; (first | assumption | omega | decide | (simp only [S_len] at *; omega))) | exact .inr ⟨by decide, by decide⟩ | exact .inl ⟨by (first | assumption | omega | decide | (simp only [S_len] at *; omega)), by (first | assumption | omega | decide | (simp only [S_len] at *; omega))⟩ | exact .inr ⟨by (first | assumption | omega | decide | (simp only [S_len] at *; omega)), by (first | assumption | omega | decide | (simp only [S_len] at *; omega))⟩ | exact ⟨by decide, by decide, by decide⟩ | exact wide_div (b := 128) (by (first | assumption | omega | decide | (simp only [S_len] at *; omega))) (by (first | assumption | omega | decide | (simp only [S_len] at *; omega))) (by decide) (by decide))))))) (fun _ H5 e5 => ?_) (fun _ H5 e5 => ?_)
    · exact s_ret (ev_op (ev_op (ev_op (hA _) (h12 _) (rv_catSS (by omega))) (h01 _) (rv_catSS (by rw [List.length_append]; omega))) (hB2 _) (rv_catSS (by rw [List.length_append, List.length_append]; omega))) fun H6 e6 => q _ H6 (by rw [List.length_append, List.length_append, List.length_append]; omega) (((wA.app w12).app w01).app wB2) (eb.trans (ExB.of ((e2.trans e5).trans e6))) (b5.ex ((e2.trans e5).trans e6))
    replace e2 := e2.trans e5
    refine q_when (b := decide (deed = 7)) (by first | ((with_reducible apply et_test); (repeat' (first | ((with_reducible refine ev_pow10 ?_ ?_ ?_) <;> first | rfl | decide) | (with_reducible refine fun (_ : _ = true) => ?_) | (with_reducible refine fun (_ : _ = false) => ?_) | (with_reducible exact ev_c) | ((with_reducible apply ev_var); rfl) | (with_reducible apply ev_op) | (with_reducible apply ev_un) | (with_reducible apply ev_cb) | (with_reducible apply ea_cons) | (with_reducible apply ev_andV) | (with_reducible apply ev_orV) | (with_reducible apply ev_notV) | (with_reducible apply ev_if) | (with_reducible apply eo_some) | (with_reducible apply el_lst) | (with_reducible exact ea_nil) | (with_reducible exact rv_I0) | (with_reducible exact ru_neg) | (with_reducible exact rv_ltS) | (with_reducible exact rv_inC) | (with_reducible exact rv_notInC) | (with_reducible exact rc_intI) | (with_reducible exact rc_intB) | (with_reducible exact rc_min2) | (with_reducible exact rc_isStr) | (with_reducible exact eo_none) | (with_reducible exact rv_inSS) | (with_reducible exact rv_notInSS) | (with_reducible exact rv_ltSS) | (with_reducible exact rv_eqSS) | (with_reducible exact rv_eqII) | (with_reducible exact rv_neII) | (with_reducible exact rv_neSS) | ((with_reducible refine rc_lenSS ?_); (first | assumption | omega | decide | (simp only [S_len] at *; omega))) | ((with_reducible refine rc_lenStr ?_); (first | assumption | omega | decide | (simp only [S_len] at *; omega))) | ((with_reducible refine rv_catSS ?_); (first | assumption | omega | decide | (simp only [S_len] at *; omega))) | (with_reducible exact rv_eq rfl) | (with_reducible exact rv_ne rfl) | ((with_reducible refine rc_lenS ?_); (first | assumption | omega | decide | (simp only [S_len] at *; omega))) | ((with_reducible refine rc_lenL ?_); assumption) | ((with_reducible apply rv_ixL); assumption; rfl) | ((with_reducible refine rv_catS ?_); (first | assumption | omega | decide | (simp only [S_len] at *; omega))) | ((with_reducible refine rv_I ?_); (first | (show (0 : Int) < _; (first | assumption | omega | decide | (simp only [S_len] at *; omega))) | exact .inr ⟨by decide, by decide⟩ | exact .inl ⟨by (first | assumption | omega | decide | (simp only [S_len] at *; omega)), by (first | assumption | omega | decide | (simp only [S_len] at *; omega))⟩ | exact .inr ⟨by (first | assumption | omega | decide | (simp only [S_len] at *; omega)), by (first | assumption | omega | decide | (simp only [S_len] at *; omega))⟩ | exact ⟨by decide, by decide, by decide⟩ | exact wide_div (b := 128) (by (first | assumption | omega | decide | (simp only [S_len] at *; omega))) (by (first | assumption | omega | decide | (simp only [S_len] at *; omega))) (by decide) (by decide)))))) | ((with_reducible apply et_B); (repeat' (first | ((with_reducible refine ev_pow10 ?_ ?_ ?_) <;> first | rfl | decide) | (with_reducible refine fun (_ : _ = true) => ?_) | (with_reducible refine fun (_ : _ = false) => ?_) | (with_reducible exact ev_c) | ((with_reducible apply ev_var); rfl) | (with_reducible apply ev_op) | (with_reducible apply ev_un) | (with_reducible apply ev_cb) | (with_reducible apply ea_cons) | (with_reducible apply ev_andV) | (with_reducible apply ev_orV) | (with_reducible apply ev_notV) | (with_reducible apply ev_if) | (with_reducible apply eo_some) | (with_reducible apply el_lst) | (with_reducible exact ea_nil) | (with_reducible exact rv_I0) | (with_reducible exact ru_neg) | (with_reducible exact rv_ltS) | (with_reducible exact rv_inC) | (with_reducible exact rv_notInC) | (with_reducible exact rc_intI) | (with_reducible exact rc_intB) | (with_reducible exact rc_min2) | (with_reducible exact rc_isStr) | (with_reducible exact eo_none) | (with_reducible exact rv_inSS) | (with_reducible exact rv_notInSS) | (with_reducible exact rv_ltSS) | (with_reducible exact rv_eqSS) | (with_reducible exact rv_eqII) | (with_reducible exact rv_neII) | (with_reducible exact rv_neSS) | ((with_reducible refine rc_lenSS ?_); (first | assumption | omega | decide | (simp only [S_len] at *; omega))) | ((with_reducible refine rc_lenStr ?_); (first | assumption | omega | decide | (simp only [S_len] at *; omega))) | ((with_reducible refine rv_catSS ?_); (first | assumption | omega | decide | (simp only [S_len] at *; omega))) | (with_reducible exact rv_eq rfl) | (with_reducible exact rv_ne rfl) | ((with_reducible refine rc_lenS ?_); (first | assumption | omega | decide | (simp only [S_len] at *; omega))) | ((with_reducible refine rc_lenL ?_); assumption) | ((with_reducible apply rv_ixL); assumption; rfl) | ((with_reducible refine rv_catS ?_); (first | assumption | omega | decide | (simp only [S_len] at *; omega))) | ((with_reducible refine rv_I ?_); (first | (show (0 : Int) < _; (first | assumption | omega | decide | (simp only [S_len] at *; omega))) | exact .inr ⟨by decide, by decide⟩ | exact .inl ⟨by (first | assumption | omega | decide | (simp only [S_len] at *; omega)), by (first | assumption | omega | decide | (simp only [S_len] at *; omega))⟩ | exact .inr ⟨by (first | assumption | omega | decide | (simp only [S_len] at *; omega)), by (first | assumption | omega | decide | (simp only [S_len] at *; omega))⟩ | exact ⟨by decide, by decide, by decide⟩ | exact wide_div (b := 128) (by (first | assumption | omega | decide | (simp only [S_len] at *; omega))) (by (first | assumption | omega | decide | (simp only [S_len] at *; omega))) (by decide) (by decide))))))) (fun _ H6 e6 => ?_) (fun _ H6 e6 => ?_)
    · exact s_ret (hA _) fun H7 e7 => q _ H7 (by omega) wA (eb.trans (ExB.of ((e2.trans e6).trans e7))) (b5.ex ((e2.trans e6).trans e7))
    replace e2 := e2.trans e6
    refine q_when (b := decide (deed = 8)) (by first | ((with_reducible apply et_test); (repeat' (first | ((with_reducible refine ev_pow10 ?_ ?_ ?_) <;> first | rfl | decide) | (with_reducible refine fun (_ : _ = true) => ?_) | (with_reducible refine fun (_ : _ = false) => ?_) | (with_reducible exact ev_c) | ((with_reducible apply ev_var); rfl) | (with_reducible apply ev_op) | (with_reducible apply ev_un) | (with_reducible apply ev_cb) | (with_reducible apply ea_cons) | (with_reducible apply ev_andV) | (with_reducible apply ev_orV) | (with_reducible apply ev_notV) | (with_reducible apply ev_if) | (with_reducible apply eo_some) | (with_reducible apply el_lst) | (with_reducible exact ea_nil) | (with_reducible exact rv_I0) | (with_reducible exact ru_neg) | (with_reducible exact rv_ltS) | (with_reducible exact rv_inC) | (with_reducible exact rv_notInC) | (with_reducible exact rc_intI) | (with_reducible exact rc_intB) | (with_reducible exact rc_min2) | (with_reducible exact rc_isStr) | (with_reducible exact eo_none) | (with_reducible exact rv_inSS) | (with_reducible exact rv_notInSS) | (with_reducible exact rv_ltSS) | (with_reducible exact rv_eqSS) | (with_reducible exact rv_eqII) | (with_reducible exact rv_neII) | (with_reducible exact rv_neSS) | ((with_reducible refine rc_lenSS ?_); (first | assumption | omega | decide | (simp only [S_len] at *; omega))) | ((with_reducible refine rc_lenStr ?_); (first | assumption | omega | decide | (simp only [S_len] at *; omega))) | ((with_reducible refine rv_catSS ?_); (first | assumption | omega | decide | (simp only [S_len] at *; omega))) | (with_reducible exact rv_eq rfl) | (with_reducible exact rv_ne rfl) | ((with_reducible refine rc_lenS ?_); (first | assumption | omega | decide | (simp only [S_len] at *; omega))) | ((with_reducible refine rc_lenL ?_); assumption) | ((with_reducible apply rv_ixL); assumption; rfl) | ((with_reducible refine rv_catS ?_); (first | assumption | omega | decide | (simp only [S_len] at *; omega))) | ((with_reducible refine rv_I ?_); (first | (show (0 : Int) < _; (first | assumption | omega | decide | (simp only [S_len] at *; omega))) | exact .inr ⟨by decide, by decide⟩ | exact .inl ⟨by (first | assumption | omega | decide | (simp only [S_len] at *; omega)), by (first | assumption | omega | decide | (simp only [S_len] at *; omega))⟩ | exact .inr ⟨by (first | assumption | omega | decide | (simp only [S_len] at *; omega)), by (first | assumption | omega | decide | (simp only [S_len] at *; omega))⟩ | exact ⟨by decide, by decide, by decide⟩ | exact wide_div (b := 128) (by (first | assumption | omega | decide | (simp only [S_len] at *; omega))) (by (first | assumption | omega | decide | (simp only [S_len] at *; omega))) (by decide) (by decide)))))) | ((with_reducible apply et_B); (repeat' (first | ((with_reducible refine ev_pow10 ?_ ?_ ?_) <;> first | rfl | decide) | (with_reducible refine fun (_ : _ = true) => ?_) | (with_reducible refine fun (_ : _ = false) => ?_) | (with_reducible exact ev_c) | ((with_reducible apply ev_var); rfl) | (with_reducible apply ev_op) | (with_reducible apply ev_un) | (with_reducible apply ev_cb) | (with_reducible apply ea_cons) | (with_reducible apply ev_andV) | (with_reducible apply ev_orV) | (with_reducible apply ev_notV) | (with_reducible apply ev_if) | (with_reducible apply eo_some) | (with_reducible apply el_lst) | (with_reducible exact ea_nil) | (with_reducible exact rv_I0) | (with_reducible exact ru_neg) | (with_reducible exact rv_ltS) | (with_reducible exact rv_inC) | (with_reducible exact rv_notInC) | (with_reducible exact rc_intI) | (with_reducible exact rc_intB) | (with_reducible exact rc_min2) | (with_reducible exact rc_isStr) | (with_reducible exact eo_none) | (with_reducible exact rv_inSS) | (with_reducible exact rv_notInSS) | (with_reducible exact rv_ltSS) | (with_reducible exact rv_eqSS) | (with_reducible exact rv_eqII) | (with_reducible exact rv_neII) | (with_reducible exact rv_neSS) | ((with_reducible refine rc_lenSS ?_); (first | assumption | omega | decide | (simp only [S_len] at *; omega))) | ((with_reducible refine rc_lenStr ?_); (first | assumption | omega | decide | (simp only [S_len] at *; omega))) | ((with_reducible refine rv_catSS ?_); (first | assumption | omega | decide | (simp only [S_len] at *; omega))) | (with_reducible exact rv_eq rfl) | (with_reducible exact rv_ne rfl) | ((with_reducible refine rc_lenS ?_); (first | assumption | omega | decide | (simp only [S_len] at *; omega))) | ((with_reducible refine rc_lenL ?_); assumption) | ((with_reducible apply rv_ixL); assumption; rfl) | ((with_reducible refine rv_catS ?_); (first | assumption | omega | decide | (simp only [S_len] at *; omega))) | ((with_reducible refine rv_I ?_); (first | (show (0 : Int) < _; (first | assumption | omega | decide | (simp only [S_len] at *; omega))) | exact .inr ⟨by decide, by decide⟩ | exact .inl ⟨by (first | assumption | omega | decide | (simp only [S_len] at *; omega)), by (first | assumption | omega | decide | (simp only [S_len] at *; omega))⟩ | exact .inr ⟨by (first | assumption | omega | decide | (simp only [S_len] at *; omega)), by (first | assumption | omega | decide | (simp only [S_len] at *; omega))⟩ | exact ⟨by decide, by decide, by decide⟩ | exact wide_div (b := 128) (by (first | assumption | omega | decide | (simp only [S_len] at *; omega))) (by (first | assumption | omega | decide | (simp only [S_len] at *; omega))) (by decide) (by decide))))))) (fun _ H7 e7 => ?_) (fun _ H7 e7 => ?_)
    · exact s_ret (ev_op (ev_op (ht _) (hs _) (rv_catSS (by omega))) (hB0 _) (rv_catSS (by rw [List.length_append]; omega))) fun H8 e8 => q _ H8 (by rw [List.length_append, List.length_append]; omega) ((hlow.app lc).app wB0) (eb.trans (ExB.of ((e2.trans e7).trans e8))) (b5.ex ((e2.trans e7).trans e8))
    replace e2 := e2.trans e7
    refine ret_fst (op_fst ?_)
    have l10 : Low [10] := by unfold Low; decide
    have l32 : Low [32] := by unfold Low; decide
    refine el_lst (vs := [.str (S (l ++ [10])), .str (S ([32] ++ l)), .str (S (l ++ [32]))]) (ea_cons (ev_op (ht _) ev_c (rv_catSS (by simp; omega))) (ea_cons (ev_op ev_c (ht _) (rv_catSS (by simp; omega))) (ea_cons (ev_op (ht _) ev_c (rv_catSS (by simp; omega))) ea_nil))) (by simp) H7 (Ex.refl H7) _ fun p H8 hp e8 h8 => ?_
    have b8 := b5.ex (e2.trans e8)
    have hpb : p ≠ bx := fun z => by
      obtain ⟨x, y, v, hx⟩ := b8
      rw [z, hx] at h8
      simp at h8
    refine sp_take_then (b := bx) (many := 3) rfl b8 (by exact ev_c) (by decide) (by decide) fun u H9 u0 u1 e9 b9 => ?_
    have eb9 := (eb.trans (ExB.of (e2.trans e8))).trans e9
    obtain ⟨u, rfl⟩ : ∃ k : Nat, u = (k : Int) := ⟨u.toNat, by omega⟩
    have h3 : u = 0 ∨ u = 1 ∨ u = 2 := by omega
    rcases h3 with rfl | rfl | rfl
    · exact ⟨p, _, _, _, rfl, rfl, sq_of (e9 _ _ hpb h8), rfl, q _ H9 (by simp; omega) (hlow.app l10) eb9 b9⟩
    · exact ⟨p, _, _, _, rfl, rfl, sq_of (e9 _ _ hpb h8), rfl, q _ H9 (by simp; omega) (l32.app hlow) eb9 b9⟩
    · exact ⟨p, _, _, _, rfl, rfl, sq_of (e9 _ _ hpb h8), rfl, q _ H9 (by simp; omega) (hlow.app l32) eb9 b9⟩
end
end K03
namespace K03
open PySem PySem.Spec PyProof.Rows L2 Lc Evl
section
variable {P : Program} {w : World} {K : PySem.W.Frag} {mg : Str → Option Value} {base : Heap}
theorem bx_lcN {σ : L2.St} {H : Hp} {b : Addr} {i j n : Nat} {al : List Nat} {ta : TA} {tal tm : TE} {Q : VK} (hj : ∀ x, ((wipe σ [j]).set j (some x))[i]? = some (some (.ref b))) (hw : ∀ x, wipe ((wipe σ [j]).set j (some x)) [j] = wipe σ [j])
    (hn : ∀ Q' : List V → Hp → Prop, (∀ (u : Nat) H1, u ≤ n → ExB b H H1 → Bx H1 b → Q' [.int (u : Int)] H1) → ta σ H Q') (hal : ∀ x H1, Ev tal ((wipe σ [j]).set j (some x)) H1 (.str (S al))) {m : Int} (hmm : m = (al.length : Int)) (hm : ∀ x H1, Ev tm ((wipe σ [j]).set j (some x)) H1 (.int m)) (h0 : 0 < al.length) (h1 : al.length ≤ 100) (hn1 : n ≤ 1000)
    (k : ∀ (cs : List Nat) p H', cs.length ≤ n → (∀ c ∈ cs, c ∈ al) → H p = none → H' p = some (.lst (cs.map fun c => V.str (S [c]))) → ExB b H H' → Bx H' b → Q (.ref p) H') :
    tLc (iRng1 ta) (gName j) tYes (tOp rIxS tal (tCall sp_law_take [] E0 (tCons (tVar i) (tCons tm tNil)))) [j] σ H Q := by
  refine hn _ fun u0 H1 hu0 e1 hb1 => ⟨(u0 : Int), rfl, by omega, by omega, fun D hD => ?_⟩
  have hDb : D ≠ b := fun z => by
    obtain ⟨x, y, v, hx⟩ := hb1
    rw [z, hx] at hD
    cases hD
  rw [Int.toNat_natCast]
  refine lc_range (lo := 0) (n := u0) (fun i H' => ∃ cs : List Nat, cs.length = i ∧ (∀ c ∈ cs, c ∈ al) ∧ H' D = some (.lst (cs.map fun c => V.str (S [c]))) ∧ ExB b H1 H' ∧ Bx H' b) ⟨[], rfl, by simp, upd_same, ExB.of (Ex.new hD), hb1.ex (Ex.new hD)⟩ ?_ ?_
  · rintro u H' hu ⟨cs, rfl, hca, hDl, ep, bp'⟩
    refine ⟨hw _, ?_⟩
    refine hal _ H' H' (Ex.refl H') _ fun H2 e2 => ?_
    refine sp_take_then (b := b) (many := m) (hj _) (bp'.ex e2) (hm _ _) (by omega) (Nat.lt_of_le_of_lt (show m.natAbs ≤ 100 by omega) (by decide)) fun d H3 d0 d1 e3 b3 => ?_
    refine ⟨S al, d, al.getD d.toNat 0, rfl, rfl, sz_of (by rw [S_len]; omega), atI_i d0 (by show d < (al.length : Int); omega) 0, ?_⟩
    refine ⟨_, e3 D _ hDb (e2 _ _ hDl), Nat.lt_of_lt_of_le (show _ < 2000 by rw [List.length_map]; omega) (by decide), cs ++ [al.getD d.toNat 0], by simp, ?_, ?_, ?_, ?_⟩
    · intro c hc
      rcases List.mem_append.mp hc with hc | hc
      · exact hca c hc
      · have hc2 : c = al.getD d.toNat 0 := by simpa using hc
        rw [hc2]
        exact getD_in (by omega)
    · rw [upd_same, List.map_append]
      rfl
    · intro c o hc ho
      have hcD : c ≠ D := fun z => by rw [z, hD] at ho; cases ho
      rw [upd_ne hcD]
      exact e3 c o hc (e2 _ _ (ep c o hc ho))
    · obtain ⟨x, y, z, h3⟩ := b3
      exact ⟨x, y, z, by rw [upd_ne (Ne.symm hDb)]; exact h3⟩
  · rintro H' ⟨cs, hcl, hca, hDl, ep, bp'⟩
    refine k cs D H' (by omega) hca ?_ hDl (e1.trans ep) bp'
    cases hh : H D with
    | none => rfl
    | some o =>
      have := e1 D o hDb hh
      rw [hD] at this
      cases this
theorem bx_joinN {σ : L2.St} {H : Hp} {b : Addr} {i j n : Nat} {al : List Nat} {ta : TA} {tal tm : TE} {Q : VK} (hj : ∀ x, ((wipe σ [j]).set j (some x))[i]? = some (some (.ref b))) (hw : ∀ x, wipe ((wipe σ [j]).set j (some x)) [j] = wipe σ [j])
    (hn : ∀ Q' : List V → Hp → Prop, (∀ (u : Nat) H1, u ≤ n → ExB b H H1 → Bx H1 b → Q' [.int (u : Int)] H1) → ta σ H Q') (hal : ∀ x H1, Ev tal ((wipe σ [j]).set j (some x)) H1 (.str (S al))) {m : Int} (hmm : m = (al.length : Int)) (hm : ∀ x H1, Ev tm ((wipe σ [j]).set j (some x)) H1 (.int m)) (h0 : 0 < al.length) (h1 : al.length ≤ 100) (hn1 : n ≤ 1000)
    (k : ∀ (cs : List Nat) H', cs.length ≤ n → (∀ c ∈ cs, c ∈ al) → ExB b H H' → Bx H' b → Q (.str (S cs)) H') :
    tM1 (fun x xs H Q => ∃ a p, ∃ ys : List Str, x = .str a ∧ xs = [.ref p] ∧ (SqL K H p (ys.map V.str) ∨ SqT K H p (ys.map V.str)) ∧ (ys.map (·.length)).sum + ys.length * a.length ≤ 16777216 ∧ Q (.str (Txt.join a ys)) H) (tC (.str (S [])))
      (tLc (iRng1 ta) (gName j) tYes (tOp rIxS tal (tCall sp_law_take [] E0 (tCons (tVar i) (tCons tm tNil)))) [j]) σ H Q := by
  refine ⟨⟨_, rfl⟩, bx_lcN hj hw hn hal hmm hm h0 h1 hn1 fun cs p H' hl hc hp h2 e b2 => ?_⟩
  refine ⟨S [], p, cs.map fun c => S [c], rfl, rfl, .inl (SqL.of (by rw [List.map_map]; exact h2)), join_sz _ (by omega), ?_⟩
  rw [join_S]
  exact k cs H' hl hc e b2
def sp_law_loose (K : PySem.W.Frag) : Sp := fun vs H Q _ => ∃ (bx : Addr) (n : Int), vs = [.ref bx, .int n] ∧ Bx H bx ∧ 0 ≤ n ∧ n ≤ 50 ∧ ∀ m H', (m.length : Int) ≤ n → Low m → ExB bx H H' → Bx H' bx → Q (.str (S m)) H'
def menuL : List Nat := [97, 98, 99, 100, 46, 97, 98, 99, 100, 46, 62, 60, 61, 58, 35, 65, 66, 101, 48, 10]
theorem k_menuL : Str.ofString "abcd.abcd.><=:#ABe0\n" = S menuL := by decide +kernel
theorem low_menuL : Low menuL := by unfold Low; decide +kernel
theorem k_nil : Str.ofString "" = S [] := by decide +kernel
theorem ok_law_loose (T : Tx K mg w) : OkD P w K mg base 2 d_law_loose ps_law_loose (sp_law_loose K) := by
  refine (h_law_loose T).ok sc_law_loose (fun vs H Q E h => ?_) (fun cdv A outer s H vs Q E hr h => ⟨_,
      (pss_cons (ps_set (i := 2) sc_law_loose.nd rfl (Or.inr rfl) pe_str)
      (pss_one (ps_ret (pe_join pe_str (pe_lc (own := [("at", 3)]) (g := gName 3) rfl sc_law_loose.nd (pi_range1 rfl (m_range T) (pa_cons (pe_call (ok_law_take (P := P) (w := w) (base := base) T) (hr.mono (by decide)) (by rfl) (m_law_take T) (k_law_take T) (b_law_take T) .nil passN (pa_cons (pv 0) (pa_cons (pe_op op_add (pv 1) pe_int) pa_nil))) pa_nil)) (blkOk_by (own := [("at", 3)]) (N := ns_law_loose) (sc := defScope st_law_loose) (by decide +kernel)) (fun _ _ _ _ _ => pg_name (i := 3) sc_law_loose.nd rfl (Or.inl rfl)) (fun _ _ _ _ _ => pts_nil) (fun _ _ _ _ _ => (pe_ix ix_str (pv 2) (pe_call (ok_law_take (P := P) (w := w) (base := base) T) (hr.mono (by decide)) (by rfl) (m_law_take T) (k_law_take T) (b_law_take T) .nil passN (pa_cons (pv 0) (pa_cons (pe_callB call_len_str (by rfl) (m_len T) (by decide +kernel) (pa_cons (pv 2) pa_nil)) pa_nil))) (fun _ _ => rfl)))))))), ?_⟩)
  · obtain ⟨bx, n, rfl, _⟩ := h
    rfl
  · obtain ⟨bx, n, rfl, hb, n0, n1, q⟩ := h
    simp only [k_menuL, k_nil]
    refine q_asg (v := .str (S menuL)) ev_c fun H1 e1 => ?_
    refine ret_fst ?_
    have hml : menuL.length = 20 := by decide
    refine bx_joinN (b := bx) (i := 0) (j := 3) (n := n.toNat) (al := menuL) (m := 20) (fun x => rfl) (fun x => rfl) ?_ (fun x H1 => ev_var rfl) (by decide) (fun x H1 => ?_) (by decide) (by decide) (by omega) fun cs H2 hcl hcm e2 b2 => ?_
    · intro Q' k
      refine sp_take_then (b := bx) (many := n + 1) rfl (hb.ex e1) (by repeat' (first | ((with_reducible refine ev_pow10 ?_ ?_ ?_) <;> first | rfl | decide) | (with_reducible refine fun (_ : _ = true) => ?_) | (with_reducible refine fun (_ : _ = false) => ?_) | (with_reducible exact ev_c) | ((with_reducible apply ev_var); rfl) | (with_reducible apply ev_op) | (with_reducible apply ev_un) | (with_reducible apply ev_cb) | (with_reducible apply ea_cons) | (with_reducible apply ev_andV) | (with_reducible apply ev_orV) | (with_reducible apply ev_notV) | (with_reducible apply ev_if) | (with_reducible apply eo_some) | (with_reducible apply el_lst) | (with_reducible exact ea_nil) | (with_reducible exact rv_I0) | (with_reducible exact ru_neg) | (with_reducible exact rv_ltS) | (with_reducible exact rv_inC) | (with_reducible exact rv_notInC) | (with_reducible exact rc_intI) | (with_reducible exact rc_intB) | (with_reducible exact rc_min2) | (with_reducible exact rc_isStr) | (with_reducible exact eo_none) | (with_reducible exact rv_inSS) | (with_reducible exact rv_notInSS) | (with_reducible exact rv_ltSS) | (with_reducible exact rv_eqSS) | (with_reducible exact rv_eqII) | (with_reducible exact rv_neII) | (with_reducible exact rv_neSS) | ((with_reducible refine rc_lenSS ?_); (first | assumption | omega | decide | (simp only [S_len] at *; omega))) | ((with_reducible refine rc_lenStr ?_); (first | assumption | omega | decide | (simp only [S_len] at *; omega))) | ((with_reducible refine rv_catSS ?_); (first | assumption | omega | decide | (simp only [S_len] at *; omega))) | (with_reducible exact rv_eq rfl) | (with_reducible exact rv_ne rfl) | ((with_reducible refine rc_lenS ?_); (first | assumption | omega | decide | (simp only [S_len] at *; omega))) | ((with_reducible refine rc_lenL ?_); assumption) | ((with_reducible apply rv_ixL); assumption; rfl) | ((with_reducible refine rv_catS ?_); (first | assumption | omega | decide | (simp only [S_len] at *; omega))) | ((with_reducible refine rv_I ?_); (first | (show (0 : Int) < _; (first | assumption | omega | decide | (simp only [S_len] at *; omega))) | exact .inr ⟨by decide, by decide⟩ | exact .inl ⟨by (first | assumption | omega | decide | (simp only [S_len] at *; omega)), by (first | assumption | omega | decide | (simp only [S_len] at *; omega))⟩ | exact .inr ⟨by (first | assumption | omega | decide | (simp only [S_len] at *; omega)), by (first | assumption | omega | decide | (simp only [S_len] at *; omega))⟩ | exact ⟨by decide, by decide, by decide⟩ | exact wide_div (b := 128) (by (first | assumption | omega | decide | (simp only [S_len] at *; omega))) (by (first | assumption | omega | decide | (simp only [S_len] at *; omega))) (by decide) (by decide))))) (by omega) (Nat.lt_of_le_of_lt (show (n + 1).natAbs ≤ 100 by omega) (by decide)) fun d H2 d0 d1 e2 b2 => ?_
      obtain ⟨d, rfl⟩ : ∃ k : Nat, d = (k : Int) := ⟨d.toNat, by omega⟩
      exact k d H2 (by omega) e2 b2
    · have h := ev_cb (ea_cons (ta := tVar 2) (ev_var (σ := (wipe (List.set (L2.start ns_law_loose [V.ref bx, V.int n]) 2 (some (V.str (S menuL)))) [3]).set 3 (some x)) (H := H1) (i := 2) rfl) ea_nil) (rc_lenStr (l := menuL) (by decide))
      rw [hml] at h
      exact h
    · exact q cs H2 (by omega) (fun c hc => low_menuL c (hcm c hc)) ((ExB.of e1).trans e2) b2
end
end K03
namespace K03
open PySem PySem.Spec PyProof.Rows L2 Lc Evl
section
variable {P : Program} {w : World} {K : PySem.W.Frag} {mg : Str → Option Value} {base : Heap}
/-! ### ways and triples drawn -/
theorem cons_fst {σ : L2.St} {H : Hp} {te : TE} {tr : TA} {Q : List V → Hp → Prop} (h : te σ H fun x H1 => tr σ H1 fun xs H2 => Q (x :: xs) H2) : tCons te tr σ H Q := h
def oddL : List Str := ["", ">", "<", "=", "up", "Right", "LEFT", "rightleft", "b", "across"]
theorem k_right : Str.ofString "right" = S [114, 105, 103, 104, 116] := by decide +kernel
theorem k_left : Str.ofString "left" = S [108, 101, 102, 116] := by decide +kernel
theorem k_both : Str.ofString "both" = S [98, 111, 116, 104] := by decide +kernel
def sp_law_odd_way (K : PySem.W.Frag) : Sp := fun vs H Q _ => ∃ bx, vs = [.ref bx] ∧ Bx H bx ∧ ∀ z H', ExB bx H H' → Bx H' bx → Q (.str z) H'
theorem ok_law_odd_way (T : Tx K mg w) : OkD P w K mg base 3 d_law_odd_way ps_law_odd_way (sp_law_odd_way K) := by
  refine (h_law_odd_way T).ok sc_law_odd_way (fun vs H Q E h => ?_) (fun cdv A outer s H vs Q E hr h => ⟨_,
      (pss_cons (ps_set (i := 1) sc_law_odd_way.nd rfl (Or.inl rfl) (pe_lst (pa_cons pe_str (pa_cons pe_str (pa_cons pe_str (pa_cons pe_str (pa_cons pe_str (pa_cons pe_str (pa_cons pe_str (pa_cons pe_str (pa_cons pe_str (pa_cons pe_str pa_nil))))))))))))
      (pss_cons (ps_if (pt_cmpR op_eq (pe_call (ok_law_take (P := P) (w := w) (base := base) T) (hr.mono (by decide)) (by rfl) (m_law_take T) (k_law_take T) (b_law_take T) .nil passN (pa_cons (pv 0) (pa_cons pe_int pa_nil))) pe_int (nomark _)) (pss_one (ps_ret (pe_ix ix_list (pv 1) (pe_call (ok_law_take (P := P) (w := w) (base := base) T) (hr.mono (by decide)) (by rfl) (m_law_take T) (k_law_take T) (b_law_take T) .nil passN (pa_cons (pv 0) (pa_cons pe_int pa_nil))) (fun _ _ => rfl)))) pss_nil)
      (pss_one (ps_ret (pe_call (ok_law_bend (P := P) (w := w) (base := base) T) (hr.mono (by decide)) (by rfl) (m_law_bend T) (k_law_bend T) (b_law_bend T) .nil passN (pa_cons (pv 0) (pa_cons (pe_ix ix_list (pe_lst (pa_cons pe_str (pa_cons pe_str (pa_cons pe_str pa_nil)))) (pe_call (ok_law_take (P := P) (w := w) (base := base) T) (hr.mono (by decide)) (by rfl) (m_law_take T) (k_law_take T) (b_law_take T) .nil passN (pa_cons (pv 0) (pa_cons pe_int pa_nil))) (fun _ _ => rfl)) pa_nil))))))), ?_⟩)
  · obtain ⟨bx, rfl, _⟩ := h
    rfl
  · obtain ⟨bx, rfl, hb, q⟩ := h
    refine q_asgL (el_lst (vs := oddL.map V.str) (ea_cons ev_c (ea_cons ev_c (ea_cons ev_c (ea_cons ev_c (ea_cons ev_c (ea_cons ev_c (ea_cons ev_c (ea_cons ev_c (ea_cons ev_c (ea_cons ev_c ea_nil)))))))))) (by decide)) fun p H1 hp e1 h1 => ?_
    have hb1 := hb.ex e1
    have hpb : p ≠ bx := fun z => by
      obtain ⟨x, y, v, hx⟩ := hb1
      rw [z, hx] at h1
      cases h1
    refine sp_take_then (b := bx) (many := 2) rfl hb1 (by exact ev_c) (by decide) (by decide) fun d H2 d0 d1 e2 b2 => ?_
    refine ⟨rfl, _, rfl, ?_⟩
    by_cases hd : d = 1
    · subst hd
      refine iteT ?_
      refine ret_fst (op_first (ev_var rfl) fun H3 e3 => ?_)
      refine sp_take_then (b := bx) (many := 10) rfl (b2.ex e3) (by exact ev_c) (by decide) (by decide) fun u H4 u0 u1 e4 b4 => ?_
      have ha := atI_i (xs := oddL.map V.str) u0 (by show u < 10; exact u1) (V.str "")
      have hg : ∃ z : Str, (oddL.map V.str).getD u.toNat (V.str "") = .str z := by
        rw [List.getD_eq_getElem?_getD, List.getElem?_map]
        cases oddL[u.toNat]? with
        | none => exact ⟨_, rfl⟩
        | some z => exact ⟨_, rfl⟩
      obtain ⟨z, hz⟩ := hg
      rw [hz] at ha
      exact ⟨p, _, u, _, rfl, rfl, sq_of (e4 _ _ hpb (e3 _ _ (e2 _ _ hpb h1))), ha, q z H4 ((((ExB.of e1).trans e2).trans (ExB.of e3)).trans e4) b4⟩
    · rw [decide_eq_false (show ¬ V.int d = V.int 1 from fun z => hd (by injection z))]
      refine iteF ?_
      dsimp only [tNext]
      refine ret_fst ?_
      refine ⟨_, rfl, ?_⟩
      dsimp only
      refine cons_fst (op_fst ?_)
      refine el_lst (vs := [.str "right", .str "left", .str "both"]) (ea_cons ev_c (ea_cons ev_c (ea_cons ev_c ea_nil))) (by simp) H2 (Ex.refl H2) _ fun l H3 hl e3 h3 => ?_
      have b3 := b2.ex e3
      have hlb : l ≠ bx := fun z => by
        obtain ⟨x, y, v, hx⟩ := b3
        rw [z, hx] at h3
        cases h3
      refine sp_take_then (b := bx) (many := 3) rfl b3 (by exact ev_c) (by decide) (by decide) fun u H4 u0 u1 e4 b4 => ?_
      have eb := (((ExB.of e1).trans e2).trans (ExB.of e3)).trans e4
      obtain ⟨u, rfl⟩ : ∃ k : Nat, u = (k : Int) := ⟨u.toNat, by omega⟩
      obtain ⟨m, hat, hm, hlow⟩ : ∃ m : List Nat, atI [V.str "right", V.str "left", V.str "both"] (u : Int) = some (.str (S m)) ∧ m.length ≤ 10 ∧ Low m := by
        have h3 : u = 0 ∨ u = 1 ∨ u = 2 := by omega
        rcases h3 with rfl | rfl | rfl
        · exact ⟨[114, 105, 103, 104, 116], by rw [← k_right]; rfl, by decide, by unfold Low; decide⟩
        · exact ⟨[108, 101, 102, 116], by rw [← k_left]; rfl, by decide, by unfold Low; decide⟩
        · exact ⟨[98, 111, 116, 104], by rw [← k_both]; rfl, by decide, by unfold Low; decide⟩
      refine ⟨l, _, _, _, rfl, rfl, sq_of (e4 _ _ hlb h3), hat, ?_⟩
      exact ⟨bx, m, rfl, b4, by omega, hlow, fun m2 H5 _ _ e5 b5 => q _ H5 (eb.trans e5) b5⟩
def sp_law_drawn (K : PySem.W.Frag) : Sp := fun vs H Q _ => ∃ bx, vs = [.ref bx] ∧ Bx H bx ∧ ∀ p b a z H', H p = none → b.length ≤ 60 → a.length ≤ 60 → Low b → Tri H' p b a z → ExB bx H H' → Bx H' bx → Q (.ref p) H'
theorem ok_law_drawn (T : Tx K mg w) : OkD P w K mg base 4 d_law_drawn ps_law_drawn (sp_law_drawn K) := by
  refine (h_law_drawn T).ok sc_law_drawn (fun vs H Q E h => ?_) (fun cdv A outer s H vs Q E hr h => ⟨_,
      (pss_cons (ps_asg (pe_call (ok_law_good (P := P) (w := w) (base := base) T) (hr.mono (by decide)) (by rfl) (m_law_good T) (k_law_good T) (b_law_good T) .nil passN (pa_cons (pv 0) pa_nil)) (pg_tup rfl (pgs_cons (pg_name (i := 2) sc_law_drawn.nd rfl (Or.inl rfl)) (pgs_cons (pg_name (i := 3) sc_law_drawn.nd rfl (Or.inl rfl)) (pgs_cons (pg_name (i := 4) sc_law_drawn.nd rfl (Or.inl rfl)) pgs_nil)))))
      (pss_cons (ps_set (i := 1) sc_law_drawn.nd rfl (Or.inl rfl) (pe_call (ok_law_take (P := P) (w := w) (base := base) T) (hr.mono (by decide)) (by rfl) (m_law_take T) (k_law_take T) (b_law_take T) .nil passN (pa_cons (pv 0) (pa_cons pe_int pa_nil))))
      (Evl.pss_cut (ps_if (PW.pt (pw_or (pt_cmpR op_eq (pv 1) pe_int (nomark _)) (pw_or1 (pt_cmpR op_eq (pv 1) pe_int (nomark _))))) (pss_one (ps_set (i := 2) sc_law_drawn.nd rfl (Or.inl rfl) (pe_call (ok_law_bend (P := P) (w := w) (base := base) T) (hr.mono (by decide)) (by rfl) (m_law_bend T) (k_law_bend T) (b_law_bend T) .nil passN (pa_cons (pv 0) (pa_cons (pv 2) pa_nil))))) pss_nil)
      (Evl.pss_cut (ps_if (PW.pt (pw_or (pt_cmpR op_eq (pv 1) pe_int (nomark _)) (pw_or1 (pt_cmpR op_eq (pv 1) pe_int (nomark _))))) (pss_one (ps_set (i := 3) sc_law_drawn.nd rfl (Or.inl rfl) (pe_call (ok_law_bend (P := P) (w := w) (base := base) T) (hr.mono (by decide)) (by rfl) (m_law_bend T) (k_law_bend T) (b_law_bend T) .nil passN (pa_cons (pv 0) (pa_cons (pv 3) pa_nil))))) pss_nil)
      (Evl.pss_cut (ps_if (pt_cmpR op_eq (pv 1) pe_int (nomark _)) (pss_cons (ps_set (i := 2) sc_law_drawn.nd rfl (Or.inl rfl) (pe_call (ok_law_loose (P := P) (w := w) (base := base) T) (hr.mono (by decide)) (by rfl) (m_law_loose T) (k_law_loose T) (b_law_loose T) .nil passN (pa_cons (pv 0) (pa_cons pe_int pa_nil))))
      (pss_one (ps_set (i := 3) sc_law_drawn.nd rfl (Or.inl rfl) (pe_call (ok_law_loose (P := P) (w := w) (base := base) T) (hr.mono (by decide)) (by rfl) (m_law_loose T) (k_law_loose T) (b_law_loose T) .nil passN (pa_cons (pv 0) (pa_cons pe_int pa_nil)))))) pss_nil)
      (Evl.pss_cut (ps_if (pt_cmpR op_eq (pe_call (ok_law_take (P := P) (w := w) (base := base) T) (hr.mono (by decide)) (by rfl) (m_law_take T) (k_law_take T) (b_law_take T) .nil passN (pa_cons (pv 0) (pa_cons pe_int pa_nil))) pe_int (nomark _)) (pss_one (ps_set (i := 4) sc_law_drawn.nd rfl (Or.inl rfl) (pe_call (ok_law_odd_way (P := P) (w := w) (base := base) T) (hr.mono (by decide)) (by rfl) (m_law_odd_way T) (k_law_odd_way T) (b_law_odd_way T) .nil passN (pa_cons (pv 0) pa_nil)))) pss_nil)
      (pss_one (ps_ret (pe_tup (pa_cons (pv 2) (pa_cons (pv 3) (pa_cons (pv 4) pa_nil)))))))))))), ?_⟩)
  · obtain ⟨bx, rfl, _⟩ := h
    rfl
  · obtain ⟨bx, rfl, hb, q⟩ := h
    refine ⟨_, rfl, bx, rfl, hb, fun t b a z H1 ht hi h1 e1 b1 => ?_⟩
    refine ⟨t, _, rfl, st_of h1, rfl, ?_⟩
    obtain ⟨hz, hb3, hab, gb, ga⟩ := isJ_parts hi
    have hla0 : a.length ≤ 4 := by omega
    have lb : Low b := fun c hc => sg_low c (gb c hc)
    have la : Low a := fun c hc => sg_low c (ga c hc)
    refine ⟨_, _, rfl, ?_⟩
    refine ⟨_, _, rfl, ?_⟩
    refine ⟨_, _, rfl, ?_⟩
    refine ⟨rfl, ?_⟩
    dsimp only
    refine q_first ?_
    refine sp_take_then (b := bx) (many := 8) rfl b1 (by exact ev_c) (by decide) (by decide) fun sh H2 _ _ e2 b2 => ?_
    have I0 : ExB bx H H2 ∧ Bx H2 bx ∧ ∃ (b a : List Nat) (z : Str), b.length ≤ 10 ∧ a.length ≤ 4 ∧ Low b ∧ Low a ∧ True := ⟨e1.trans e2, b2, b, a, z, by omega, by omega, lb, la, trivial⟩
    refine q_cut (M := fun σ' H' => ExB bx H H' ∧ Bx H' bx ∧ ∃ (b : List Nat), b.length ≤ 10 ∧ Low b ∧ σ' = [some (.ref bx), some (.int sh), some (.str (S b)), some (.str (S a)), some (.str z)]) ?_ ?_
    · refine s_when (b := (decide (sh = 4) || decide (sh = 6))) (et_or (et_test (by repeat' (first | ((with_reducible refine ev_pow10 ?_ ?_ ?_) <;> first | rfl | decide) | (with_reducible refine fun (_ : _ = true) => ?_) | (with_reducible refine fun (_ : _ = false) => ?_) | (with_reducible exact ev_c) | ((with_reducible apply ev_var); rfl) | (with_reducible apply ev_op) | (with_reducible apply ev_un) | (with_reducible apply ev_cb) | (with_reducible apply ea_cons) | (with_reducible apply ev_andV) | (with_reducible apply ev_orV) | (with_reducible apply ev_notV) | (with_reducible apply ev_if) | (with_reducible apply eo_some) | (with_reducible apply el_lst) | (with_reducible exact ea_nil) | (with_reducible exact rv_I0) | (with_reducible exact ru_neg) | (with_reducible exact rv_ltS) | (with_reducible exact rv_inC) | (with_reducible exact rv_notInC) | (with_reducible exact rc_intI) | (with_reducible exact rc_intB) | (with_reducible exact rc_min2) | (with_reducible exact rc_isStr) | (with_reducible exact eo_none) | (with_reducible exact rv_inSS) | (with_reducible exact rv_notInSS) | (with_reducible exact rv_ltSS) | (with_reducible exact rv_eqSS) | (with_reducible exact rv_eqII) | (with_reducible exact rv_neII) | (with_reducible exact rv_neSS) | ((with_reducible refine rc_lenSS ?_); (first | assumption | omega | decide | (simp only [S_len] at *; omega))) | ((with_reducible refine rc_lenStr ?_); (first | assumption | omega | decide | (simp only [S_len] at *; omega))) | ((with_reducible refine rv_catSS ?_); (first | assumption | omega | decide | (simp only [S_len] at *; omega))) | (with_reducible exact rv_eq rfl) | (with_reducible exact rv_ne rfl) | ((with_reducible refine rc_lenS ?_); (first | assumption | omega | decide | (simp only [S_len] at *; omega))) | ((with_reducible refine rc_lenL ?_); assumption) | ((with_reducible apply rv_ixL); assumption; rfl) | ((with_reducible refine rv_catS ?_); (first | assumption | omega | decide | (simp only [S_len] at *; omega))) | ((with_reducible refine rv_I ?_); (first | (show (0 : Int) < _; (first | assumption | omega | decide | (simp only [S_len] at *; omega))) | exact .inr ⟨by decide, by decide⟩ | exact .inl ⟨by (first | assumption | omega | decide | (simp only [S_len] at *; omega)), by (first | assumption | omega | decide | (simp only [S_len] at *; omega))⟩ | exact .inr ⟨by (first | assumption | omega | decide | (simp only [S_len] at *; omega)), by (first | assumption | omega | decide | (simp only [S_len] at *; omega))⟩ | exact ⟨by decide, by decide, by decide⟩ | exact wide_div (b := 128) (by (first | assumption | omega | decide | (simp only [S_len] at *; omega))) (by (first | assumption | omega | decide | (simp only [S_len] at *; omega))) (by decide) (by decide)))))) fun _ => et_test (by repeat' (first | ((with_reducible refine ev_pow10 ?_ ?_ ?_) <;> first | rfl | decide) | (with_reducible refine fun (_ : _ = true) => ?_) | (with_reducible refine fun (_ : _ = false) => ?_) | (with_reducible exact ev_c) | ((with_reducible apply ev_var); rfl) | (with_reducible apply ev_op) | (with_reducible apply ev_un) | (with_reducible apply ev_cb) | (with_reducible apply ea_cons) | (with_reducible apply ev_andV) | (with_reducible apply ev_orV) | (with_reducible apply ev_notV) | (with_reducible apply ev_if) | (with_reducible apply eo_some) | (with_reducible apply el_lst) | (with_reducible exact ea_nil) | (with_reducible exact rv_I0) | (with_reducible exact ru_neg) | (with_reducible exact rv_ltS) | (with_reducible exact rv_inC) | (with_reducible exact rv_notInC) | (with_reducible exact rc_intI) | (with_reducible exact rc_intB) | (with_reducible exact rc_min2) | (with_reducible exact rc_isStr) | (with_reducible exact eo_none) | (with_reducible exact rv_inSS) | (with_reducible exact rv_notInSS) | (with_reducible exact rv_ltSS) | (with_reducible exact rv_eqSS) | (with_reducible exact rv_eqII) | (with_reducible exact rv_neII) | (with_reducible exact rv_neSS) | ((with_reducible refine rc_lenSS ?_); (first | assumption | omega | decide | (simp only [S_len] at *; omega))) | ((with_reducible refine rc_lenStr ?_); (first | assumption | omega | decide | (simp only [S_len] at *; omega))) | ((with_reducible refine rv_catSS ?_); (first | assumption | omega | decide | (simp only [S_len] at *; omega))) | (with_reducible exact rv_eq rfl) | (with_reducible exact rv_ne rfl) | ((with_reducible refine rc_lenS ?_); (first | assumption | omega | decide | (simp only [S_len] at *; omega))) | ((with_reducible refine rc_lenL ?_); assumption) | ((with_reducible apply rv_ixL); assumption; rfl) | ((with_reducible refine rv_catS ?_); (first | assumption | omega | decide | (simp only [S_len] at *; omega))) | ((with_reducible refine rv_I ?_); (first | (show (0 : Int) < _; (first | assumption | omega | decide | (simp only [S_len] at *; omega))) | exact .inr ⟨by decide, by decide⟩ | exact .inl ⟨by (first | assumption | omega | decide | (simp only [S_len] at *; omega)), by (first | assumption | omega | decide | (simp only [S_len] at *; omega))⟩ | exact .inr ⟨by (first | assumption | omega | decide | (simp only [S_len] at *; omega)), by (first | assumption | omega | decide | (simp only [S_len] at *; omega))⟩ | exact ⟨by decide, by decide, by decide⟩ | exact wide_div (b := 128) (by (first | assumption | omega | decide | (simp only [S_len] at *; omega))) (by (first | assumption | omega | decide | (simp only [S_len] at *; omega))) (by decide) (by decide)))))) (fun _ H3 e3 => ?_) (fun _ H3 e3 => ⟨(e1.trans e2).trans (ExB.of e3), b2.ex e3, b, by omega, lb, rfl⟩)
      exact ⟨_, rfl, _, rfl, bx, b, rfl, b2.ex e3, by omega, lb, fun m H4 hm lm e4 b4 => ⟨((e1.trans e2).trans (ExB.of e3)).trans e4, b4, m, by omega, lm, rfl⟩⟩
    · clear I0 e2 b2 e1 b1 h1 ht hi lb gb hb3
      rintro σ' H3 ⟨e3, b3, b, hlb, lb, rfl⟩
      refine q_cut (M := fun σ' H' => ExB bx H H' ∧ Bx H' bx ∧ ∃ (a : List Nat), a.length ≤ 10 ∧ σ' = [some (.ref bx), some (.int sh), some (.str (S b)), some (.str (S a)), some (.str z)]) ?_ ?_
      · refine s_when (b := (decide (sh = 5) || decide (sh = 6))) (et_or (et_test (by repeat' (first | ((with_reducible refine ev_pow10 ?_ ?_ ?_) <;> first | rfl | decide) | (with_reducible refine fun (_ : _ = true) => ?_) | (with_reducible refine fun (_ : _ = false) => ?_) | (with_reducible exact ev_c) | ((with_reducible apply ev_var); rfl) | (with_reducible apply ev_op) | (with_reducible apply ev_un) | (with_reducible apply ev_cb) | (with_reducible apply ea_cons) | (with_reducible apply ev_andV) | (with_reducible apply ev_orV) | (with_reducible apply ev_notV) | (with_reducible apply ev_if) | (with_reducible apply eo_some) | (with_reducible apply el_lst) | (with_reducible exact ea_nil) | (with_reducible exact rv_I0) | (with_reducible exact ru_neg) | (with_reducible exact rv_ltS) | (with_reducible exact rv_inC) | (with_reducible exact rv_notInC) | (with_reducible exact rc_intI) | (with_reducible exact rc_intB) | (with_reducible exact rc_min2) | (with_reducible exact rc_isStr) | (with_reducible exact eo_none) | (with_reducible exact rv_inSS) | (with_reducible exact rv_notInSS) | (with_reducible exact rv_ltSS) | (with_reducible exact rv_eqSS) | (with_reducible exact rv_eqII) | (with_reducible exact rv_neII) | (with_reducible exact rv_neSS) | ((with_reducible refine rc_lenSS ?_); (first | assumption | omega | decide | (simp only [S_len] at *; omega))) | ((with_reducible refine rc_lenStr ?_); (first | assumption | omega | decide | (simp only [S_len] at *; omega))) | ((with_reducible refine rv_catSS ?_); (first | assumption | omega | decide | (simp only [S_len] at *; omega))) | (with_reducible exact rv_eq rfl) | (with_reducible exact rv_ne rfl) | ((with_reducible refine rc_lenS ?_); (first | assumption | omega | decide | (simp only [S_len] at *; omega))) | ((with_reducible refine rc_lenL ?_); assumption) | ((with_reducible apply rv_ixL); assumption; rfl) | ((with_reducible refine rv_catS ?_); (first | assumption | omega | decide | (simp only [S_len] at *; omega))) | ((with_reducible refine rv_I ?_); (first | (show (0 : Int) < _; (first | assumption | omega | decide | (simp only [S_len] at *; omega))) | exact .inr ⟨by decide, by decide⟩ | exact .inl ⟨by (first | assumption | omega | decide | (simp only [S_len] at *; omega)), by (first | assumption | omega | decide | (simp only [S_len] at *; omega))⟩ | exact .inr ⟨by (first | assumption | omega | decide | (simp only [S_len] at *; omega)), by (first | assumption | omega | decide | (simp only [S_len] at *; omega))⟩ | exact ⟨by decide, by decide, by decide⟩ | exact wide_div (b := 128) (by (first | assumption | omega | decide | (simp only [S_len] at *; omega))) (by (first | assumption | omega | decide | (simp only [S_len] at *; omega))) (by decide) (by decide)))))) fun _ => et_test (by repeat' (first | ((with_reducible refine ev_pow10 ?_ ?_ ?_) <;> first | rfl | decide) | (with_reducible refine fun (_ : _ = true) => ?_) | (with_reducible refine fun (_ : _ = false) => ?_) | (with_reducible exact ev_c) | ((with_reducible apply ev_var); rfl) | (with_reducible apply ev_op) | (with_reducible apply ev_un) | (with_reducible apply ev_cb) | (with_reducible apply ea_cons) | (with_reducible apply ev_andV) | (with_reducible apply ev_orV) | (with_reducible apply ev_notV) | (with_reducible apply ev_if) | (with_reducible apply eo_some) | (with_reducible apply el_lst) | (with_reducible exact ea_nil) | (with_reducible exact rv_I0) | (with_reducible exact ru_neg) | (with_reducible exact rv_ltS) | (with_reducible exact rv_inC) | (with_reducible exact rv_notInC) | (with_reducible exact rc_intI) | (with_reducible exact rc_intB) | (with_reducible exact rc_min2) | (with_reducible exact rc_isStr) | (with_reducible exact eo_none) | (with_reducible exact rv_inSS) | (with_reducible exact rv_notInSS) | (with_reducible exact rv_ltSS) | (with_reducible exact rv_eqSS) | (with_reducible exact rv_eqII) | (with_reducible exact rv_neII) | (with_reducible exact rv_neSS) | ((with_reducible refine rc_lenSS ?_); (first | assumption | omega | decide | (simp only [S_len] at *; omega))) | ((with_reducible refine rc_lenStr ?_); (first | assumption | omega | decide | (simp only [S_len] at *; omega))) | ((with_reducible refine rv_catSS ?_); (first | assumption | omega | decide | (simp only [S_len] at *; omega))) | (with_reducible exact rv_eq rfl) | (with_reducible exact rv_ne rfl) | ((with_reducible refine rc_lenS ?_); (first | assumption | omega | decide | (simp only [S_len] at *; omega))) | ((with_reducible refine rc_lenL ?_); assumption) | ((with_reducible apply rv_ixL); assumption; rfl) | ((with_reducible refine rv_catS ?_); (first | assumption | omega | decide | (simp only [S_len] at *; omega))) | ((with_reducible refine rv_I ?_); (first | (show (0 : Int) < _; (first | assumption | omega | decide | (simp only [S_len] at *; omega))) | exact .inr ⟨by decide, by decide⟩ | exact .inl ⟨by (first | assumption | omega | decide | (simp only [S_len] at *; omega)), by (first | assumption | omega | decide | (simp only [S_len] at *; omega))⟩ | exact .inr ⟨by (first | assumption | omega | decide | (simp only [S_len] at *; omega)), by (first | assumption | omega | decide | (simp only [S_len] at *; omega))⟩ | exact ⟨by decide, by decide, by decide⟩ | exact wide_div (b := 128) (by (first | assumption | omega | decide | (simp only [S_len] at *; omega))) (by (first | assumption | omega | decide | (simp only [S_len] at *; omega))) (by decide) (by decide)))))) (fun _ H4 e4 => ?_) (fun _ H4 e4 => ⟨e3.trans (ExB.of e4), b3.ex e4, a, by omega, rfl⟩)
        exact ⟨_, rfl, _, rfl, bx, a, rfl, b3.ex e4, by omega, la, fun m H5 hm lm e5 b5 => ⟨(e3.trans (ExB.of e4)).trans e5, b5, m, by omega, rfl⟩⟩
      · rintro σ' H4 ⟨e4, b4, a2, hla, rfl⟩
        refine q_cut (M := fun σ' H' => ExB bx H H' ∧ Bx H' bx ∧ ∃ (b a : List Nat), b.length ≤ 10 ∧ a.length ≤ 10 ∧ Low b ∧ σ' = [some (.ref bx), some (.int sh), some (.str (S b)), some (.str (S a)), some (.str z)]) ?_ ?_
        · refine s_when (b := decide (sh = 7)) (by first | ((with_reducible apply et_test); (repeat' (first | ((with_reducible refine ev_pow10 ?_ ?_ ?_) <;> first | rfl | decide) | (with_reducible refine fun (_ : _ = true) => ?_) | (with_reducible refine fun (_ : _ = false) => ?_) | (with_reducible exact ev_c) | ((with_reducible apply ev_var); rfl) | (with_reducible apply ev_op) | (with_reducible apply ev_un) | (with_reducible apply ev_cb) | (with_reducible apply ea_cons) | (with_reducible apply ev_andV) | (with_reducible apply ev_orV) | (with_reducible apply ev_notV) | (with_reducible apply ev_if) | (with_reducible apply eo_some) | (with_reducible apply el_lst) | (with_reducible exact ea_nil) | (with_reducible exact rv_I0) | (with_reducible exact ru_neg) | (with_reducible exact rv_ltS) | (with_reducible exact rv_inC) | (with_reducible exact rv_notInC) | (with_reducible exact rc_intI) | (with_reducible exact rc_intB) | (with_reducible exact rc_min2) | (with_reducible exact rc_isStr) | (with_reducible exact eo_none) | (with_reducible exact rv_inSS) | (with_reducible exact rv_notInSS) | (with_reducible exact rv_ltSS) | (with_reducible exact rv_eqSS) | (with_reducible exact rv_eqII) | (with_reducible exact rv_neII) | (with_reducible exact rv_neSS) | ((with_reducible refine rc_lenSS ?_); (first | assumption | omega | decide | (simp only [S_len] at *; omega))) | ((with_reducible refine rc_lenStr ?_); (first | assumption | omega | decide | (simp only [S_len] at *; omega))) | ((with_reducible refine rv_catSS ?_); (first | assumption | omega | decide | (simp only [S_len] at *; omega))) | (with_reducible exact rv_eq rfl) | (with_reducible exact rv_ne rfl) | ((with_reducible refine rc_lenS ?_); (first | assumption | omega | decide | (simp only [S_len] at *; omega))) | ((with_reducible refine rc_lenL ?_); assumption) | ((with_reducible apply rv_ixL); assumption; rfl) | ((with_reducible refine rv_catS ?_); (first | assumption | omega | decide | (simp only [S_len] at *; omega))) | ((with_reducible refine rv_I ?_); (first | (show (0 : Int) < _; (first | assumption | omega | decide | (simp only [S_len] at *; omega))) | exact .inr ⟨by decide, by decide⟩ | exact .inl ⟨by (first | assumption | omega | decide | (simp only [S_len] at *; omega)), by (first | assumption | omega | decide | (simp only [S_len] at *; omega))⟩ | exact .inr ⟨by (first | assumption | omega | decide | (simp only [S_len] at *; omega)), by (first | assumption | omega | decide | (simp only [S_len] at *; omega))⟩ | exact ⟨by decide, by decide, by decide⟩ | exact wide_div (b := 128) (by (first | assumption | omega | decide | (simp only [S_len] at *; omega))) (by (first | assumption | omega | decide | (simp only [S_len] at *; omega))) (by decide) (by decide)))))) | ((with_reducible apply et_B); (repeat' (first | ((with_reducible refine ev_pow10 ?_ ?_ ?_) <;> first | rfl | decide) | (with_reducible refine fun (_ : _ = true) => ?_) | (with_reducible refine fun (_ : _ = false) => ?_) | (with_reducible exact ev_c) | ((with_reducible apply ev_var); rfl) | (with_reducible apply ev_op) | (with_reducible apply ev_un) | (with_reducible apply ev_cb) | (with_reducible apply ea_cons) | (with_reducible apply ev_andV) | (with_reducible apply ev_orV) | (with_reducible apply ev_notV) | (with_reducible apply ev_if) | (with_reducible apply eo_some) | (with_reducible apply el_lst) | (with_reducible exact ea_nil) | (with_reducible exact rv_I0) | (with_reducible exact ru_neg) | (with_reducible exact rv_ltS) | (with_reducible exact rv_inC) | (with_reducible exact rv_notInC) | (with_reducible exact rc_intI) | (with_reducible exact rc_intB) | (with_reducible exact rc_min2) | (with_reducible exact rc_isStr) | (with_reducible exact eo_none) | (with_reducible exact rv_inSS) | (with_reducible exact rv_notInSS) | (with_reducible exact rv_ltSS) | (with_reducible exact rv_eqSS) | (with_reducible exact rv_eqII) | (with_reducible exact rv_neII) | (with_reducible exact rv_neSS) | ((with_reducible refine rc_lenSS ?_); (first | assumption | omega | decide | (simp only [S_len] at *; omega))) | ((with_reducible refine rc_lenStr ?_); (first | assumption | omega | decide | (simp only [S_len] at *; omega))) | ((with_reducible refine rv_catSS ?_); (first | assumption | omega | decide | (simp only [S_len] at *; omega))) | (with_reducible exact rv_eq rfl) | (with_reducible exact rv_ne rfl) | ((with_reducible refine rc_lenS ?_); (first | assumption | omega | decide | (simp only [S_len] at *; omega))) | ((with_reducible refine rc_lenL ?_); assumption) | ((with_reducible apply rv_ixL); assumption; rfl) | ((with_reducible refine rv_catS ?_); (first | assumption | omega | decide | (simp only [S_len] at *; omega))) | ((with_reducible refine rv_I ?_); (first | (show (0 : Int) < _; (first | assumption | omega | decide | (simp only [S_len] at *; omega))) | exact .inr ⟨by decide, by decide⟩ | exact .inl ⟨by (first | assumption | omega | decide | (simp only [S_len] at *; omega)), by (first | assumption | omega | decide | (simp only [S_len] at *; omega))⟩ | exact .inr ⟨by (first | assumption | omega | decide | (simp only [S_len] at *; omega)), by (first | assumption | omega | decide | (simp only [S_len] at *; omega))⟩ | exact ⟨by decide, by decide, by decide⟩ | exact wide_div (b := 128) (by (first | assumption | omega | decide | (simp only [S_len] at *; omega))) (by (first | assumption | omega | decide | (simp only [S_len] at *; omega))) (by decide) (by decide))))))) (fun _ H5 e5 => ?_) (fun _ H5 e5 => ⟨e4.trans (ExB.of e5), b4.ex e5, b, a2, hlb, hla, lb, rfl⟩)
          refine q_first ?_
          refine ⟨_, rfl, bx, 6, rfl, b4.ex e5, by decide, by decide, fun m H6 hm lm e6 b6 => ?_⟩
          exact ⟨_, rfl, bx, 6, rfl, b6, by decide, by decide, fun m2 H7 hm2 lm2 e7 b7 => ⟨((e4.trans (ExB.of e5)).trans e6).trans e7, b7, m, m2, by omega, by omega, lm, rfl⟩⟩
        · rintro σ' H5 ⟨e5, b5, b3', a3, hlb3, hla3, lb3, rfl⟩
          refine q_cut (M := fun σ' H' => ExB bx H H' ∧ Bx H' bx ∧ ∃ (z : Str), σ' = [some (.ref bx), some (.int sh), some (.str (S b3')), some (.str (S a3)), some (.str z)]) ?_ ?_
          · refine sp_take_then (b := bx) (many := 6) rfl b5 (by exact ev_c) (by decide) (by decide) fun d H6 d0 d1 e6 b6 => ?_
            refine ⟨rfl, _, rfl, ?_⟩
            by_cases hd : d = 1
            · subst hd
              refine iteT ?_
              exact ⟨_, rfl, bx, rfl, b6, fun z H7 e7 b7 => ⟨(e5.trans e6).trans e7, b7, z, rfl⟩⟩
            · rw [decide_eq_false (show ¬ V.int d = V.int 1 from fun z => hd (by injection z))]
              exact iteF ⟨e5.trans e6, b6, z, rfl⟩
          · rintro σ' H6 ⟨e6, b6, z2, rfl⟩
            refine s_retU (eu_tup (ea_cons (ev_var (i := 2) rfl) (ea_cons (ev_var (i := 3) rfl) (ea_cons (ev_var (i := 4) rfl) ea_nil))) (by simp)) fun p H7 hp e7 h7 => ?_
            have hpb : p ≠ bx := fun z => by
              obtain ⟨x, y, v, hx⟩ := b6
              rw [z, hx] at hp
              cases hp
            have hpH : H p = none := by
              cases hh : H p with
              | none => rfl
              | some o =>
                have := e6 p o hpb hh
                rw [hp] at this
                cases this
            exact q p b3' a3 z2 H7 hpH (by omega) (by omega) lb3 h7 (e6.trans (ExB.of e7)) (b6.ex e7)
end
end K03
namespace K03
open PySem PySem.Spec PyProof.Rows L2 Lc Evl
section
variable {P : Program} {w : World} {K : PySem.W.Frag} {mg : Str → Option Value} {base : Heap}
/-! ### what the law looks at -/
theorem ev_text {σ : L2.St} {H : Hp} {te tb : TE} {x y : Str} (h : Ev te σ H (.str x)) (hb : Ev tb σ H (.str y)) (e : x = y) : Ev (tCall sp_law_text [] E0 (tCons te (tCons tb tNil))) σ H (.bl true) :=
  ev_call (ea_cons h (ea_cons hb ea_nil)) fun H1 e1 Q q E => ⟨x.cps.toList, y.cps.toList, by rw [S_tl, S_tl]; rfl, by rw [decide_eq_true (congrArg (fun z : Str => z.cps.toList) e)]; exact q⟩
theorem rc_str {H : Hp} {j : Addr} {b a : List Nat} {z : Str} (hj : IsJ K H j b a z) (hi : isJ b a z = true) : RC (rStrOwn (cU K) (sp_Jump_str K) E0) [.ref j] H (.str (S (b ++ wsg z ++ a))) := fun H1 e Q q => by
  obtain ⟨hz, hb, hab, _, _⟩ := isJ_parts hi
  obtain ⟨dx, h⟩ := id hj
  exact ⟨j, dx, _, rfl, e _ _ h, j, b, a, z, rfl, hj.ex e, by omega, by omega, hz, fun H2 e2 => ⟨_, rfl, q H2 e2⟩⟩
theorem ev_written {σ : L2.St} {H : Hp} {te : TE} {t : Addr} {b a : List Nat} {z : Str} (h : Ev te σ H (.ref t)) (ht : Tri H t b a z) (hi : isJ b a z = true) : Ev (tCall (sp_law_written K) [] E0 (tCons te tNil)) σ H (.str (S (b ++ wsg z ++ a))) :=
  ev_call (ea_cons h ea_nil) fun H1 e1 Q q E => by
    obtain ⟨hz, hb, hab, _, _⟩ := isJ_parts hi
    exact ⟨t, b, a, z, rfl, ht.ex e1, by omega, by omega, hz, q⟩
def sp_law_shown (K : PySem.W.Frag) : Sp := fun vs H Q _ => ∃ (j t : Addr) (b a : List Nat) (z : Str), vs = [.ref j, .ref t] ∧ IsJ K H j b a z ∧ Tri H t b a z ∧ isJ b a z = true ∧ RetV (.bl true) H Q
theorem ok_law_shown (T : Tx K mg w) : OkD P w K mg base 4 d_law_shown ps_law_shown (sp_law_shown K) := by
  refine (h_law_shown T).ok sc_law_shown (fun vs H Q E h => ?_) (fun cdv A outer s H vs Q E hr h => ⟨_,
      (pss_cons (ps_if (PW.pt (pw_or (pt_not (pt_val (pe_callB (call_isOwn (C := He.ga K "Jump")) (by rfl) (m_isinstance T) (by decide +kernel) (pa_cons (pv 0) (pa_cons (pe_glob (v := .ref (He.ga K "Jump")) rfl (m_Jump T) rfl) pa_nil))))) (pw_or1 (pt_not (pt_val (pe_call (ok_law_text (P := P) (w := w) (base := base) T) (hr.mono (by decide)) (by rfl) (m_law_text T) (k_law_text T) (b_law_text T) .nil passN (pa_cons (pe_fld (pv 0) rfl) (pa_cons (pe_ix ix_tup (pv 1) pe_int (fun _ _ => rfl)) pa_nil)))))))) (pss_one (ps_ret pe_bl)) pss_nil)
      (pss_cons (ps_if (PW.pt (pw_or (pt_not (pt_val (pe_call (ok_law_text (P := P) (w := w) (base := base) T) (hr.mono (by decide)) (by rfl) (m_law_text T) (k_law_text T) (b_law_text T) .nil passN (pa_cons (pe_fld (pv 0) rfl) (pa_cons (pe_ix ix_tup (pv 1) pe_int (fun _ _ => rfl)) pa_nil))))) (pw_or1 (pt_not (pt_val (pe_call (ok_law_text (P := P) (w := w) (base := base) T) (hr.mono (by decide)) (by rfl) (m_law_text T) (k_law_text T) (b_law_text T) .nil passN (pa_cons (pe_fld (pv 0) rfl) (pa_cons (pe_ix ix_tup (pv 1) pe_int (fun _ _ => rfl)) pa_nil)))))))) (pss_one (ps_ret pe_bl)) pss_nil)
      (pss_one (ps_ret (pe_call (ok_law_text (P := P) (w := w) (base := base) T) (hr.mono (by decide)) (by rfl) (m_law_text T) (k_law_text T) (b_law_text T) .nil passN (pa_cons (pe_callTy (call_strOwn (ok_Jump_str (P := P) (w := w) (base := base) T) (hr.mono (by decide)) (me_Jump_str T).at_ (me_Jump_str T).fn (b_Jump_str T) passN) (by rfl) (m_str T) (by decide +kernel) (pa_cons (pv 0) pa_nil)) (pa_cons (pe_call (ok_law_written (P := P) (w := w) (base := base) T) (hr.mono (by decide)) (by rfl) (m_law_written T) (k_law_written T) (b_law_written T) .nil passN (pa_cons (pv 1) pa_nil)) pa_nil))))))), ?_⟩)
  · obtain ⟨j, t, b, a, z, rfl, _⟩ := h
    rfl
  · obtain ⟨j, t, b, a, z, rfl, hj, ht, hi, q⟩ := h
    refine q_when (b := (!true || !true)) (et_or (et_not (et_test (ev_cb (ea_cons (by exact ev_var rfl) (ea_cons ev_c ea_nil)) (rc_isJump hj)))) fun _ => et_not (et_test (ev_text (ev_before (te := tVar 0) T (by exact ev_var rfl) hj) (ev_t0 (te := tVar 1) (by exact ev_var rfl) ht) rfl))) (fun hc => by cases hc) (fun _ H1 e1 => ?_)
    have hj := hj.ex e1
    have ht := ht.ex e1
    refine q_when (b := (!true || !true)) (et_or (et_not (et_test (ev_text (ev_after (te := tVar 0) T (by exact ev_var rfl) hj) (ev_t1 (te := tVar 1) (by exact ev_var rfl) ht) rfl))) fun _ => et_not (et_test (ev_text (ev_ways (te := tVar 0) T (by exact ev_var rfl) hj) (ev_t2 (te := tVar 1) (by exact ev_var rfl) ht) rfl))) (fun hc => by cases hc) (fun _ H2 e2 => ?_)
    exact s_ret (ev_text (ev_cb (ea_cons (ta := tVar 0) (by exact ev_var rfl) ea_nil) (rc_str (hj.ex e2) hi)) (ev_written (te := tVar 1) (by exact ev_var rfl) (ht.ex e2) hi) rfl) fun H3 e3 => q H3 ((e1.trans e2).trans e3)
theorem Tps.ex {H H' : Hp} (e : Ex H H') : ∀ {ts : List Addr} {ws : List (List Nat × List Nat)}, Tps H ts ws → Tps H' ts ws
  | [], [], h => trivial
  | t :: ts, x :: xs, h => ⟨e _ _ h.1, Tps.ex e h.2⟩
  | [], _ :: _, h => h
  | _ :: _, [], h => h
theorem Tps.len {H : Hp} : ∀ {ts : List Addr} {ws : List (List Nat × List Nat)}, Tps H ts ws → ts.length = ws.length
  | [], [], h => rfl
  | t :: ts, x :: xs, h => by rw [List.length_cons, List.length_cons, Tps.len h.2]
  | [], _ :: _, h => h.elim
  | _ :: _, [], h => h.elim
theorem Tps.at {H : Hp} : ∀ {ts : List Addr} {ws : List (List Nat × List Nat)} {i : Nat}, Tps H ts ws → i < ws.length → ∃ t x, ts[i]? = some t ∧ ws[i]? = some x ∧ H t = some (.tup [.str (S x.1), .str (S x.2)])
  | [], [], i, h, hi => absurd hi (by simp)
  | t :: ts, x :: xs, 0, h, hi => ⟨t, x, rfl, rfl, h.1⟩
  | t :: ts, x :: xs, i + 1, h, hi => Tps.at (i := i) h.2 (by simpa using hi)
  | [], _ :: _, i, h, hi => h.elim
  | _ :: _, [], i, h, hi => h.elim
theorem Wins.ex {H H' : Hp} {p : Addr} {ws : List (List Nat × List Nat)} (h : Wins H p ws) (e : Ex H H') : Wins H' p ws := by
  obtain ⟨ts, h1, h2⟩ := h
  exact ⟨ts, e _ _ h1, Tps.ex e h2⟩
theorem rc_isL {H : Hp} {p : Addr} {xs : List V} (h : H p = some (.lst xs)) : RC (rIsi K) [.ref p, .ty "list"] H (.bl true) := fun H1 e _ q => ⟨.ref p, .ty "list", .type "list", .type "list", true, rfl, .ty _, .base (.lst (e _ _ h)), kit_ty (by decide +kernel), q H1 (Ex.refl H1)⟩
theorem rc_isU {H : Hp} {p : Addr} {xs : List V} (h : H p = some (.tup xs)) : RC (rIsi K) [.ref p, .ty "tuple"] H (.bl true) := fun H1 e _ q => ⟨.ref p, .ty "tuple", .type "tuple", .type "tuple", true, rfl, .ty _, .base (.tup (e _ _ h)), kit_ty (by decide +kernel), q H1 (Ex.refl H1)⟩
def sp_law_listed (K : PySem.W.Frag) : Sp := fun vs H Q _ => ∃ (p t : Addr) (b a : List Nat) (z : Str), vs = [.ref p, .ref t] ∧ Wins H p (winsOf b a z) ∧ Tri H t b a z ∧ b.length ≤ 60 ∧ a.length ≤ 60 ∧ RetV (.bl true) H Q
theorem ok_law_listed (T : Tx K mg w) : OkD P w K mg base 3 d_law_listed ps_law_listed (sp_law_listed K) := by
  refine (h_law_listed T).ok sc_law_listed (fun vs H Q E h => ?_) (fun cdv A outer s H vs Q E hr h => ⟨_,
      (pss_cons (ps_set (i := 2) sc_law_listed.nd rfl (Or.inl rfl) (pe_call (ok_law_windows (P := P) (w := w) (base := base) T) (hr.mono (by decide)) (by rfl) (m_law_windows T) (k_law_windows T) (b_law_windows T) .nil passN (pa_cons (pv 1) pa_nil)))
      (pss_cons (ps_if (PW.pt (pw_or (pt_not (pt_val (pe_callB call_isi (by rfl) (m_isinstance T) (by decide +kernel) (pa_cons (pv 0) (pa_cons (pe_bltn (v := .ty "list") (u := .type "list") (by rfl) (m_list T) (by decide +kernel) rfl) pa_nil))))) (pw_or1 (pt_cmpR op_ne (pe_callB call_len (by rfl) (m_len T) (by decide +kernel) (pa_cons (pv 0) pa_nil)) (pe_callB call_len (by rfl) (m_len T) (by decide +kernel) (pa_cons (pv 2) pa_nil)) (nomark _))))) (pss_one (ps_ret pe_bl)) pss_nil)
      (pss_cons (ps_for (passes_of rfl) rfl (pi_range1 rfl (m_range T) (pa_cons (pe_callB call_len (by rfl) (m_len T) (by decide +kernel) (pa_cons (pv 2) pa_nil)) pa_nil)) (pg_name (i := 3) sc_law_listed.nd rfl (Or.inl rfl)) (pss_cons (ps_if (PW.pt (pw_or (pt_not (pt_val (pe_callB call_isi (by rfl) (m_isinstance T) (by decide +kernel) (pa_cons (pe_ix ix_list (pv 0) (pv 3) (fun _ _ => rfl)) (pa_cons (pe_bltn (v := .ty "tuple") (u := .type "tuple") (by rfl) (m_tuple T) (by decide +kernel) rfl) pa_nil))))) (pw_or1 (pt_cmpR op_ne (pe_callB call_len (by rfl) (m_len T) (by decide +kernel) (pa_cons (pe_ix ix_list (pv 0) (pv 3) (fun _ _ => rfl)) pa_nil)) pe_int (nomark _))))) (pss_one (ps_ret pe_bl)) pss_nil)
      (pss_one (ps_if (PW.pt (pw_or (pt_not (pt_val (pe_call (ok_law_text (P := P) (w := w) (base := base) T) (hr.mono (by decide)) (by rfl) (m_law_text T) (k_law_text T) (b_law_text T) .nil passN (pa_cons (pe_ix ix_tup (pe_ix ix_list (pv 0) (pv 3) (fun _ _ => rfl)) pe_int (fun _ _ => rfl)) (pa_cons (pe_ix ix_tup (pe_ix ix_list (pv 2) (pv 3) (fun _ _ => rfl)) pe_int (fun _ _ => rfl)) pa_nil))))) (pw_or1 (pt_not (pt_val (pe_call (ok_law_text (P := P) (w := w) (base := base) T) (hr.mono (by decide)) (by rfl) (m_law_text T) (k_law_text T) (b_law_text T) .nil passN (pa_cons (pe_ix ix_tup (pe_ix ix_list (pv 0) (pv 3) (fun _ _ => rfl)) pe_int (fun _ _ => rfl)) (pa_cons (pe_ix ix_tup (pe_ix ix_list (pv 2) (pv 3) (fun _ _ => rfl)) pe_int (fun _ _ => rfl)) pa_nil)))))))) (pss_one (ps_ret pe_bl)) pss_nil))))
      (pss_one (ps_ret pe_bl))))), ?_⟩)
  · obtain ⟨p, t, b, a, z, rfl, _⟩ := h
    rfl
  · obtain ⟨p, t, b, a, z, rfl, hw, ht, hb, ha, q⟩ := h
    refine ⟨_, rfl, t, b, a, z, rfl, ht, hb, ha, fun p2 H1 hp2 e1 w2 => ?_⟩
    obtain ⟨ts, h1, k1⟩ := hw.ex e1
    obtain ⟨ts2, h2, k2⟩ := w2
    have hws : (winsOf b a z).length ≤ 2 := by unfold winsOf; split <;> split <;> simp
    generalize winsOf b a z = ws at k1 k2 hws
    have l1 := k1.len
    have l2 := k2.len
    have c1 : RC (fun xs H Q => ∃ x n, xs = [x] ∧ LenV K x H n ∧ Q (.int n) H) [.ref p] H1 (.int (ws.length : Int)) := by
      have h := rc_lenL (K := K) (sq_of h1)
      rw [List.length_map, l1] at h
      exact h
    have c2 : RC (fun xs H Q => ∃ x n, xs = [x] ∧ LenV K x H n ∧ Q (.int n) H) [.ref p2] H1 (.int (ws.length : Int)) := by
      have h := rc_lenL (K := K) (sq_of h2)
      rw [List.length_map, l2] at h
      exact h
    dsimp only [gName]
    refine q_when (b := (!true || !decide ((ws.length : Int) = (ws.length : Int)))) (et_or (et_not (et_B ?_)) fun _ => et_test ?_) (fun hc => by simp at hc) (fun _ H2 e2 => ?_)
    · exact ev_cb (ea_cons (ev_var (i := 0) rfl) (ea_cons ev_c ea_nil)) (rc_isL h1)
    · exact ev_op (ev_cb (ea_cons (ev_var (i := 0) rfl) ea_nil) c1) (ev_cb (ea_cons (ev_var (i := 2) rfl) ea_nil) c2) rv_neII
    refine q_forR1 (n := (ws.length : Int)) (ea_cons (ev_cb (ea_cons (by exact ev_var rfl) ea_nil) fun H3 e Q q => c2 H3 (e2.trans e) Q q) ea_nil) (by omega) (fun i σ' H' => Ex H1 H' ∧ ∃ kv, σ' = [some (.ref p), some (.ref t), some (.ref p2), kv]) (fun H3 e3 => ⟨e2.trans e3, none, rfl⟩) ?_ ?_
    · rintro i σ' H' hi ⟨e, kv, rfl⟩
      obtain ⟨t1, x1, a1, w1, g1⟩ := k1.at (i := i) (by omega)
      obtain ⟨t2, x2, a2, w2, g2⟩ := k2.at (i := i) (by omega)
      rw [w1] at w2
      cases w2
      have i1 : ∀ H3, Ex H1 H3 → Ev (tOp (rIxL K) (tVar 0) (tVar 3)) [some (.ref p), some (.ref t), some (.ref p2), some (.int (i : Int))] H3 (.ref t1) := fun H3 e3 => ev_op (ev_var rfl) (ev_var rfl) (rv_ixL (sq_of (e3 _ _ h1)) (atI_nat (by rw [List.getElem?_map, a1]; rfl)))
      have i2 : ∀ H3, Ex H1 H3 → Ev (tOp (rIxL K) (tVar 2) (tVar 3)) [some (.ref p), some (.ref t), some (.ref p2), some (.int (i : Int))] H3 (.ref t2) := fun H3 e3 => ev_op (ev_var rfl) (ev_var rfl) (rv_ixL (sq_of (e3 _ _ h2)) (atI_nat (by rw [List.getElem?_map, a2]; rfl)))
      refine q_when (b := (!true || !decide ((2 : Int) = 2))) (et_or (et_not (et_B (ev_cb (ea_cons (i1 _ e) (ea_cons ev_c ea_nil)) (rc_isU (e _ _ g1))))) fun _ => et_test (ev_op (ev_cb (ea_cons (i1 _ e) ea_nil) (rc_lenT (K := K) (st_of (e _ _ g1)))) ev_c rv_neII)) (fun hc => by simp at hc) (fun _ H3 e3 => ?_)
      have e4 := e.trans e3
      refine s_when (b := (!true || !true)) (et_or (et_not (et_test (ev_text (ev_op (i1 _ e4) ev_c (rv_ixT (st_of (e4 _ _ g1)) rfl)) (ev_op (i2 _ e4) ev_c (rv_ixT (st_of (e4 _ _ g2)) rfl)) rfl))) fun _ => et_not (et_test (ev_text (ev_op (i1 _ e4) ev_c (rv_ixT (st_of (e4 _ _ g1)) rfl)) (ev_op (i2 _ e4) ev_c (rv_ixT (st_of (e4 _ _ g2)) rfl)) rfl))) (fun hc => by cases hc) (fun _ H5 e5 => ⟨e4.trans e5, _, rfl⟩)
    · rintro σ' H' ⟨e, kv, rfl⟩
      exact s_ret (by exact ev_c) fun H3 e3 => q H3 ((e1.trans e).trans e3)
end
end K03
namespace K03
open PySem PySem.Spec PyProof.Rows L2 Lc Evl
section
variable {P : Program} {w : World} {K : PySem.W.Frag} {mg : Str → Option Value} {base : Heap}
/-! ### jumps made in three ways -/
theorem kb_Jump_init (T : Tx K mg w) : ∃ its : List Value, KBn K (fdOf K (d_Jump_init.at_ K)) ps_Jump_init 3 ["ways"] (fun us ws => us ++ ws) (fun vs zs => vs ++ zs) :=
  FunD.kbindsD (ps := ps_Jump_init) (h_Jump_init T) 3 ["ways"] (fun us _ ws => us ++ ws) (by simp [He5.DefA.dvs, d_Jump_init]) (fun r1 _ r3 => r1.append r3) fun T kV doc pm an cdv ct us its ws h1 h2 h3 => match us, its, ws, h1, h2, h3 with
    | [_, _, _], [_], [_], _, _, _ => ⟨_, rfl, rfl⟩
theorem jump_made {H H2 : Hp} {x dx : Addr} {b a : List Nat} {z : Str} {Q : VK} {E : XK} (e : Ex H H2) (hx : H2 x = none) (hd : H2 dx = none) (hdx : dx ≠ x) (hb : b.length ≤ 60) (ha : a.length ≤ 60) (hl : Low b)
    (q1 : isJ b a z = true → ∀ p H', H p = none → Ex H H' → IsJ K H' p b a z → Q (.ref p) H') (q2 : isJ b a z = false → BadJ K H E (S b)) :
    sp_Jump_init K [.ref x, .str (S b), .str (S a), .str z] (upd (upd H2 dx (.own x)) x (.ins (cU K) dx [])) (fun v H' => v = .non ∧ Q (.ref x) H') E := by
  have ex : Ex H (upd (upd H2 dx (.own x)) x (.ins (cU K) dx [])) := Ex.mut (Ex.mut e (fresh_back e hd)) (fresh_back e hx)
  refine ⟨x, dx, b, a, z, rfl, by omega, by omega, hl, upd_same, fun hi H' eb hj => ⟨rfl, q1 hi x H' (fresh_back e hx) ?_ hj⟩, fun hn => (q2 hn).ex ex⟩
  intro c o ho
  have ho2 := e c o ho
  have n1 : c ≠ x := fun z => by rw [z, hx] at ho2; cases ho2
  exact eb c o n1 (ex c o ho)
def sp_law_made (K : PySem.W.Frag) : Sp := fun vs H Q E => ∃ (t : Addr) (f : Int) (b a : List Nat) (z : Str), vs = [.ref t, .int f] ∧ Tri H t b a z ∧ b.length ≤ 60 ∧ a.length ≤ 60 ∧ Low b ∧
  (isJ b a z = true → ∀ p H', H p = none → Ex H H' → IsJ K H' p b a z → Q (.ref p) H') ∧ (isJ b a z = false → BadJ K H E (S b))
theorem ok_law_made (T : Tx K mg w) : OkD P w K mg base 5 d_law_made ps_law_made (sp_law_made K) := by
  obtain ⟨ds, vd, bd⟩ := b2_Jump_init T
  obtain ⟨its, kb⟩ := kb_Jump_init T
  refine (h_law_made T).ok sc_law_made (fun vs H Q E h => ?_) (fun cdv A outer s H vs Q E hr h => ⟨_,
      (pss_cons (ps_if (PW.pt (pw_and (pt_cmpR op_eq (pv 1) pe_int (nomark _)) (pw_and1 (pt_cmpR op_eq (pe_ix ix_tup (pv 0) pe_int (fun _ _ => rfl)) pe_str (nomark _))))) (pss_one (ps_ret (pe_make (mk_Jump T) (ok_Jump_init (P := P) (w := w) (base := base) T) (hr.mono (by decide)) (by rfl) (m_Jump T) bd vd (passX (L2N.takes_of rfl rfl rfl rfl)) (pa_cons (pe_ix ix_tup (pv 0) pe_int (fun _ _ => rfl)) (pa_cons (pe_ix ix_tup (pv 0) pe_int (fun _ _ => rfl)) pa_nil))))) pss_nil)
      (pss_cons (ps_if (pt_cmpR op_eq (pv 1) pe_int (nomark _)) (pss_one (ps_ret (pe_makeN (mk_Jump T) (ok_Jump_init (P := P) (w := w) (base := base) T) (hr.mono (by decide)) (by rfl) (m_Jump T) kb (passX (L2N.takes_of rfl rfl rfl rfl)) (pa_cons (pe_ix ix_tup (pv 0) pe_int (fun _ _ => rfl)) (pa_cons (pe_ix ix_tup (pv 0) pe_int (fun _ _ => rfl)) pa_nil)) (pk_cons (pe_ix ix_tup (pv 0) pe_int (fun _ _ => rfl)) pk_nil)))) pss_nil)
      (pss_one (ps_ret (pe_make (mk_Jump T) (ok_Jump_init (P := P) (w := w) (base := base) T) (hr.mono (by decide)) (by rfl) (m_Jump T) (b_Jump_init T) .nil (passX (L2N.takes_of rfl rfl rfl rfl)) (pa_cons (pe_ix ix_tup (pv 0) pe_int (fun _ _ => rfl)) (pa_cons (pe_ix ix_tup (pv 0) pe_int (fun _ _ => rfl)) (pa_cons (pe_ix ix_tup (pv 0) pe_int (fun _ _ => rfl)) pa_nil)))))))), ?_⟩)
  · obtain ⟨t, f, b, a, z, rfl, _⟩ := h
    rfl
  · obtain ⟨t, f, b, a, z, rfl, ht, hb, ha, hl, q1, q2⟩ := h
    refine q_when (b := (decide (f = 0) && decide (z = "right"))) (et_and (et_test (by repeat' (first | ((with_reducible refine ev_pow10 ?_ ?_ ?_) <;> first | rfl | decide) | (with_reducible refine fun (_ : _ = true) => ?_) | (with_reducible refine fun (_ : _ = false) => ?_) | (with_reducible exact ev_c) | ((with_reducible apply ev_var); rfl) | (with_reducible apply ev_op) | (with_reducible apply ev_un) | (with_reducible apply ev_cb) | (with_reducible apply ea_cons) | (with_reducible apply ev_andV) | (with_reducible apply ev_orV) | (with_reducible apply ev_notV) | (with_reducible apply ev_if) | (with_reducible apply eo_some) | (with_reducible apply el_lst) | (with_reducible exact ea_nil) | (with_reducible exact rv_I0) | (with_reducible exact ru_neg) | (with_reducible exact rv_ltS) | (with_reducible exact rv_inC) | (with_reducible exact rv_notInC) | (with_reducible exact rc_intI) | (with_reducible exact rc_intB) | (with_reducible exact rc_min2) | (with_reducible exact rc_isStr) | (with_reducible exact eo_none) | (with_reducible exact rv_inSS) | (with_reducible exact rv_notInSS) | (with_reducible exact rv_ltSS) | (with_reducible exact rv_eqSS) | (with_reducible exact rv_eqII) | (with_reducible exact rv_neII) | (with_reducible exact rv_neSS) | ((with_reducible refine rc_lenSS ?_); (first | assumption | omega | decide | (simp only [S_len] at *; omega))) | ((with_reducible refine rc_lenStr ?_); (first | assumption | omega | decide | (simp only [S_len] at *; omega))) | ((with_reducible refine rv_catSS ?_); (first | assumption | omega | decide | (simp only [S_len] at *; omega))) | (with_reducible exact rv_eq rfl) | (with_reducible exact rv_ne rfl) | ((with_reducible refine rc_lenS ?_); (first | assumption | omega | decide | (simp only [S_len] at *; omega))) | ((with_reducible refine rc_lenL ?_); assumption) | ((with_reducible apply rv_ixL); assumption; rfl) | ((with_reducible refine rv_catS ?_); (first | assumption | omega | decide | (simp only [S_len] at *; omega))) | ((with_reducible refine rv_I ?_); (first | (show (0 : Int) < _; (first | assumption | omega | decide | (simp only [S_len] at *; omega))) | exact .inr ⟨by decide, by decide⟩ | exact .inl ⟨by (first | assumption | omega | decide | (simp only [S_len] at *; omega)), by (first | assumption | omega | decide | (simp only [S_len] at *; omega))⟩ | exact .inr ⟨by (first | assumption | omega | decide | (simp only [S_len] at *; omega)), by (first | assumption | omega | decide | (simp only [S_len] at *; omega))⟩ | exact ⟨by decide, by decide, by decide⟩ | exact wide_div (b := 128) (by (first | assumption | omega | decide | (simp only [S_len] at *; omega))) (by (first | assumption | omega | decide | (simp only [S_len] at *; omega))) (by decide) (by decide)))))) fun _ => et_test (ev_op (ev_t2 (te := tVar 0) (by exact ev_var rfl) ht) ev_c rv_eqTT)) (fun hc H1 e1 => ?_) (fun hc H1 e1 => ?_)
    · have hz : z = "right" := by
        simp only [Bool.and_eq_true, decide_eq_true_eq] at hc
        exact hc.2
      refine ret_fst ?_
      refine (ea_cons (ev_t0 (te := tVar 0) (by exact ev_var rfl) (ht.ex e1)) (ea_cons (ev_t1 (te := tVar 0) (by exact ev_var rfl) (ht.ex e1)) ea_nil)) H1 (Ex.refl H1) _ fun H2 e2 x dx hx hd hdx => ?_
      rw [hz] at q1 q2
      exact jump_made (e1.trans e2) hx hd hdx hb ha hl q1 q2
    refine q_when (b := decide (f = 1)) (by first | ((with_reducible apply et_test); (repeat' (first | ((with_reducible refine ev_pow10 ?_ ?_ ?_) <;> first | rfl | decide) | (with_reducible refine fun (_ : _ = true) => ?_) | (with_reducible refine fun (_ : _ = false) => ?_) | (with_reducible exact ev_c) | ((with_reducible apply ev_var); rfl) | (with_reducible apply ev_op) | (with_reducible apply ev_un) | (with_reducible apply ev_cb) | (with_reducible apply ea_cons) | (with_reducible apply ev_andV) | (with_reducible apply ev_orV) | (with_reducible apply ev_notV) | (with_reducible apply ev_if) | (with_reducible apply eo_some) | (with_reducible apply el_lst) | (with_reducible exact ea_nil) | (with_reducible exact rv_I0) | (with_reducible exact ru_neg) | (with_reducible exact rv_ltS) | (with_reducible exact rv_inC) | (with_reducible exact rv_notInC) | (with_reducible exact rc_intI) | (with_reducible exact rc_intB) | (with_reducible exact rc_min2) | (with_reducible exact rc_isStr) | (with_reducible exact eo_none) | (with_reducible exact rv_inSS) | (with_reducible exact rv_notInSS) | (with_reducible exact rv_ltSS) | (with_reducible exact rv_eqSS) | (with_reducible exact rv_eqII) | (with_reducible exact rv_neII) | (with_reducible exact rv_neSS) | ((with_reducible refine rc_lenSS ?_); (first | assumption | omega | decide | (simp only [S_len] at *; omega))) | ((with_reducible refine rc_lenStr ?_); (first | assumption | omega | decide | (simp only [S_len] at *; omega))) | ((with_reducible refine rv_catSS ?_); (first | assumption | omega | decide | (simp only [S_len] at *; omega))) | (with_reducible exact rv_eq rfl) | (with_reducible exact rv_ne rfl) | ((with_reducible refine rc_lenS ?_); (first | assumption | omega | decide | (simp only [S_len] at *; omega))) | ((with_reducible refine rc_lenL ?_); assumption) | ((with_reducible apply rv_ixL); assumption; rfl) | ((with_reducible refine rv_catS ?_); (first | assumption | omega | decide | (simp only [S_len] at *; omega))) | ((with_reducible refine rv_I ?_); (first | (show (0 : Int) < _; (first | assumption | omega | decide | (simp only [S_len] at *; omega))) | exact .inr ⟨by decide, by decide⟩ | exact .inl ⟨by (first | assumption | omega | decide | (simp only [S_len] at *; omega)), by (first | assumption | omega | decide | (simp only [S_len] at *; omega))⟩ | exact .inr ⟨by (first | assumption | omega | decide | (simp only [S_len] at *; omega)), by (first | assumption | omega | decide | (simp only [S_len] at *; omega))⟩ | exact ⟨by decide, by decide, by decide⟩ | exact wide_div (b := 128) (by (first | assumption | omega | decide | (simp only [S_len] at *; omega))) (by (first | assumption | omega | decide | (simp only [S_len] at *; omega))) (by decide) (by decide)))))) | ((with_reducible apply et_B); (repeat' (first | ((with_reducible refine ev_pow10 ?_ ?_ ?_) <;> first | rfl | decide) | (with_reducible refine fun (_ : _ = true) => ?_) | (with_reducible refine fun (_ : _ = false) => ?_) | (with_reducible exact ev_c) | ((with_reducible apply ev_var); rfl) | (with_reducible apply ev_op) | (with_reducible apply ev_un) | (with_reducible apply ev_cb) | (with_reducible apply ea_cons) | (with_reducible apply ev_andV) | (with_reducible apply ev_orV) | (with_reducible apply ev_notV) | (with_reducible apply ev_if) | (with_reducible apply eo_some) | (with_reducible apply el_lst) | (with_reducible exact ea_nil) | (with_reducible exact rv_I0) | (with_reducible exact ru_neg) | (with_reducible exact rv_ltS) | (with_reducible exact rv_inC) | (with_reducible exact rv_notInC) | (with_reducible exact rc_intI) | (with_reducible exact rc_intB) | (with_reducible exact rc_min2) | (with_reducible exact rc_isStr) | (with_reducible exact eo_none) | (with_reducible exact rv_inSS) | (with_reducible exact rv_notInSS) | (with_reducible exact rv_ltSS) | (with_reducible exact rv_eqSS) | (with_reducible exact rv_eqII) | (with_reducible exact rv_neII) | (with_reducible exact rv_neSS) | ((with_reducible refine rc_lenSS ?_); (first | assumption | omega | decide | (simp only [S_len] at *; omega))) | ((with_reducible refine rc_lenStr ?_); (first | assumption | omega | decide | (simp only [S_len] at *; omega))) | ((with_reducible refine rv_catSS ?_); (first | assumption | omega | decide | (simp only [S_len] at *; omega))) | (with_reducible exact rv_eq rfl) | (with_reducible exact rv_ne rfl) | ((with_reducible refine rc_lenS ?_); (first | assumption | omega | decide | (simp only [S_len] at *; omega))) | ((with_reducible refine rc_lenL ?_); assumption) | ((with_reducible apply rv_ixL); assumption; rfl) | ((with_reducible refine rv_catS ?_); (first | assumption | omega | decide | (simp only [S_len] at *; omega))) | ((with_reducible refine rv_I ?_); (first | (show (0 : Int) < _; (first | assumption | omega | decide | (simp only [S_len] at *; omega))) | exact .inr ⟨by decide, by decide⟩ | exact .inl ⟨by (first | assumption | omega | decide | (simp only [S_len] at *; omega)), by (first | assumption | omega | decide | (simp only [S_len] at *; omega))⟩ | exact .inr ⟨by (first | assumption | omega | decide | (simp only [S_len] at *; omega)), by (first | assumption | omega | decide | (simp only [S_len] at *; omega))⟩ | exact ⟨by decide, by decide, by decide⟩ | exact wide_div (b := 128) (by (first | assumption | omega | decide | (simp only [S_len] at *; omega))) (by (first | assumption | omega | decide | (simp only [S_len] at *; omega))) (by decide) (by decide))))))) (fun hc H2 e2 => ?_) (fun hc H2 e2 => ?_)
    · refine ret_fst ?_
      refine (ea_cons (ev_t0 (te := tVar 0) (by exact ev_var rfl) (ht.ex (e1.trans e2))) (ea_cons (ev_t1 (te := tVar 0) (by exact ev_var rfl) (ht.ex (e1.trans e2))) ea_nil)) H2 (Ex.refl H2) _ fun H3 e3 => ?_
      refine (ea_cons (ev_t2 (te := tVar 0) (by exact ev_var rfl) (ht.ex ((e1.trans e2).trans e3))) ea_nil) H3 (Ex.refl H3) _ fun H4 e4 => ⟨rfl, rfl, fun x dx hx hd hdx => ?_⟩
      exact jump_made (((e1.trans e2).trans e3).trans e4) hx hd hdx hb ha hl q1 q2
    · refine ret_fst ?_
      refine (ea_cons (ev_t0 (te := tVar 0) (by exact ev_var rfl) (ht.ex (e1.trans e2))) (ea_cons (ev_t1 (te := tVar 0) (by exact ev_var rfl) (ht.ex (e1.trans e2))) (ea_cons (ev_t2 (te := tVar 0) (by exact ev_var rfl) (ht.ex (e1.trans e2))) ea_nil))) H2 (Ex.refl H2) _ fun H3 e3 x dx hx hd hdx => ?_
      exact jump_made ((e1.trans e2).trans e3) hx hd hdx hb ha hl q1 q2
end
end K03
namespace K03
open PySem PySem.Spec PyProof.Rows L2 Lc Evl
section
variable {P : Program} {w : World} {K : PySem.W.Frag} {mg : Str → Option Value} {base : Heap}
/-! ### a jump asked -/
def EvW (te : TE) (σ : L2.St) (H : Hp) (ws : List (List Nat × List Nat)) : Prop := ∀ H1, Ex H H1 → ∀ Q : VK, (∀ p H2, H1 p = none → Ex H1 H2 → Wins H2 p ws → Q (.ref p) H2) → te σ H1 Q
theorem ev_windows {σ : L2.St} {H : Hp} {te : TE} {j : Addr} {b a : List Nat} {z : Str} (h : Ev te σ H (.ref j)) (hj : IsJ K H j b a z) (hi : isJ b a z = true) : EvW (tMeth (cU K) "windows" (sp_Jump_windows K) [] E0 te tNil) σ H (winsOf b a z) := fun H1 e Q q =>
  h H1 e _ fun H2 e2 => by
    obtain ⟨dx, h1⟩ := id hj
    exact ⟨j, dx, _, rfl, (e.trans e2) _ _ h1, rfl, j, b, a, z, rfl, hj.ex (e.trans e2), hi, fun p H3 hp e3 hw => q p H3 (fresh_back e2 hp) (e2.trans e3) hw⟩
theorem ev_mirrored {σ : L2.St} {H : Hp} {te : TE} {j : Addr} {b a : List Nat} {z : Str} (h : Ev te σ H (.ref j)) (hj : IsJ K H j b a z) (hi : isJ b a z = true) : EvJ K (tMeth (cU K) "mirrored" (sp_Jump_mirrored K) [] E0 te tNil) σ H b a (oth z) := fun H1 e Q q =>
  h H1 e _ fun H2 e2 => by
    obtain ⟨dx, h1⟩ := id hj
    exact ⟨j, dx, _, rfl, (e.trans e2) _ _ h1, rfl, j, b, a, z, rfl, hj.ex (e.trans e2), hi, fun p H3 hp e3 hw => q p H3 (fresh_back e2 hp) (e2.trans e3) hw⟩
theorem ev_shown {σ : L2.St} {H : Hp} {te tb : TE} {j t : Addr} {b a : List Nat} {z : Str} (h1 : Ev te σ H (.ref j)) (h2 : Ev tb σ H (.ref t)) (hj : IsJ K H j b a z) (ht : Tri H t b a z) (hi : isJ b a z = true) : Ev (tCall (sp_law_shown K) [] E0 (tCons te (tCons tb tNil))) σ H (.bl true) :=
  ev_call (ea_cons h1 (ea_cons h2 ea_nil)) fun H1 e1 Q q E => ⟨j, t, b, a, z, rfl, hj.ex e1, ht.ex e1, hi, q⟩
theorem ev_shownJ {σ : L2.St} {H : Hp} {te tb : TE} {t : Addr} {b a : List Nat} {z : Str} (h1 : EvJ K te σ H b a z) (h2 : Ev tb σ H (.ref t)) (ht : Tri H t b a z) (hi : isJ b a z = true) : Ev (tCall (sp_law_shown K) [] E0 (tCons te (tCons tb tNil))) σ H (.bl true) := fun H1 e Q q =>
  h1 H1 e _ fun p H2 _ e2 hj => h2 H2 (e.trans e2) _ fun H3 e3 => ⟨p, t, b, a, z, rfl, hj.ex e3, ht.ex ((e.trans e2).trans e3), hi, fun H4 e4 => q H4 ((e2.trans e3).trans e4)⟩
theorem ev_listed {σ : L2.St} {H : Hp} {te tb : TE} {p t : Addr} {b a : List Nat} {z : Str} (h1 : Ev te σ H (.ref p)) (h2 : Ev tb σ H (.ref t)) (hw : Wins H p (winsOf b a z)) (ht : Tri H t b a z) (hi : isJ b a z = true) : Ev (tCall (sp_law_listed K) [] E0 (tCons te (tCons tb tNil))) σ H (.bl true) :=
  ev_call (ea_cons h1 (ea_cons h2 ea_nil)) fun H1 e1 Q q E => by
    obtain ⟨_, hb, hab, _, _⟩ := isJ_parts hi
    exact ⟨p, t, b, a, z, rfl, hw.ex e1, ht.ex e1, by omega, by omega, q⟩
theorem ev_listedW {σ : L2.St} {H : Hp} {te tb : TE} {t : Addr} {b a : List Nat} {z : Str} (h1 : EvW te σ H (winsOf b a z)) (h2 : Ev tb σ H (.ref t)) (ht : Tri H t b a z) (hi : isJ b a z = true) : Ev (tCall (sp_law_listed K) [] E0 (tCons te (tCons tb tNil))) σ H (.bl true) := fun H1 e Q q =>
  h1 H1 e _ fun p H2 _ e2 hw => h2 H2 (e.trans e2) _ fun H3 e3 => by
    obtain ⟨_, hb, hab, _, _⟩ := isJ_parts hi
    exact ⟨p, t, b, a, z, rfl, hw.ex e3, ht.ex ((e.trans e2).trans e3), by omega, by omega, fun H4 e4 => q H4 ((e2.trans e3).trans e4)⟩
theorem rv_eqJ {H : Hp} {j k : Addr} {b a b2 a2 : List Nat} {z z2 : Str} (h1 : IsJ K H j b a z) (h2 : IsJ K H k b2 a2 z2) : RV (rEqOwn (cU K) (sp_Jump_eq K) E0) (.ref j) (.ref k) H (.bl (decide (b = b2) && (decide (a = a2) && decide (z = z2)))) := fun H1 e Q q => by
  obtain ⟨dx, g1⟩ := id h1
  obtain ⟨dy, g2⟩ := id h2
  exact ⟨j, dx, _, k, dy, _, rfl, e _ _ g1, rfl, e _ _ g2, j, k, b, a, b2, a2, z, z2, rfl, h1.ex e, h2.ex e, fun H2 e2 => ⟨_, rfl, q H2 e2⟩⟩
theorem rv_neBB {H : Hp} {a b : Bool} (h : a = b) : RV rNe (.bl a) (.bl b) H (.bl (!true)) := by
  have h2 := rv_ne (H := H) (x := .bl a) (y := .bl b) rfl
  rw [decide_eq_true (by rw [h])] at h2
  exact h2
theorem oth_oth {z : Str} (h : z ∈ wys) : oth (oth z) = z := by
  simp only [wys, List.mem_cons, List.not_mem_nil, or_false] at h
  rcases h with rfl | rfl | rfl <;> decide +kernel
theorem oth_both {z : Str} (h : z ∈ wys) : decide (oth z = z) = decide (z = "both") := by
  simp only [wys, List.mem_cons, List.not_mem_nil, or_false] at h
  rcases h with rfl | rfl | rfl <;> decide +kernel
theorem q_setU {σ : L2.St} {H : Hp} {te ta tb : TE} {tz : TS} {D : Ends} {l : Addr} {xs ys : List V} {j : Nat} (hl : H l = some (.lst xs)) (h : EvU te σ H ys) (ho : Ev ta σ H (.ref l)) (hi : Ev tb σ H (.int (j : Int))) (hj : j < xs.length)
    (k : ∀ p H1, H p = none → Ex H H1 → H1 p = some (.tup ys) → tz D σ (upd H1 l (.lst (xs.set j (.ref p))))) : tSeq (tAsg te (gSub ta tb rSetL)) tz D σ H :=
  h H (Ex.refl H) _ fun p H1 hp e1 h1 => ho H1 e1 _ fun H2 e2 => hi H2 (e1.trans e2) _ fun H3 e3 => ⟨l, xs, (j : Int), j, rfl, rfl, ((e1.trans e2).trans e3) l _ hl, ixN_nat hj, k p H3 hp ((e1.trans e2).trans e3) ((e2.trans e3) _ _ h1)⟩
def sp_law_jump_asked (K : PySem.W.Frag) : Sp := fun vs H Q _ => ∃ (j t : Addr) (b a : List Nat) (z : Str), vs = [.ref j, .ref t] ∧ IsJ K H j b a z ∧ Tri H t b a z ∧ isJ b a z = true ∧ RetV (.bl true) H Q
theorem ok_law_jump_asked (T : Tx K mg w) : OkD P w K mg base 6 d_law_jump_asked ps_law_jump_asked (sp_law_jump_asked K) := by
  refine (h_law_jump_asked T).ok sc_law_jump_asked (fun vs H Q E h => ?_) (fun cdv A outer s H vs Q E hr h => ⟨_,
      (pss_cons (ps_set (i := 2) sc_law_jump_asked.nd rfl (Or.inl rfl) (pe_meth0 (pv 0) (c_Jump T) (me_Jump_windows T) (ok_Jump_windows (P := P) (w := w) (base := base) T) (hr.mono (by decide)) (b_Jump_windows T) .nil passN))
      (pss_cons (ps_if (PW.pt (pw_or (pt_not (pt_val (pe_call (ok_law_shown (P := P) (w := w) (base := base) T) (hr.mono (by decide)) (by rfl) (m_law_shown T) (k_law_shown T) (b_law_shown T) .nil passN (pa_cons (pv 0) (pa_cons (pv 1) pa_nil))))) (pw_or1 (pt_not (pt_val (pe_call (ok_law_listed (P := P) (w := w) (base := base) T) (hr.mono (by decide)) (by rfl) (m_law_listed T) (k_law_listed T) (b_law_listed T) .nil passN (pa_cons (pv 2) (pa_cons (pv 1) pa_nil)))))))) (pss_one (ps_ret pe_bl)) pss_nil)
      (pss_cons (ps_expr (pe_bm PySem.F.plainAttrs_list PySem.F.slot_list_append PySem.F.type_list_append mt_append (pv 2) (pa_cons (pe_tup (pa_cons pe_str (pa_cons pe_str pa_nil))) pa_nil)))
      (pss_cons (ps_asg (pe_tup (pa_cons pe_str (pa_cons pe_str pa_nil))) (pg_sub (pv 2) pe_int set_list))
      (pss_cons (ps_set (i := 3) sc_law_jump_asked.nd rfl (Or.inl rfl) (pe_meth0 (pv 0) (c_Jump T) (me_Jump_mirrored T) (ok_Jump_mirrored (P := P) (w := w) (base := base) T) (hr.mono (by decide)) (b_Jump_mirrored T) .nil passN))
      (pss_cons (ps_set (i := 4) sc_law_jump_asked.nd rfl (Or.inl rfl) (pe_call (ok_law_swapped (P := P) (w := w) (base := base) T) (hr.mono (by decide)) (by rfl) (m_law_swapped T) (k_law_swapped T) (b_law_swapped T) .nil passN (pa_cons (pv 1) pa_nil)))
      (pss_cons (ps_if (PW.pt (pw_or (pt_not (pt_val (pe_call (ok_law_shown (P := P) (w := w) (base := base) T) (hr.mono (by decide)) (by rfl) (m_law_shown T) (k_law_shown T) (b_law_shown T) .nil passN (pa_cons (pv 3) (pa_cons (pv 4) pa_nil))))) (pw_or1 (pt_not (pt_val (pe_call (ok_law_listed (P := P) (w := w) (base := base) T) (hr.mono (by decide)) (by rfl) (m_law_listed T) (k_law_listed T) (b_law_listed T) .nil passN (pa_cons (pe_meth0 (pv 3) (c_Jump T) (me_Jump_windows T) (ok_Jump_windows (P := P) (w := w) (base := base) T) (hr.mono (by decide)) (b_Jump_windows T) .nil passN) (pa_cons (pv 4) pa_nil)))))))) (pss_one (ps_ret pe_bl)) pss_nil)
      (pss_cons (ps_if (PW.pt (pw_or (pt_not (pt_val (pe_call (ok_law_shown (P := P) (w := w) (base := base) T) (hr.mono (by decide)) (by rfl) (m_law_shown T) (k_law_shown T) (b_law_shown T) .nil passN (pa_cons (pe_meth0 (pv 3) (c_Jump T) (me_Jump_mirrored T) (ok_Jump_mirrored (P := P) (w := w) (base := base) T) (hr.mono (by decide)) (b_Jump_mirrored T) .nil passN) (pa_cons (pv 1) pa_nil))))) (pw_or1 (pt_cmpR op_ne (pe_cmpR (op_eqOwn (ok_Jump_eq (P := P) (w := w) (base := base) T) (hr.mono (by decide)) (me_Jump_eq T).at_ (me_Jump_eq T).fn (b_Jump_eq T) passN) (pv 3) (pv 0) (nomark _)) (pe_cmpR op_eq (pe_ix ix_tup (pv 1) pe_int (fun _ _ => rfl)) pe_str (nomark _)) (nomark _))))) (pss_one (ps_ret pe_bl)) pss_nil)
      (pss_one (ps_ret (pe_and (pe_call (ok_law_shown (P := P) (w := w) (base := base) T) (hr.mono (by decide)) (by rfl) (m_law_shown T) (k_law_shown T) (b_law_shown T) .nil passN (pa_cons (pv 0) (pa_cons (pv 1) pa_nil))) (pe_one (pe_call (ok_law_listed (P := P) (w := w) (base := base) T) (hr.mono (by decide)) (by rfl) (m_law_listed T) (k_law_listed T) (b_law_listed T) .nil passN (pa_cons (pe_meth0 (pv 0) (c_Jump T) (me_Jump_windows T) (ok_Jump_windows (P := P) (w := w) (base := base) T) (hr.mono (by decide)) (b_Jump_windows T) .nil passN) (pa_cons (pv 1) pa_nil))))))))))))))), ?_⟩)
  · obtain ⟨j, t, b, a, z, rfl, _⟩ := h
    rfl
  · obtain ⟨j, t, b, a, z, rfl, hj, ht, hi, q⟩ := h
    obtain ⟨hz, hb, hab, _, _⟩ := isJ_parts hi
    refine q_first (ev_windows (te := tVar 0) (by exact ev_var rfl) hj hi H (Ex.refl H) _ fun p H1 hp e1 w1 => ?_)
    have hj1 := hj.ex e1
    have ht1 := ht.ex e1
    refine q_when (b := (!true || !true)) (et_or (et_not (et_test (ev_shown (te := tVar 0) (tb := tVar 1) (by exact ev_var rfl) (by exact ev_var rfl) hj1 ht1 hi))) fun _ => et_not (et_test (ev_listed (te := tVar 2) (tb := tVar 1) (by exact ev_var rfl) (by exact ev_var rfl) w1 ht1 hi))) (fun hc => by cases hc) (fun _ H2 e2 => ?_)
    obtain ⟨ts, h1, k1⟩ := id w1
    have h2 := e2 _ _ h1
    have hts : ts.length ≤ 2 := by
      rw [k1.len]
      unfold winsOf
      split <;> split <;> simp
    refine q_appU h2 (by exact ev_var rfl) (eu_tup (ea_cons ev_c (ea_cons ev_c ea_nil)) (by simp)) (by rw [List.length_map]; omega) fun u H3 hu e3 h3 => ?_
    have E3 : Ex H (upd H3 p (.lst (ts.map V.ref ++ [.ref u]))) := Ex.mut ((e1.trans e2).trans e3) hp
    have p3 : upd H3 p (.lst (ts.map V.ref ++ [.ref u])) p = some (.lst (ts.map V.ref ++ [.ref u])) := upd_same
    generalize upd H3 p (.lst (ts.map V.ref ++ [.ref u])) = H4 at E3 p3
    refine q_setU (j := 0) p3 (eu_tup (ea_cons ev_c (ea_cons ev_c ea_nil)) (by simp)) (by exact ev_var rfl) ev_c (by simp) fun u2 H5 hu2 e5 h5 => ?_
    have E5 := Ex.mut (o := HO.lst (List.set (ts.map V.ref ++ [V.ref u]) 0 (V.ref u2))) (E3.trans e5) hp
    generalize upd H5 p (HO.lst (List.set (ts.map V.ref ++ [V.ref u]) 0 (V.ref u2))) = H6 at E5 ⊢
    clear p3 h5 e5 E3 h3 e3 h2 e2 h1 k1 w1 hj1 ht1 e1 hu hu2
    have hj6 := hj.ex E5
    have ht6 := ht.ex E5
    refine q_asgJ (ev_mirrored (te := tVar 0) (by exact ev_var rfl) hj6 hi) fun m H7 hm e7 hm7 => ?_
    have hj7 := hj6.ex e7
    have ht7 := ht6.ex e7
    have hi2 := isJ_way hi (oth_in hz)
    refine q_first (cons_fst ?_)
    refine ⟨_, rfl, t, b, a, z, rfl, ht7, hz, fun t2 H8 ht2 e8 ht8 => ?_⟩
    dsimp only
    have hj8 := hj7.ex e8
    have hm8 := hm7.ex e8
    have ho8 := ht7.ex e8
    refine q_when (b := (!true || !true)) (et_or (et_not (et_test (ev_shown (te := tVar 3) (tb := tVar 4) (by exact ev_var rfl) (by exact ev_var rfl) hm8 ht8 hi2))) fun _ => et_not (et_test (ev_listedW (ev_windows (te := tVar 3) (by exact ev_var rfl) hm8 hi2) (tb := tVar 4) (by exact ev_var rfl) ht8 hi2))) (fun hc => by cases hc) (fun _ H9 e9 => ?_)
    have hj9 := hj8.ex e9
    have hm9 := hm8.ex e9
    have ho9 := ho8.ex e9
    refine q_when (b := (!true || !true)) (et_or (et_not (et_test (ev_shownJ (z := z) (by have h := ev_mirrored (te := tVar 3) (σ := [some (.ref j), some (.ref t), some (.ref p), some (.ref m), some (.ref t2)]) (ev_var rfl) hm9 hi2; rw [oth_oth hz] at h; exact h) (tb := tVar 1) (by exact ev_var rfl) ho9 hi))) fun _ => et_test (ev_op (ev_op (ta := tVar 3) (tb := tVar 0) (by exact ev_var rfl) (by exact ev_var rfl) (rv_eqJ hm9 hj9)) (ev_op (ev_t2 (te := tVar 1) (by exact ev_var rfl) ho9) ev_c rv_eqTT) (rv_neBB (by rw [decide_eq_true rfl, decide_eq_true rfl, Bool.true_and, Bool.true_and]; exact oth_both hz)))) (fun hc => by cases hc) (fun _ H10 e10 => ?_)
    have hj10 := hj9.ex e10
    have ho10 := ho9.ex e10
    refine s_ret (v := .bl (true && true)) (ev_andV (ev_shown (te := tVar 0) (tb := tVar 1) (by exact ev_var rfl) (by exact ev_var rfl) hj10 ho10 hi) fun _ => ev_listedW (ev_windows (te := tVar 0) (by exact ev_var rfl) hj10 hi) (tb := tVar 1) (by exact ev_var rfl) ho10 hi) fun H11 e11 => ?_
    exact q H11 (((((E5.trans e7).trans e8).trans e9).trans e10).trans e11)
end
end K03
namespace K03
open PySem PySem.Spec PyProof.Rows L2 Lc Evl
section
variable {P : Program} {w : World} {K : PySem.W.Frag} {mg : Str → Option Value} {base : Heap}
/-! ### errors caught -/
theorem ok_law_text_H (T : Tx K mg w) : L2H.FnH P w K mg base (L2N.CX P w) 1 (d_law_text.at_ K) (fdOf K (d_law_text.at_ K)) ps_law_text sp_law_text := by
  obtain ⟨oc, od, dV, kV, doc, pm, an, cdv, ct, osl, e, lk, hcd, _, _⟩ := (h_law_text T).ex
  rw [e] at lk ⊢
  refine L2H.fn_ofH lk hcd sc_law_text (fun vs H Q E h => ?_) (fun A outer s H vs Q E p hot hr h => ⟨_,
      pss_one (ps_ret (pe_and (pe_callB call_isi (by rfl) (m_isinstance T) (by decide +kernel) (pa_cons (pv 0) (pa_cons (pe_bltn (v := .ty "str") (u := .type "str") (by rfl) (m_str T) (by decide +kernel) rfl) pa_nil))) (pe_one (pe_cmpR op_eq (pv 0) (pv 1) (nomark _))))), ?_⟩)
  · obtain ⟨a, b, rfl, _⟩ := h
    rfl
  · obtain ⟨a, b, rfl, q⟩ := h
    exact s_ret (v := .bl (true && decide (a = b))) (by repeat' (first | ((with_reducible refine ev_pow10 ?_ ?_ ?_) <;> first | rfl | decide) | (with_reducible refine fun (_ : _ = true) => ?_) | (with_reducible refine fun (_ : _ = false) => ?_) | (with_reducible exact ev_c) | ((with_reducible apply ev_var); rfl) | (with_reducible apply ev_op) | (with_reducible apply ev_un) | (with_reducible apply ev_cb) | (with_reducible apply ea_cons) | (with_reducible apply ev_andV) | (with_reducible apply ev_orV) | (with_reducible apply ev_notV) | (with_reducible apply ev_if) | (with_reducible apply eo_some) | (with_reducible apply el_lst) | (with_reducible exact ea_nil) | (with_reducible exact rv_I0) | (with_reducible exact ru_neg) | (with_reducible exact rv_ltS) | (with_reducible exact rv_inC) | (with_reducible exact rv_notInC) | (with_reducible exact rc_intI) | (with_reducible exact rc_intB) | (with_reducible exact rc_min2) | (with_reducible exact rc_isStr) | (with_reducible exact eo_none) | (with_reducible exact rv_inSS) | (with_reducible exact rv_notInSS) | (with_reducible exact rv_ltSS) | (with_reducible exact rv_eqSS) | (with_reducible exact rv_eqII) | (with_reducible exact rv_neII) | (with_reducible exact rv_neSS) | ((with_reducible refine rc_lenSS ?_); (first | assumption | omega | decide | (simp only [S_len] at *; omega))) | ((with_reducible refine rc_lenStr ?_); (first | assumption | omega | decide | (simp only [S_len] at *; omega))) | ((with_reducible refine rv_catSS ?_); (first | assumption | omega | decide | (simp only [S_len] at *; omega))) | (with_reducible exact rv_eq rfl) | (with_reducible exact rv_ne rfl) | ((with_reducible refine rc_lenS ?_); (first | assumption | omega | decide | (simp only [S_len] at *; omega))) | ((with_reducible refine rc_lenL ?_); assumption) | ((with_reducible apply rv_ixL); assumption; rfl) | ((with_reducible refine rv_catS ?_); (first | assumption | omega | decide | (simp only [S_len] at *; omega))) | ((with_reducible refine rv_I ?_); (first | (show (0 : Int) < _; (first | assumption | omega | decide | (simp only [S_len] at *; omega))) | exact .inr ⟨by decide, by decide⟩ | exact .inl ⟨by (first | assumption | omega | decide | (simp only [S_len] at *; omega)), by (first | assumption | omega | decide | (simp only [S_len] at *; omega))⟩ | exact .inr ⟨by (first | assumption | omega | decide | (simp only [S_len] at *; omega)), by (first | assumption | omega | decide | (simp only [S_len] at *; omega))⟩ | exact ⟨by decide, by decide, by decide⟩ | exact wide_div (b := 128) (by (first | assumption | omega | decide | (simp only [S_len] at *; omega))) (by (first | assumption | omega | decide | (simp only [S_len] at *; omega))) (by decide) (by decide))))) fun H1 e1 => q H1 e1
theorem ev_lij {σ : L2.St} {H : Hp} {t1 t2 t3 : TE} {b a : List Nat} {z : Str} (h1 : Ev t1 σ H (.str (S b))) (h2 : Ev t2 σ H (.str (S a))) (h3 : Ev t3 σ H (.str z)) (hb : b.length ≤ 1000) (ha : a.length ≤ 1000) :
    Ev (tCall sp_law_is_jump [] E0 (tCons t1 (tCons t2 (tCons t3 tNil)))) σ H (.bl (isJ b a z)) := ev_call (ea_cons h1 (ea_cons h2 (ea_cons h3 ea_nil))) fun H1 e1 Q q E => ⟨b, a, z, rfl, hb, ha, q⟩
theorem ev_asked {σ : L2.St} {H : Hp} {te tb : TE} {j t : Addr} {b a : List Nat} {z : Str} (h1 : Ev te σ H (.ref j)) (h2 : Ev tb σ H (.ref t)) (hj : IsJ K H j b a z) (ht : Tri H t b a z) (hi : isJ b a z = true) : Ev (tCall (sp_law_jump_asked K) [] E0 (tCons te (tCons tb tNil))) σ H (.bl true) :=
  ev_call (ea_cons h1 (ea_cons h2 ea_nil)) fun H1 e1 Q q E => ⟨j, t, b, a, z, rfl, hj.ex e1, ht.ex e1, hi, q⟩
def sp_law_class_asked (K : PySem.W.Frag) : Sp := fun vs H Q _ => ∃ (t : Addr) (f : Int) (b a : List Nat) (z : Str), vs = [.ref t, .int f] ∧ Tri H t b a z ∧ b.length ≤ 60 ∧ a.length ≤ 60 ∧ Low b ∧ RetV (.bl true) H Q
theorem ok_law_class_asked (T : Tx K mg w) : OkD P w K mg base 7 d_law_class_asked ps_law_class_asked (sp_law_class_asked K) := by
  refine (h_law_class_asked T).ok sc_law_class_asked (fun vs H Q E h => ?_) (fun cdv A outer s H vs Q E hr h => ⟨_,
      (pss_cons (ps_set (i := 2) sc_law_class_asked.nd rfl (Or.inl rfl) (pe_call (ok_law_is_jump (P := P) (w := w) (base := base) T) (hr.mono (by decide)) (by rfl) (m_law_is_jump T) (k_law_is_jump T) (b_law_is_jump T) .nil passN (pa_cons (pe_ix ix_tup (pv 0) pe_int (fun _ _ => rfl)) (pa_cons (pe_ix ix_tup (pv 0) pe_int (fun _ _ => rfl)) (pa_cons (pe_ix ix_tup (pv 0) pe_int (fun _ _ => rfl)) pa_nil)))))
      (pss_cons (L2N.ps_try_as (i := 3) (Wout := fun _ _ _ _ => False) rfl rfl sc_law_class_asked.nd rfl rfl ⟨rfl, by decide, Or.inl (m_LeapError T)⟩ takes0N
        (fun W pn xe tk _ => (pss_one (ps_set (i := 4) sc_law_class_asked.nd rfl (Or.inl rfl) (pe_callSD (ok_law_made (P := P) (w := w) (base := base) T) (hr.mono (by decide)) (by rfl) (m_law_made T) (k_law_made T) (b_law_made T) .nil (fun σ => L2N.passAt tk σ) (pa_cons (pv 0) (pa_cons (pv 1) pa_nil))))))
        (fun a oe cls d pn hz hf => pss_cons (ps_if (PW.pt (pw_or (pt_val (pv 2)) (pw_or1 (pt_not (pt_val (pe_callB (call_isX (D := cJ K) hz.zc hf) (by rfl) (m_isinstance T) (by decide +kernel) (pa_cons (pv 3) (pa_cons (pe_glob (v := .ref (cJ K)) rfl (m_InvalidJump T) rfl) pa_nil)))))))) (pss_one (ps_ret pe_bl)) pss_nil)
          (pss_one (ps_ret (L2H.pe_callH (ok_law_text_H (P := P) (w := w) (base := base) T) ⟨(hr.mono (show 1 ≤ 6 by decide)).dp, (hr.mono (show 1 ≤ 6 by decide)).un⟩ (hot_suite hz hf) (by rfl) (m_law_text T) (k_law_text T) (b_law_text T) (fun _ => passAtN) (pa_cons (pe_xf (x_InvalidJump T).xf (x_InvalidJump T).no hz.zc hf (pv 3)) (pa_cons (pe_ix (show IxR _ (rIxT K) from ix_tup) (pv 0) pe_int (fun _ _ => rfl)) pa_nil)))))))
      (pss_one (ps_ret (pe_and (pv 2) (pe_one (pe_call (ok_law_jump_asked (P := P) (w := w) (base := base) T) (hr.mono (by decide)) (by rfl) (m_law_jump_asked T) (k_law_jump_asked T) (b_law_jump_asked T) .nil passN (pa_cons (pv 4) (pa_cons (pv 0) pa_nil))))))))), ?_⟩)
  · obtain ⟨t, f, b, a, z, rfl, _⟩ := h
    rfl
  · obtain ⟨t, f, b, a, z, rfl, ht, hb, ha, hl, q⟩ := h
    refine q_asg (v := .bl (isJ b a z)) (ev_lij (ev_t0 (te := tVar 0) (by exact ev_var rfl) ht) (ev_t1 (te := tVar 0) (by exact ev_var rfl) ht) (ev_t2 (te := tVar 0) (by exact ev_var rfl) ht) (by omega) (by omega)) fun H1 e1 => ?_
    have ht1 := ht.ex e1
    refine ⟨_, rfl, _, rfl, t, f, b, a, z, rfl, ht1, hb, ha, hl, fun hi p H2 hp e2 hj => ?_, fun hn d H2 hd e2 hx => ?_⟩
    · dsimp only [gName]
      refine s_ret (v := .bl (isJ b a z && true)) (ev_andV (by exact ev_var rfl) fun _ => ev_asked (te := tVar 4) (tb := tVar 0) (by exact ev_var rfl) (by exact ev_var rfl) hj (ht1.ex e2) hi) fun H3 e3 => ?_
      rw [hi]
      exact q H3 ((e1.trans e2).trans e3)
    · refine ⟨true, (x_InvalidJump T).exm, fun _ a' ha' => ?_, fun z => by cases z⟩
      dsimp only
      have rx : RC (rIsX (cJ K) a' (.ref (cJ K)) (some d)) [.ref a', .ref (cJ K)] H2 (.bl true) := fun H3 e Q q => ⟨d, _, rfl, rfl, rfl, e _ _ hx, q H3 (Ex.refl H3)⟩
      refine q_when (b := (isJ b a z || !true)) (et_or (et_B (by exact ev_var rfl)) fun _ => et_not (et_B (ev_cb (ea_cons (ta := tVar 3) (by exact ev_var rfl) (ea_cons ev_c ea_nil)) rx))) (fun hc => by rw [hn] at hc; cases hc) (fun _ H3 e3 => ?_)
      refine ret_fst ?_
      refine ⟨_, rfl, rfl, rfl, d, _, _, rfl, e3 _ _ hx, rfl, ?_⟩
      refine cons_fst (ev_t0 (te := tVar 0) (ev_var rfl) (ht1.ex (e2.trans e3)) H3 (Ex.refl H3) _ fun H4 e4 => ?_)
      refine ⟨b, b, rfl, fun H5 e5 => ?_⟩
      rw [decide_eq_true rfl]
      exact q H5 ((((e1.trans e2).trans e3).trans e4).trans e5)
end
end K03
namespace K03
open PySem PySem.Spec PyProof.Rows L2 Lc Evl
section
variable {P : Program} {w : World} {K : PySem.W.Frag} {mg : Str → Option Value} {base : Heap}
/-! ### tuples compared, a text read -/
def dT (b a : List Nat) (z : Str) : PyData := .tuple [.str (S b), .str (S a), .str z]
theorem strOk_S {l : List Nat} (h : Low l) : PyData.strOk (S l) = true := by
  show l.toArray.all (fun x => decide (x < 1114112)) = true
  rw [List.all_toArray, List.all_eq_true]
  intro c hc
  have := h c hc
  exact decide_eq_true (by omega)
theorem strOk_w {z : Str} (h : z ∈ wys) : PyData.strOk z = true := by
  simp only [wys, List.mem_cons, List.not_mem_nil, or_false] at h
  rcases h with rfl | rfl | rfl <;> decide +kernel
theorem sh_dT {b a : List Nat} {z : Str} (hb : Low b) (ha : Low a) (hz : z ∈ wys) : SeqAt.shaped (dT b a z) = true := by
  unfold SeqAt.shaped dT
  simp [PyData.canLay0, PyData.canLayAll0, PyData.depth, PyData.depthAll, strOk_S hb, strOk_S ha, strOk_w hz]
theorem low_isJ {b a : List Nat} {z : Str} (h : isJ b a z = true) : Low b ∧ Low a ∧ z ∈ wys := by
  obtain ⟨hz, _, _, gb, ga⟩ := isJ_parts h
  exact ⟨fun c hc => sg_low c (gb c hc), fun c hc => sg_low c (ga c hc), hz⟩
theorem dp_tri {H : Hp} {t : Addr} {b a : List Nat} {z : Str} (h : Tri H t b a z) : Dp K H (.ref t) (dT b a z) := .tup (st_of h) (.cons (.str _) (.cons (.str _) (.cons (.str _) .nil)))
theorem dp_nil {H : Hp} {t : Addr} (h : H t = some (.tup [])) : Dp K H (.ref t) (.tuple []) := .tup (st_of h) .nil
theorem ev_neT {σ : L2.St} {H : Hp} {te : TE} {t : Addr} {b a : List Nat} {z : Str} (h : Ev te σ H (.ref t)) (ht : Tri H t b a z) (hi : isJ b a z = true) : Ev (tOp (rNeD K) te (tTup tNil)) σ H (.bl true) :=
  ev_opU h (eu_tup ea_nil (by simp)) fun p H1 hp e H2 e2 Q q => ⟨dT b a z, .tuple [], dp_tri (ht.ex (e.trans e2)), dp_nil (e2 _ _ hp), sh_dT (low_isJ hi).1 (low_isJ hi).2.1 (low_isJ hi).2.2, rfl, q H2 (Ex.refl H2)⟩
theorem ev_neN {σ : L2.St} {H : Hp} {te : TE} {t : Addr} (h : Ev te σ H (.ref t)) (ht : H t = some (.tup [])) : Ev (tOp (rNeD K) te (tTup tNil)) σ H (.bl false) :=
  ev_opU h (eu_tup ea_nil (by simp)) fun p H1 hp e H2 e2 Q q => ⟨.tuple [], .tuple [], dp_nil ((e.trans e2) _ _ ht), dp_nil (e2 _ _ hp), rfl, rfl, q H2 (Ex.refl H2)⟩
def sp_law_read_asked (K : PySem.W.Frag) : Sp := fun vs H Q _ => ∃ l, vs = [.str (S l)] ∧ l.length ≤ 100 ∧ Low l ∧ RetV (.bl true) H Q
theorem ok_law_read_asked (T : Tx K mg w) : OkD P w K mg base 7 d_law_read_asked ps_law_read_asked (sp_law_read_asked K) := by
  refine (h_law_read_asked T).ok sc_law_read_asked (fun vs H Q E h => ?_) (fun cdv A outer s H vs Q E hr h => ⟨_,
      (pss_cons (ps_set (i := 1) sc_law_read_asked.nd rfl (Or.inl rfl) (pe_call (ok_law_read (P := P) (w := w) (base := base) T) (hr.mono (by decide)) (by rfl) (m_law_read T) (k_law_read T) (b_law_read T) .nil passN (pa_cons (pv 0) pa_nil)))
      (pss_cons (L2N.ps_try_as (i := 2) (Wout := fun _ _ _ _ => False) rfl rfl sc_law_read_asked.nd rfl rfl ⟨rfl, by decide, Or.inl (m_LeapError T)⟩ takes0N
        (fun W pn xe tk _ => (pss_one (ps_set (i := 3) sc_law_read_asked.nd rfl (Or.inl rfl) (pe_smeth (pe_glob (v := .ref (He.ga K "Jump")) rfl (m_Jump T) rfl) (cr_Jump T) (sm_Jump_read T) (ok_Jump_read (P := P) (w := w) (base := base) T) (hr.mono (by decide)) (b_Jump_read T) .nil (fun σ => L2N.passAt tk σ) (pa_cons (pv 0) pa_nil)))))
        (fun a oe cls d pn hz hf => pss_cons (ps_if (PW.pt (pw_or (pt_cmpR (show OpR _ _ (rNeD K) from op_neD (by exact hr.units)) (pv 1) (pe_tup pa_nil) (nomark _)) (pw_or1 (pt_not (pt_val (pe_callB (call_isX (D := cJ K) hz.zc hf) (by rfl) (m_isinstance T) (by decide +kernel) (pa_cons (pv 2) (pa_cons (pe_glob (v := .ref (cJ K)) rfl (m_InvalidJump T) rfl) pa_nil)))))))) (pss_one (ps_ret pe_bl)) pss_nil)
          (pss_one (ps_ret (L2H.pe_callH (ok_law_text_H (P := P) (w := w) (base := base) T) ⟨(hr.mono (show 1 ≤ 6 by decide)).dp, (hr.mono (show 1 ≤ 6 by decide)).un⟩ (hot_suite hz hf) (by rfl) (m_law_text T) (k_law_text T) (b_law_text T) (fun _ => passAtN) (pa_cons (pe_xf (x_InvalidJump T).xf (x_InvalidJump T).no hz.zc hf (pv 2)) (pa_cons (pv 0) pa_nil)))))))
      (pss_one (ps_ret (pe_and (pe_cmpR (op_neD hr.units) (pv 1) (pe_tup pa_nil) (nomark _)) (pe_one (pe_call (ok_law_jump_asked (P := P) (w := w) (base := base) T) (hr.mono (by decide)) (by rfl) (m_law_jump_asked T) (k_law_jump_asked T) (b_law_jump_asked T) .nil passN (pa_cons (pv 3) (pa_cons (pv 1) pa_nil))))))))), ?_⟩)
  · obtain ⟨l, rfl, _⟩ := h
    rfl
  · obtain ⟨l, rfl, hl, hlow, q⟩ := h
    refine ⟨_, rfl, l, rfl, hl, fun hi t H1 ht e1 h1 => ?_, fun hn t H1 ht e1 h1 => ?_⟩
    · dsimp only [gName]
      refine ⟨rfl, _, rfl, l, rfl, hl, hlow, fun _ p H2 hp e2 hj => ?_, fun hn => by rw [hi] at hn; cases hn⟩
      dsimp only [gName]
      refine s_ret (v := .bl (true && true)) (ev_andV (ev_neT (te := tVar 1) (by exact ev_var rfl) (h1.ex e2) hi) fun _ => ev_asked (te := tVar 3) (tb := tVar 1) (by exact ev_var rfl) (by exact ev_var rfl) hj (h1.ex e2) hi) fun H3 e3 => ?_
      exact q H3 ((e1.trans e2).trans e3)
    · dsimp only [gName]
      refine ⟨rfl, _, rfl, l, rfl, hl, hlow, fun hi => (by rw [hn] at hi; cases hi), fun _ d H2 hd e2 hx => ?_⟩
      refine ⟨true, (x_InvalidJump T).exm, fun _ a' ha' => ?_, fun z => by cases z⟩
      dsimp only
      have rx : RC (rIsX (cJ K) a' (.ref (cJ K)) (some d)) [.ref a', .ref (cJ K)] H2 (.bl true) := fun H3 e Q q => ⟨d, _, rfl, rfl, rfl, e _ _ hx, q H3 (Ex.refl H3)⟩
      refine q_when (b := (false || !true)) (et_or (et_test (ev_neN (te := tVar 1) (by exact ev_var rfl) (e2 _ _ h1))) fun _ => et_not (et_B (ev_cb (ea_cons (ta := tVar 2) (by exact ev_var rfl) (ea_cons ev_c ea_nil)) rx))) (fun hc => by cases hc) (fun _ H3 e3 => ?_)
      refine ret_fst ?_
      refine ⟨_, rfl, rfl, rfl, d, _, _, rfl, e3 _ _ hx, rfl, _, rfl, ?_⟩
      refine ⟨l, l, rfl, fun H5 e5 => ?_⟩
      rw [decide_eq_true rfl]
      exact q H5 (((e1.trans e2).trans e3).trans e5)
end
end K03
namespace K03
open PySem PySem.Spec PyProof.Rows L2 Lc Evl
section
variable {P : Program} {w : World} {K : PySem.W.Frag} {mg : Str → Option Value} {base : Heap}
/-! ### twins -/
theorem way_draw {σ : L2.St} {H : Hp} {bx : Addr} {Q : VK} (h0 : σ[0]? = some (some (.ref bx))) (hb : Bx H bx) (k : ∀ z H', z ∈ wys → ExB bx H H' → Bx H' bx → Q (.str z) H') :
    tOp (rIxL K) (tLst (tCons (tC (.str "right")) (tCons (tC (.str "left")) (tCons (tC (.str "both")) tNil)))) (tCall sp_law_take [] E0 (tCons (tVar 0) (tCons (tC (.int 3)) tNil))) σ H Q := by
  refine op_fst ?_
  refine el_lst (vs := [.str "right", .str "left", .str "both"]) (ea_cons ev_c (ea_cons ev_c (ea_cons ev_c ea_nil))) (by simp) H (Ex.refl H) _ fun l H4 hl e4 h4 => ?_
  refine sp_take_then (b := bx) (many := 3) h0 (hb.ex e4) ev_c (by decide) (by decide) fun u H5 u0 u1 e5 b5 => ?_
  have hlb : l ≠ bx := fun z => by
    obtain ⟨x, y, v, hx⟩ := hb
    rw [z, hx] at hl
    cases hl
  obtain ⟨z, hz, hat⟩ : ∃ z : Str, z ∈ wys ∧ atI [V.str "right", V.str "left", V.str "both"] u = some (.str z) := by
    obtain ⟨u, rfl⟩ : ∃ k : Nat, u = (k : Int) := ⟨u.toNat, by omega⟩
    have h3 : u = 0 ∨ u = 1 ∨ u = 2 := by omega
    rcases h3 with rfl | rfl | rfl
    · exact ⟨"right", by simp [wys], rfl⟩
    · exact ⟨"left", by simp [wys], rfl⟩
    · exact ⟨"both", by simp [wys], rfl⟩
  exact ⟨l, _, u, _, rfl, rfl, sq_of (e5 _ _ hlb h4), hat, k z H5 hz ((ExB.of e4).trans e5) b5⟩
theorem Tri.exB {H H' : Hp} {t bx : Addr} {b a : List Nat} {z : Str} (h : Tri H t b a z) (hb : Bx H bx) (e : ExB bx H H') : Tri H' t b a z := e _ _ (fun x => by
  obtain ⟨i, j, k, hx⟩ := hb
  unfold Tri at h
  rw [x, hx] at h
  cases h) h
theorem isJ_after {b a : List Nat} {z : Str} {k c : Nat} (h : isJ b a z = true) (h1 : 1 ≤ k) (h2 : k < a.length) (hc : c ∈ 46 :: kL) : isJ b (a.take k ++ [c] ++ a.drop (k + 1)) z = true := by
  obtain ⟨g1, g2, g3, g4, g5, g6, g7⟩ := isJ_iff.mp h
  refine isJ_iff.mpr ⟨g1, g2, ?_, g4, ?_, g6, fun x hx => ?_⟩
  · rw [List.length_append, List.length_append, List.length_take, List.length_drop]
    simp
    omega
  · rw [List.getD_eq_getElem?_getD, List.append_assoc, List.getElem?_append_left (by rw [List.length_take]; omega), List.getElem?_take_of_lt (by omega), ← List.getD_eq_getElem?_getD]
    exact g5
  · rcases List.mem_append.mp hx with hx | hx
    · rcases List.mem_append.mp hx with hx | hx
      · exact g7 x (List.mem_of_mem_take hx)
      · have : x = c := by simpa using hx
        rw [this]
        exact List.mem_cons.mp hc
    · exact g7 x (List.mem_of_mem_drop hx)
theorem isJ_before {b a : List Nat} {z : Str} {k c : Nat} (h : isJ b a z = true) (h2 : k + 1 < b.length) (hc : c ∈ kL) : isJ (b.take k ++ [c] ++ b.drop (k + 1)) a z = true := by
  obtain ⟨g1, g2, g3, g4, g5, g6, g7⟩ := isJ_iff.mp h
  have hl : (b.take k ++ [c] ++ b.drop (k + 1)).length = b.length := by
    rw [List.length_append, List.length_append, List.length_take, List.length_drop]
    simp
    omega
  refine isJ_iff.mpr ⟨g1, by rw [hl]; exact g2, by rw [hl]; exact g3, ?_, g5, fun x hx => ?_, g7⟩
  · rw [hl, List.getD_eq_getElem?_getD, List.getElem?_append_right (by rw [List.length_append, List.length_take]; simp; omega), List.length_append, List.length_take, List.length_singleton, List.getElem?_drop, show k + 1 + (b.length - 1 - (min k b.length + 1)) = b.length - 1 by omega, ← List.getD_eq_getElem?_getD]
    exact g4
  · rw [hl, List.mem_take_iff_getElem] at hx
    obtain ⟨i, hi, rfl⟩ := hx
    have key : ∀ j (hj : j < b.length - 1), b[j]'(by omega) ∈ kL := fun j hj => g6 _ (by rw [List.mem_take_iff_getElem]; exact ⟨j, by omega, rfl⟩)
    have hmem : (b.take k ++ [c] ++ b.drop (k + 1))[i]? = some ((b.take k ++ [c] ++ b.drop (k + 1))[i]'(by omega)) := List.getElem?_eq_getElem _
    generalize (b.take k ++ [c] ++ b.drop (k + 1))[i]'(by omega) = x at hmem
    by_cases c1 : i < k
    · rw [List.append_assoc, List.getElem?_append_left (by rw [List.length_take]; omega), List.getElem?_take_of_lt c1, List.getElem?_eq_getElem (by omega)] at hmem
      rw [← Option.some.inj hmem]
      exact key i (by omega)
    by_cases c2 : i = k
    · subst c2
      rw [List.getElem?_append_left (by rw [List.length_append, List.length_take]; simp; omega), List.getElem?_append_right (by rw [List.length_take]; omega), List.length_take, Nat.min_eq_left (by omega), Nat.sub_self] at hmem
      rw [← Option.some.inj hmem]
      exact hc
    · rw [List.getElem?_append_right (by rw [List.length_append, List.length_take]; simp; omega), List.length_append, List.length_take, List.length_singleton, List.getElem?_drop, show k + 1 + (i - (min k b.length + 1)) = i by omega, List.getElem?_eq_getElem (by omega)] at hmem
      rw [← Option.some.inj hmem]
      exact key i (by omega)
theorem wsg_len (z : Str) : (wsg z).length = 1 := by
  unfold wsg
  split
  · rfl
  · split <;> rfl
theorem rd_written {b a : List Nat} {z : Str} (h : isJ b a z = true) : rdB (b ++ wsg z ++ a) = b ∧ rdA (b ++ wsg z ++ a) = a ∧ rdW (rdS (b ++ wsg z ++ a)) = z := by
  obtain ⟨hz, hb, hab, _, _⟩ := isJ_parts h
  have hw := wsg_len z
  have hl : (b ++ wsg z ++ a).length / 2 = b.length := by
    rw [List.length_append, List.length_append, hw]
    omega
  unfold rdB rdA rdS
  rw [hl]
  refine ⟨?_, ?_, ?_⟩
  · rw [List.append_assoc, List.take_left']
    rfl
  · rw [List.drop_left' (by rw [List.length_append, hw])]
  · rw [List.append_assoc, List.drop_left' rfl, List.take_left' hw]
    simp only [wys, List.mem_cons, List.not_mem_nil, or_false] at hz
    rcases hz with rfl | rfl | rfl <;> decide +kernel
theorem low_written {b a : List Nat} {z : Str} (h : isJ b a z = true) : Low (b ++ wsg z ++ a) ∧ (b ++ wsg z ++ a).length ≤ 9 := by
  obtain ⟨hb, ha, hz⟩ := low_isJ h
  obtain ⟨_, h1, h2, _⟩ := isJ_parts h
  have hw := wsg_len z
  refine ⟨(hb.app ?_).app ha, by rw [List.length_append, List.length_append, hw]; omega⟩
  unfold wsg Low
  split
  · decide
  · split <;> decide
end
end K03
namespace K03
open PySem PySem.Spec PyProof.Rows L2 Lc Evl
section
variable {P : Program} {w : World} {K : PySem.W.Frag} {mg : Str → Option Value} {base : Heap}
theorem asg_fst {σ : L2.St} {H : Hp} {te : TE} {D : Ends} {i : Nat} (h : te σ H fun v H1 => D.nx (σ.set i (some v)) H1) : tAsg te (gName i) D σ H := h
theorem tup_fst {σ : L2.St} {H : Hp} {ta : TA} {Q : VK} (h : ta σ H fun vs H1 => vs.length ≤ sizeLine ∧ ∀ p, H1 p = none → Q (.ref p) (upd H1 p (.tup vs))) : tTup ta σ H Q := h
theorem beq_S {x y : List Nat} : (S x == S y) = decide (x = y) := by
  rw [Bool.eq_iff_iff]
  simp only [beq_iff_eq, decide_eq_true_eq]
  exact ⟨fun h => S_inj h, fun h => by rw [h]⟩
theorem eqv_dT {b a b2 a2 : List Nat} {z z2 : Str} : PyData.eqv (dT b a z) (dT b2 a2 z2) = (decide (b = b2) && (decide (a = a2) && decide (z = z2))) := by
  have hz : (z == z2) = decide (z = z2) := by
    rw [Bool.eq_iff_iff]
    simp
  unfold dT
  simp only [PyData.eqv, PyData.eqvAll, beq_S, hz, Bool.and_true]
theorem rv_eqD {H : Hp} {t o : Addr} {b a b2 a2 : List Nat} {z z2 : Str} (h1 : Tri H t b a z) (h2 : Tri H o b2 a2 z2) (i1 : isJ b a z = true) (i2 : isJ b2 a2 z2 = true) : RV (rEqD K) (.ref t) (.ref o) H (.bl (decide (b = b2) && (decide (a = a2) && decide (z = z2)))) := fun H1 e Q q =>
  ⟨dT b a z, dT b2 a2 z2, dp_tri (h1.ex e), dp_tri (h2.ex e), sh_dT (low_isJ i1).1 (low_isJ i1).2.1 (low_isJ i1).2.2, sh_dT (low_isJ i2).1 (low_isJ i2).2.1 (low_isJ i2).2.2, by rw [eqv_dT]; exact q H1 (Ex.refl H1)⟩
theorem dec_comm {b a b2 a2 : List Nat} {z z2 : Str} : (decide (b2 = b) && (decide (a2 = a) && decide (z2 = z))) = (decide (b = b2) && (decide (a = a2) && decide (z = z2))) := by
  rw [decide_eq_decide.mpr (eq_comm (a := b2) (b := b)), decide_eq_decide.mpr (eq_comm (a := a2) (b := a)), decide_eq_decide.mpr (eq_comm (a := z2) (b := z))]
def sp_law_twins (K : PySem.W.Frag) : Sp := fun vs H Q _ => ∃ (bx t : Addr) (b a : List Nat) (z : Str), vs = [.ref bx, .ref t] ∧ Bx H bx ∧ Tri H t b a z ∧ isJ b a z = true ∧ ∀ H', ExB bx H H' → Bx H' bx → Q (.bl true) H'
theorem rc_lenT3 {H : Hp} {l : List Nat} (h : l.length ≤ 1000) : RC (fun xs H Q => ∃ z, xs = [V.str z] ∧ z.length ≤ sizeLine ∧ Q (.int z.length) H) [.str (S l)] H (.int l.length) := rc_lenStr (by omega)
theorem ok_law_twins (T : Tx K mg w) : OkD P w K mg base 6 d_law_twins ps_law_twins (sp_law_twins K) := by
  refine (h_law_twins T).ok sc_law_twins (fun vs H Q E h => ?_) (fun cdv A outer s H vs Q E hr h => ⟨_,
      (pss_cons (ps_set (i := 2) sc_law_twins.nd rfl (Or.inl rfl) (pv 1))
      (pss_cons (ps_set (i := 3) sc_law_twins.nd rfl (Or.inl rfl) (pe_call (ok_law_take (P := P) (w := w) (base := base) T) (hr.mono (by decide)) (by rfl) (m_law_take T) (k_law_take T) (b_law_take T) .nil passN (pa_cons (pv 0) (pa_cons pe_int pa_nil))))
      (Evl.pss_cut (ps_if (pt_cmpR op_eq (pv 3) pe_int (nomark _)) (pss_one (ps_set (i := 2) sc_law_twins.nd rfl (Or.inl rfl) (pe_tup (pa_cons (pe_ix ix_tup (pv 1) pe_int (fun _ _ => rfl)) (pa_cons (pe_ix ix_tup (pv 1) pe_int (fun _ _ => rfl)) (pa_cons (pe_ix ix_list (pe_lst (pa_cons pe_str (pa_cons pe_str (pa_cons pe_str pa_nil)))) (pe_call (ok_law_take (P := P) (w := w) (base := base) T) (hr.mono (by decide)) (by rfl) (m_law_take T) (k_law_take T) (b_law_take T) .nil passN (pa_cons (pv 0) (pa_cons pe_int pa_nil))) (fun _ _ => rfl)) pa_nil)))))) pss_nil)
      (Evl.pss_cut (ps_if (pt_cmpR op_eq (pv 3) pe_int (nomark _)) (pss_cons (ps_set (i := 6) sc_law_twins.nd rfl (Or.inl rfl) (pe_op op_add pe_int (pe_call (ok_law_take (P := P) (w := w) (base := base) T) (hr.mono (by decide)) (by rfl) (m_law_take T) (k_law_take T) (b_law_take T) .nil passN (pa_cons (pv 0) (pa_cons (pe_op op_sub (pe_callB call_len_str (by rfl) (m_len T) (by decide +kernel) (pa_cons (pe_ix ix_tup (pv 1) pe_int (fun _ _ => rfl)) pa_nil)) pe_int) pa_nil)))))
      (pss_cons (ps_set (i := 7) sc_law_twins.nd rfl (Or.inl rfl) (pe_op op_add_str (pe_op op_add_str (pe_slice sl_str (pe_ix ix_tup (pv 1) pe_int (fun _ _ => rfl)) po_none (po_some (pv 6))) (pe_ix ix_str pe_str (pe_call (ok_law_take (P := P) (w := w) (base := base) T) (hr.mono (by decide)) (by rfl) (m_law_take T) (k_law_take T) (b_law_take T) .nil passN (pa_cons (pv 0) (pa_cons pe_int pa_nil))) (fun _ _ => rfl))) (pe_slice sl_str (pe_ix ix_tup (pv 1) pe_int (fun _ _ => rfl)) (po_some (pe_op op_add (pv 6) pe_int)) po_none)))
      (pss_one (ps_set (i := 2) sc_law_twins.nd rfl (Or.inl rfl) (pe_tup (pa_cons (pe_ix ix_tup (pv 1) pe_int (fun _ _ => rfl)) (pa_cons (pv 7) (pa_cons (pe_ix ix_tup (pv 1) pe_int (fun _ _ => rfl)) pa_nil)))))))) pss_nil)
      (Evl.pss_cut (ps_if (pt_cmpR op_eq (pv 3) pe_int (nomark _)) (pss_cons (ps_set (i := 6) sc_law_twins.nd rfl (Or.inl rfl) (pe_call (ok_law_take (P := P) (w := w) (base := base) T) (hr.mono (by decide)) (by rfl) (m_law_take T) (k_law_take T) (b_law_take T) .nil passN (pa_cons (pv 0) (pa_cons (pe_op op_sub (pe_callB call_len_str (by rfl) (m_len T) (by decide +kernel) (pa_cons (pe_ix ix_tup (pv 1) pe_int (fun _ _ => rfl)) pa_nil)) pe_int) pa_nil))))
      (pss_cons (ps_set (i := 8) sc_law_twins.nd rfl (Or.inl rfl) (pe_op op_add_str (pe_op op_add_str (pe_slice sl_str (pe_ix ix_tup (pv 1) pe_int (fun _ _ => rfl)) po_none (po_some (pv 6))) (pe_ix ix_str pe_str (pe_call (ok_law_take (P := P) (w := w) (base := base) T) (hr.mono (by decide)) (by rfl) (m_law_take T) (k_law_take T) (b_law_take T) .nil passN (pa_cons (pv 0) (pa_cons pe_int pa_nil))) (fun _ _ => rfl))) (pe_slice sl_str (pe_ix ix_tup (pv 1) pe_int (fun _ _ => rfl)) (po_some (pe_op op_add (pv 6) pe_int)) po_none)))
      (pss_one (ps_set (i := 2) sc_law_twins.nd rfl (Or.inl rfl) (pe_tup (pa_cons (pv 8) (pa_cons (pe_ix ix_tup (pv 1) pe_int (fun _ _ => rfl)) (pa_cons (pe_ix ix_tup (pv 1) pe_int (fun _ _ => rfl)) pa_nil)))))))) pss_nil)
      (Evl.pss_cut (ps_if (pt_cmpR op_eq (pv 3) pe_int (nomark _)) (pss_one (ps_set (i := 2) sc_law_twins.nd rfl (Or.inl rfl) (pe_call (ok_law_good (P := P) (w := w) (base := base) T) (hr.mono (by decide)) (by rfl) (m_law_good T) (k_law_good T) (b_law_good T) .nil passN (pa_cons (pv 0) pa_nil)))) pss_nil)
      (pss_cons (ps_set (i := 4) sc_law_twins.nd rfl (Or.inl rfl) (pe_make (mk_Jump T) (ok_Jump_init (P := P) (w := w) (base := base) T) (hr.mono (by decide)) (by rfl) (m_Jump T) (b_Jump_init T) .nil passN (pa_cons (pe_ix ix_tup (pv 1) pe_int (fun _ _ => rfl)) (pa_cons (pe_ix ix_tup (pv 1) pe_int (fun _ _ => rfl)) (pa_cons (pe_ix ix_tup (pv 1) pe_int (fun _ _ => rfl)) pa_nil)))))
      (pss_cons (ps_set (i := 5) sc_law_twins.nd rfl (Or.inl rfl) (pe_smeth (pe_glob (v := .ref (He.ga K "Jump")) rfl (m_Jump T) rfl) (cr_Jump T) (sm_Jump_read T) (ok_Jump_read (P := P) (w := w) (base := base) T) (hr.mono (by decide)) (b_Jump_read T) .nil (fun _ => passAtN) (pa_cons (pe_call (ok_law_written (P := P) (w := w) (base := base) T) (hr.mono (by decide)) (by rfl) (m_law_written T) (k_law_written T) (b_law_written T) .nil passN (pa_cons (pv 2) pa_nil)) pa_nil)))
      (pss_cons (ps_if (PW.pt (pw_or (pt_cmpR op_ne (pe_cmpR (op_eqOwn (ok_Jump_eq (P := P) (w := w) (base := base) T) (hr.mono (by decide)) (me_Jump_eq T).at_ (me_Jump_eq T).fn (b_Jump_eq T) passN) (pv 4) (pv 5) (nomark _)) (pe_cmpR (op_eqD hr.units) (pv 1) (pv 2) (nomark _)) (nomark _)) (pw_or1 (pt_cmpR op_ne (pe_cmpR (op_eqOwn (ok_Jump_eq (P := P) (w := w) (base := base) T) (hr.mono (by decide)) (me_Jump_eq T).at_ (me_Jump_eq T).fn (b_Jump_eq T) passN) (pv 5) (pv 4) (nomark _)) (pe_cmpR (op_eqD hr.units) (pv 1) (pv 2) (nomark _)) (nomark _))))) (pss_one (ps_ret pe_bl)) pss_nil)
      (pss_one (ps_ret (pe_and (pe_call (ok_law_shown (P := P) (w := w) (base := base) T) (hr.mono (by decide)) (by rfl) (m_law_shown T) (k_law_shown T) (b_law_shown T) .nil passN (pa_cons (pv 4) (pa_cons (pv 1) pa_nil))) (pe_one (pe_call (ok_law_shown (P := P) (w := w) (base := base) T) (hr.mono (by decide)) (by rfl) (m_law_shown T) (k_law_shown T) (b_law_shown T) .nil passN (pa_cons (pv 5) (pa_cons (pv 2) pa_nil)))))))))))))))), ?_⟩)
  · obtain ⟨bx, t, b, a, z, rfl, _⟩ := h
    rfl
  · obtain ⟨bx, t, b, a, z, rfl, hb, ht, hi, q⟩ := h
    obtain ⟨hz, hb3, hab, gb, ga⟩ := isJ_parts hi
    simp only [k_abcd, k_dabcd]
    refine q_asg (v := .ref t) (by exact ev_var rfl) fun H1 e1 => ?_
    refine q_first ?_
    refine sp_take_then (b := bx) (many := 5) rfl (hb.ex e1) (by exact ev_c) (by decide) (by decide) fun m H2 m0 m1 e2 b2 => ?_
    have E2 := (ExB.of (b := bx) e1).trans e2
    refine q_cut (M := fun σ' H' => ExB bx H H' ∧ Bx H' bx ∧ ∃ (o : Addr) (b2 a2 : List Nat) (z2 : Str) (x6 x7 x8 : Option V), Tri H' o b2 a2 z2 ∧ isJ b2 a2 z2 = true ∧ σ' = [some (.ref bx), some (.ref t), some (.ref o), some (.int m), none, none, x6, x7, x8]) ?_ ?_
    · refine s_when (b := decide (m = 1)) (by first | ((with_reducible apply et_test); (repeat' (first | ((with_reducible refine ev_pow10 ?_ ?_ ?_) <;> first | rfl | decide) | (with_reducible refine fun (_ : _ = true) => ?_) | (with_reducible refine fun (_ : _ = false) => ?_) | (with_reducible exact ev_c) | ((with_reducible apply ev_var); rfl) | (with_reducible apply ev_op) | (with_reducible apply ev_un) | (with_reducible apply ev_cb) | (with_reducible apply ea_cons) | (with_reducible apply ev_andV) | (with_reducible apply ev_orV) | (with_reducible apply ev_notV) | (with_reducible apply ev_if) | (with_reducible apply eo_some) | (with_reducible apply el_lst) | (with_reducible exact ea_nil) | (with_reducible exact rv_I0) | (with_reducible exact ru_neg) | (with_reducible exact rv_ltS) | (with_reducible exact rv_inC) | (with_reducible exact rv_notInC) | (with_reducible exact rc_intI) | (with_reducible exact rc_intB) | (with_reducible exact rc_min2) | (with_reducible exact rc_isStr) | (with_reducible exact eo_none) | (with_reducible exact rv_inSS) | (with_reducible exact rv_notInSS) | (with_reducible exact rv_ltSS) | (with_reducible exact rv_eqSS) | (with_reducible exact rv_eqII) | (with_reducible exact rv_neII) | (with_reducible exact rv_neSS) | ((with_reducible refine rc_lenSS ?_); (first | assumption | omega | decide | (simp only [S_len] at *; omega))) | ((with_reducible refine rc_lenStr ?_); (first | assumption | omega | decide | (simp only [S_len] at *; omega))) | ((with_reducible refine rv_catSS ?_); (first | assumption | omega | decide | (simp only [S_len] at *; omega))) | (with_reducible exact rv_eq rfl) | (with_reducible exact rv_ne rfl) | ((with_reducible refine rc_lenS ?_); (first | assumption | omega | decide | (simp only [S_len] at *; omega))) | ((with_reducible refine rc_lenL ?_); assumption) | ((with_reducible apply rv_ixL); assumption; rfl) | ((with_reducible refine rv_catS ?_); (first | assumption | omega | decide | (simp only [S_len] at *; omega))) | ((with_reducible refine rv_I ?_); (first | (show (0 : Int) < _; (first | assumption | omega | decide | (simp only [S_len] at *; omega))) | exact .inr ⟨by decide, by decide⟩ | exact .inl ⟨by (first | assumption | omega | decide | (simp only [S_len] at *; omega)), by (first | assumption | omega | decide | (simp only [S_len] at *; omega))⟩ | exact .inr ⟨by (first | assumption | omega | decide | (simp only [S_len] at *; omega)), by (first | assumption | omega | decide | (simp only [S_len] at *; omega))⟩ | exact ⟨by decide, by decide, by decide⟩ | exact wide_div (b := 128) (by (first | assumption | omega | decide | (simp only [S_len] at *; omega))) (by (first | assumption | omega | decide | (simp only [S_len] at *; omega))) (by decide) (by decide)))))) | ((with_reducible apply et_B); (repeat' (first | ((with_reducible refine ev_pow10 ?_ ?_ ?_) <;> first | rfl | decide) | (with_reducible refine fun (_ : _ = true) => ?_) | (with_reducible refine fun (_ : _ = false) => ?_) | (with_reducible exact ev_c) | ((with_reducible apply ev_var); rfl) | (with_reducible apply ev_op) | (with_reducible apply ev_un) | (with_reducible apply ev_cb) | (with_reducible apply ea_cons) | (with_reducible apply ev_andV) | (with_reducible apply ev_orV) | (with_reducible apply ev_notV) | (with_reducible apply ev_if) | (with_reducible apply eo_some) | (with_reducible apply el_lst) | (with_reducible exact ea_nil) | (with_reducible exact rv_I0) | (with_reducible exact ru_neg) | (with_reducible exact rv_ltS) | (with_reducible exact rv_inC) | (with_reducible exact rv_notInC) | (with_reducible exact rc_intI) | (with_reducible exact rc_intB) | (with_reducible exact rc_min2) | (with_reducible exact rc_isStr) | (with_reducible exact eo_none) | (with_reducible exact rv_inSS) | (with_reducible exact rv_notInSS) | (with_reducible exact rv_ltSS) | (with_reducible exact rv_eqSS) | (with_reducible exact rv_eqII) | (with_reducible exact rv_neII) | (with_reducible exact rv_neSS) | ((with_reducible refine rc_lenSS ?_); (first | assumption | omega | decide | (simp only [S_len] at *; omega))) | ((with_reducible refine rc_lenStr ?_); (first | assumption | omega | decide | (simp only [S_len] at *; omega))) | ((with_reducible refine rv_catSS ?_); (first | assumption | omega | decide | (simp only [S_len] at *; omega))) | (with_reducible exact rv_eq rfl) | (with_reducible exact rv_ne rfl) | ((with_reducible refine rc_lenS ?_); (first | assumption | omega | decide | (simp only [S_len] at *; omega))) | ((with_reducible refine rc_lenL ?_); assumption) | ((with_reducible apply rv_ixL); assumption; rfl) | ((with_reducible refine rv_catS ?_); (first | assumption | omega | decide | (simp only [S_len] at *; omega))) | ((with_reducible refine rv_I ?_); (first | (show (0 : Int) < _; (first | assumption | omega | decide | (simp only [S_len] at *; omega))) | exact .inr ⟨by decide, by decide⟩ | exact .inl ⟨by (first | assumption | omega | decide | (simp only [S_len] at *; omega)), by (first | assumption | omega | decide | (simp only [S_len] at *; omega))⟩ | exact .inr ⟨by (first | assumption | omega | decide | (simp only [S_len] at *; omega)), by (first | assumption | omega | decide | (simp only [S_len] at *; omega))⟩ | exact ⟨by decide, by decide, by decide⟩ | exact wide_div (b := 128) (by (first | assumption | omega | decide | (simp only [S_len] at *; omega))) (by (first | assumption | omega | decide | (simp only [S_len] at *; omega))) (by decide) (by decide))))))) (fun _ H3 e3 => ?_) (fun _ H3 e3 => ⟨E2.trans (ExB.of e3), b2.ex e3, t, b, a, z, none, none, none, (ht.exB hb E2).ex e3, hi, rfl⟩)
      have t3 := (ht.exB hb E2).ex e3
      have b3 := b2.ex e3
      refine asg_fst (tup_fst ?_)
      refine cons_fst (ev_t0 (te := tVar 1) (ev_var rfl) t3 H3 (Ex.refl H3) _ fun H4 e4 => ?_)
      dsimp only
      refine cons_fst (ev_t1 (te := tVar 1) (ev_var rfl) (t3.ex e4) H4 (Ex.refl H4) _ fun H5 e5 => ?_)
      refine cons_fst (way_draw (bx := bx) rfl ((b3.ex e4).ex e5) fun z2 H6 hz2 e6 b6 => ?_)
      refine ⟨sz_of (by simp), fun p hp => ?_⟩
      exact ⟨(((E2.trans (ExB.of e3)).trans (ExB.of (e4.trans e5))).trans e6).trans (ExB.of (Ex.new hp)), b6.ex (Ex.new hp), p, b, a, z2, none, none, none, upd_same, isJ_way hi hz2, rfl⟩
    · rintro σ' H3 ⟨E3, b3, o, bo, ao, zo, x6, x7, x8, ho, hio, rfl⟩
      refine q_cut (M := fun σ' H' => ExB bx H H' ∧ Bx H' bx ∧ ∃ (o : Addr) (b2 a2 : List Nat) (z2 : Str) (x6 x7 x8 : Option V), Tri H' o b2 a2 z2 ∧ isJ b2 a2 z2 = true ∧ σ' = [some (.ref bx), some (.ref t), some (.ref o), some (.int m), none, none, x6, x7, x8]) ?_ ?_
      · refine s_when (b := decide (m = 2)) (by first | ((with_reducible apply et_test); (repeat' (first | ((with_reducible refine ev_pow10 ?_ ?_ ?_) <;> first | rfl | decide) | (with_reducible refine fun (_ : _ = true) => ?_) | (with_reducible refine fun (_ : _ = false) => ?_) | (with_reducible exact ev_c) | ((with_reducible apply ev_var); rfl) | (with_reducible apply ev_op) | (with_reducible apply ev_un) | (with_reducible apply ev_cb) | (with_reducible apply ea_cons) | (with_reducible apply ev_andV) | (with_reducible apply ev_orV) | (with_reducible apply ev_notV) | (with_reducible apply ev_if) | (with_reducible apply eo_some) | (with_reducible apply el_lst) | (with_reducible exact ea_nil) | (with_reducible exact rv_I0) | (with_reducible exact ru_neg) | (with_reducible exact rv_ltS) | (with_reducible exact rv_inC) | (with_reducible exact rv_notInC) | (with_reducible exact rc_intI) | (with_reducible exact rc_intB) | (with_reducible exact rc_min2) | (with_reducible exact rc_isStr) | (with_reducible exact eo_none) | (with_reducible exact rv_inSS) | (with_reducible exact rv_notInSS) | (with_reducible exact rv_ltSS) | (with_reducible exact rv_eqSS) | (with_reducible exact rv_eqII) | (with_reducible exact rv_neII) | (with_reducible exact rv_neSS) | ((with_reducible refine rc_lenSS ?_); (first | assumption | omega | decide | (simp only [S_len] at *; omega))) | ((with_reducible refine rc_lenStr ?_); (first | assumption | omega | decide | (simp only [S_len] at *; omega))) | ((with_reducible refine rv_catSS ?_); (first | assumption | omega | decide | (simp only [S_len] at *; omega))) | (with_reducible exact rv_eq rfl) | (with_reducible exact rv_ne rfl) | ((with_reducible refine rc_lenS ?_); (first | assumption | omega | decide | (simp only [S_len] at *; omega))) | ((with_reducible refine rc_lenL ?_); assumption) | ((with_reducible apply rv_ixL); assumption; rfl) | ((with_reducible refine rv_catS ?_); (first | assumption | omega | decide | (simp only [S_len] at *; omega))) | ((with_reducible refine rv_I ?_); (first | (show (0 : Int) < _; (first | assumption | omega | decide | (simp only [S_len] at *; omega))) | exact .inr ⟨by decide, by decide⟩ | exact .inl ⟨by (first | assumption | omega | decide | (simp only [S_len] at *; omega)), by (first | assumption | omega | decide | (simp only [S_len] at *; omega))⟩ | exact .inr ⟨by (first | assumption | omega | decide | (simp only [S_len] at *; omega)), by (first | assumption | omega | decide | (simp only [S_len] at *; omega))⟩ | exact ⟨by decide, by decide, by decide⟩ | exact wide_div (b := 128) (by (first | assumption | omega | decide | (simp only [S_len] at *; omega))) (by (first | assumption | omega | decide | (simp only [S_len] at *; omega))) (by decide) (by decide)))))) | ((with_reducible apply et_B); (repeat' (first | ((with_reducible refine ev_pow10 ?_ ?_ ?_) <;> first | rfl | decide) | (with_reducible refine fun (_ : _ = true) => ?_) | (with_reducible refine fun (_ : _ = false) => ?_) | (with_reducible exact ev_c) | ((with_reducible apply ev_var); rfl) | (with_reducible apply ev_op) | (with_reducible apply ev_un) | (with_reducible apply ev_cb) | (with_reducible apply ea_cons) | (with_reducible apply ev_andV) | (with_reducible apply ev_orV) | (with_reducible apply ev_notV) | (with_reducible apply ev_if) | (with_reducible apply eo_some) | (with_reducible apply el_lst) | (with_reducible exact ea_nil) | (with_reducible exact rv_I0) | (with_reducible exact ru_neg) | (with_reducible exact rv_ltS) | (with_reducible exact rv_inC) | (with_reducible exact rv_notInC) | (with_reducible exact rc_intI) | (with_reducible exact rc_intB) | (with_reducible exact rc_min2) | (with_reducible exact rc_isStr) | (with_reducible exact eo_none) | (with_reducible exact rv_inSS) | (with_reducible exact rv_notInSS) | (with_reducible exact rv_ltSS) | (with_reducible exact rv_eqSS) | (with_reducible exact rv_eqII) | (with_reducible exact rv_neII) | (with_reducible exact rv_neSS) | ((with_reducible refine rc_lenSS ?_); (first | assumption | omega | decide | (simp only [S_len] at *; omega))) | ((with_reducible refine rc_lenStr ?_); (first | assumption | omega | decide | (simp only [S_len] at *; omega))) | ((with_reducible refine rv_catSS ?_); (first | assumption | omega | decide | (simp only [S_len] at *; omega))) | (with_reducible exact rv_eq rfl) | (with_reducible exact rv_ne rfl) | ((with_reducible refine rc_lenS ?_); (first | assumption | omega | decide | (simp only [S_len] at *; omega))) | ((with_reducible refine rc_lenL ?_); assumption) | ((with_reducible apply rv_ixL); assumption; rfl) | ((with_reducible refine rv_catS ?_); (first | assumption | omega | decide | (simp only [S_len] at *; omega))) | ((with_reducible refine rv_I ?_); (first | (show (0 : Int) < _; (first | assumption | omega | decide | (simp only [S_len] at *; omega))) | exact .inr ⟨by decide, by decide⟩ | exact .inl ⟨by (first | assumption | omega | decide | (simp only [S_len] at *; omega)), by (first | assumption | omega | decide | (simp only [S_len] at *; omega))⟩ | exact .inr ⟨by (first | assumption | omega | decide | (simp only [S_len] at *; omega)), by (first | assumption | omega | decide | (simp only [S_len] at *; omega))⟩ | exact ⟨by decide, by decide, by decide⟩ | exact wide_div (b := 128) (by (first | assumption | omega | decide | (simp only [S_len] at *; omega))) (by (first | assumption | omega | decide | (simp only [S_len] at *; omega))) (by decide) (by decide))))))) (fun _ H4 e4 => ?_) (fun _ H4 e4 => ⟨E3.trans (ExB.of e4), b3.ex e4, o, bo, ao, zo, x6, x7, x8, ho.ex e4, hio, rfl⟩)
        have E4 := E3.trans (ExB.of (b := bx) e4)
        have b4 := b3.ex e4
        have t4 := ht.exB hb E4
        refine q_first (op_c ?_)
        refine sp_take_then (b := bx) (many := (a.length : Int) - 1) rfl b4 ?_ (by omega) (Nat.lt_of_le_of_lt (show ((a.length : Int) - 1).natAbs ≤ 100 by omega) (by decide)) fun d H5 d0 d1 e5 b5 => ?_
        · exact ev_op (ev_cb (ea_cons (ev_t1 (te := tVar 1) (ev_var rfl) t4) ea_nil) (rc_lenT3 (by omega))) ev_c rv_I0
        refine ⟨_, _, rfl, rfl, ?_⟩
        obtain ⟨k, hk⟩ : ∃ k : Nat, (1 : Int) + d = (k : Int) := ⟨(1 + d).toNat, by omega⟩
        dsimp only
        rw [hk]
        have E5 := E4.trans e5
        have t5 := ht.exB hb E5
        refine q_first (op_fst (op_fst ?_))
        refine ev_to (k := k) (ev_t1 (te := tVar 1) (ev_var rfl) t5) (ev_var (i := 6) rfl) (by omega) H5 (Ex.refl H5) _ fun H6 e6 => ?_
        refine op_c ?_
        refine sp_take_then (b := bx) (many := 5) rfl (b5.ex e6) (by exact ev_c) (by decide) (by decide) fun u H7 u0 u1 e7 b7 => ?_
        refine ⟨S (46 :: kL), u, (46 :: kL).getD u.toNat 0, rfl, rfl, sz_of (by decide), atI_i u0 (by show u < 5; exact u1) 0, ?_⟩
        have hc : (46 :: kL).getD u.toNat 0 ∈ 46 :: kL := getD_in (by show u.toNat < 5; omega)
        generalize (46 :: kL).getD u.toNat 0 = c at hc
        refine ⟨S (a.take k), S [c], rfl, rfl, sz_of (by rw [S_len, S_len, List.length_take]; simp; omega), ?_⟩
        rw [S_app]
        have E7 := (E5.trans (ExB.of e6)).trans e7
        have t7 := ht.exB hb E7
        refine ev_from (k := k + 1) (ev_t1 (te := tVar 1) (ev_var rfl) t7) (by rw [show ((k + 1 : Nat) : Int) = (k : Int) + 1 by omega]; exact ev_op (ev_var (i := 6) rfl) ev_c rv_I0) (by omega) H7 (Ex.refl H7) _ fun H8 e8 => ?_
        refine ⟨S (a.take k ++ [c]), S (a.drop (k + 1)), rfl, rfl, sz_of (by rw [S_len, S_len, List.length_append, List.length_take, List.length_drop]; simp; omega), ?_⟩
        rw [S_app]
        have t8 := t7.ex e8
        refine asg_fst (tup_fst ?_)
        refine cons_fst (ev_t0 (te := tVar 1) (ev_var rfl) t8 H8 (Ex.refl H8) _ fun H9 e9 => ?_)
        refine ⟨_, rfl, ?_⟩
        dsimp only
        refine cons_fst (ev_t2 (te := tVar 1) (ev_var rfl) (t8.ex e9) H9 (Ex.refl H9) _ fun H10 e10 => ?_)
        refine ⟨sz_of (by simp), fun p hp => ?_⟩
        exact ⟨(E7.trans (ExB.of ((e8.trans e9).trans e10))).trans (ExB.of (Ex.new hp)), (b7.ex ((e8.trans e9).trans e10)).ex (Ex.new hp), p, b, a.take k ++ [c] ++ a.drop (k + 1), z, _, _, x8, upd_same, isJ_after hi (by omega) (by omega) hc, rfl⟩
      · rintro σ' H4 ⟨E4, b4, o, bo, ao, zo, x6, x7, x8, ho, hio, rfl⟩
        refine q_cut (M := fun σ' H' => ExB bx H H' ∧ Bx H' bx ∧ ∃ (o : Addr) (b2 a2 : List Nat) (z2 : Str) (x6 x7 x8 : Option V), Tri H' o b2 a2 z2 ∧ isJ b2 a2 z2 = true ∧ σ' = [some (.ref bx), some (.ref t), some (.ref o), some (.int m), none, none, x6, x7, x8]) ?_ ?_
        · refine s_when (b := decide (m = 3)) (by first | ((with_reducible apply et_test); (repeat' (first | ((with_reducible refine ev_pow10 ?_ ?_ ?_) <;> first | rfl | decide) | (with_reducible refine fun (_ : _ = true) => ?_) | (with_reducible refine fun (_ : _ = false) => ?_) | (with_reducible exact ev_c) | ((with_reducible apply ev_var); rfl) | (with_reducible apply ev_op) | (with_reducible apply ev_un) | (with_reducible apply ev_cb) | (with_reducible apply ea_cons) | (with_reducible apply ev_andV) | (with_reducible apply ev_orV) | (with_reducible apply ev_notV) | (with_reducible apply ev_if) | (with_reducible apply eo_some) | (with_reducible apply el_lst) | (with_reducible exact ea_nil) | (with_reducible exact rv_I0) | (with_reducible exact ru_neg) | (with_reducible exact rv_ltS) | (with_reducible exact rv_inC) | (with_reducible exact rv_notInC) | (with_reducible exact rc_intI) | (with_reducible exact rc_intB) | (with_reducible exact rc_min2) | (with_reducible exact rc_isStr) | (with_reducible exact eo_none) | (with_reducible exact rv_inSS) | (with_reducible exact rv_notInSS) | (with_reducible exact rv_ltSS) | (with_reducible exact rv_eqSS) | (with_reducible exact rv_eqII) | (with_reducible exact rv_neII) | (with_reducible exact rv_neSS) | ((with_reducible refine rc_lenSS ?_); (first | assumption | omega | decide | (simp only [S_len] at *; omega))) | ((with_reducible refine rc_lenStr ?_); (first | assumption | omega | decide | (simp only [S_len] at *; omega))) | ((with_reducible refine rv_catSS ?_); (first | assumption | omega | decide | (simp only [S_len] at *; omega))) | (with_reducible exact rv_eq rfl) | (with_reducible exact rv_ne rfl) | ((with_reducible refine rc_lenS ?_); (first | assumption | omega | decide | (simp only [S_len] at *; omega))) | ((with_reducible refine rc_lenL ?_); assumption) | ((with_reducible apply rv_ixL); assumption; rfl) | ((with_reducible refine rv_catS ?_); (first | assumption | omega | decide | (simp only [S_len] at *; omega))) | ((with_reducible refine rv_I ?_); (first | (show (0 : Int) < _; (first | assumption | omega | decide | (simp only [S_len] at *; omega))) | exact .inr ⟨by decide, by decide⟩ | exact .inl ⟨by (first | assumption | omega | decide | (simp only [S_len] at *; omega)), by (first | assumption | omega | decide | (simp only [S_len] at *; omega))⟩ | exact .inr ⟨by (first | assumption | omega | decide | (simp only [S_len] at *; omega)), by (first | assumption | omega | decide | (simp only [S_len] at *; omega))⟩ | exact ⟨by decide, by decide, by decide⟩ | exact wide_div (b := 128) (by (first | assumption | omega | decide | (simp only [S_len] at *; omega))) (by (first | assumption | omega | decide | (simp only [S_len] at *; omega))) (by decide) (by decide)))))) | ((with_reducible apply et_B); (repeat' (first | ((with_reducible refine ev_pow10 ?_ ?_ ?_) <;> first | rfl | decide) | (with_reducible refine fun (_ : _ = true) => ?_) | (with_reducible refine fun (_ : _ = false) => ?_) | (with_reducible exact ev_c) | ((with_reducible apply ev_var); rfl) | (with_reducible apply ev_op) | (with_reducible apply ev_un) | (with_reducible apply ev_cb) | (with_reducible apply ea_cons) | (with_reducible apply ev_andV) | (with_reducible apply ev_orV) | (with_reducible apply ev_notV) | (with_reducible apply ev_if) | (with_reducible apply eo_some) | (with_reducible apply el_lst) | (with_reducible exact ea_nil) | (with_reducible exact rv_I0) | (with_reducible exact ru_neg) | (with_reducible exact rv_ltS) | (with_reducible exact rv_inC) | (with_reducible exact rv_notInC) | (with_reducible exact rc_intI) | (with_reducible exact rc_intB) | (with_reducible exact rc_min2) | (with_reducible exact rc_isStr) | (with_reducible exact eo_none) | (with_reducible exact rv_inSS) | (with_reducible exact rv_notInSS) | (with_reducible exact rv_ltSS) | (with_reducible exact rv_eqSS) | (with_reducible exact rv_eqII) | (with_reducible exact rv_neII) | (with_reducible exact rv_neSS) | ((with_reducible refine rc_lenSS ?_); (first | assumption | omega | decide | (simp only [S_len] at *; omega))) | ((with_reducible refine rc_lenStr ?_); (first | assumption | omega | decide | (simp only [S_len] at *; omega))) | ((with_reducible refine rv_catSS ?_); (first | assumption | omega | decide | (simp only [S_len] at *; omega))) | (with_reducible exact rv_eq rfl) | (with_reducible exact rv_ne rfl) | ((with_reducible refine rc_lenS ?_); (first | assumption | omega | decide | (simp only [S_len] at *; omega))) | ((with_reducible refine rc_lenL ?_); assumption) | ((with_reducible apply rv_ixL); assumption; rfl) | ((with_reducible refine rv_catS ?_); (first | assumption | omega | decide | (simp only [S_len] at *; omega))) | ((with_reducible refine rv_I ?_); (first | (show (0 : Int) < _; (first | assumption | omega | decide | (simp only [S_len] at *; omega))) | exact .inr ⟨by decide, by decide⟩ | exact .inl ⟨by (first | assumption | omega | decide | (simp only [S_len] at *; omega)), by (first | assumption | omega | decide | (simp only [S_len] at *; omega))⟩ | exact .inr ⟨by (first | assumption | omega | decide | (simp only [S_len] at *; omega)), by (first | assumption | omega | decide | (simp only [S_len] at *; omega))⟩ | exact ⟨by decide, by decide, by decide⟩ | exact wide_div (b := 128) (by (first | assumption | omega | decide | (simp only [S_len] at *; omega))) (by (first | assumption | omega | decide | (simp only [S_len] at *; omega))) (by decide) (by decide))))))) (fun _ H5 e5 => ?_) (fun _ H5 e5 => ⟨E4.trans (ExB.of e5), b4.ex e5, o, bo, ao, zo, x6, x7, x8, ho.ex e5, hio, rfl⟩)
          have E5 := E4.trans (ExB.of (b := bx) e5)
          have b5 := b4.ex e5
          have t5 := ht.exB hb E5
          refine q_first ?_
          refine sp_take_then (b := bx) (many := (b.length : Int) - 1) rfl b5 ?_ (by omega) (Nat.lt_of_le_of_lt (show ((b.length : Int) - 1).natAbs ≤ 100 by omega) (by decide)) fun d H6 d0 d1 e6 b6 => ?_
          · exact ev_op (ev_cb (ea_cons (ev_t0 (te := tVar 1) (ev_var rfl) t5) ea_nil) (rc_lenT3 (by omega))) ev_c rv_I0
          obtain ⟨k, rfl⟩ : ∃ k : Nat, d = (k : Int) := ⟨d.toNat, by omega⟩
          have E6 := E5.trans e6
          have t6 := ht.exB hb E6
          refine q_first (op_fst (op_fst ?_))
          refine ev_to (k := k) (ev_t0 (te := tVar 1) (ev_var rfl) t6) (ev_var (i := 6) rfl) (by omega) H6 (Ex.refl H6) _ fun H7 e7 => ?_
          refine op_c ?_
          refine sp_take_then (b := bx) (many := 4) rfl (b6.ex e7) (by exact ev_c) (by decide) (by decide) fun u H8 u0 u1 e8 b8 => ?_
          refine ⟨S kL, u, kL.getD u.toNat 0, rfl, rfl, sz_of (by decide), atI_i u0 (by show u < 4; exact u1) 0, ?_⟩
          have hc : kL.getD u.toNat 0 ∈ kL := getD_in (by show u.toNat < 4; omega)
          generalize kL.getD u.toNat 0 = c at hc
          refine ⟨S (b.take k), S [c], rfl, rfl, sz_of (by rw [S_len, S_len, List.length_take]; simp; omega), ?_⟩
          rw [S_app]
          have E8 := (E6.trans (ExB.of e7)).trans e8
          have t8 := ht.exB hb E8
          refine ev_from (k := k + 1) (ev_t0 (te := tVar 1) (ev_var rfl) t8) (by rw [show ((k + 1 : Nat) : Int) = (k : Int) + 1 by omega]; exact ev_op (ev_var (i := 6) rfl) ev_c rv_I0) (by omega) H8 (Ex.refl H8) _ fun H9 e9 => ?_
          refine ⟨S (b.take k ++ [c]), S (b.drop (k + 1)), rfl, rfl, sz_of (by rw [S_len, S_len, List.length_append, List.length_take, List.length_drop]; simp; omega), ?_⟩
          rw [S_app]
          have t9 := t8.ex e9
          refine asg_fst (tup_fst ?_)
          refine ⟨_, rfl, ?_⟩
          dsimp only
          refine cons_fst (ev_t1 (te := tVar 1) (ev_var rfl) t9 H9 (Ex.refl H9) _ fun H10 e10 => ?_)
          refine cons_fst (ev_t2 (te := tVar 1) (ev_var rfl) (t9.ex e10) H10 (Ex.refl H10) _ fun H11 e11 => ?_)
          refine ⟨sz_of (by simp), fun p hp => ?_⟩
          exact ⟨(E8.trans (ExB.of ((e9.trans e10).trans e11))).trans (ExB.of (Ex.new hp)), (b8.ex ((e9.trans e10).trans e11)).ex (Ex.new hp), p, b.take k ++ [c] ++ b.drop (k + 1), a, z, _, x7, _, upd_same, isJ_before hi (by omega) hc, rfl⟩
        · rintro σ' H5 ⟨E5, b5, o, bo, ao, zo, x6, x7, x8, ho, hio, rfl⟩
          refine q_cut (M := fun σ' H' => ExB bx H H' ∧ Bx H' bx ∧ ∃ (o : Addr) (b2 a2 : List Nat) (z2 : Str) (x6 x7 x8 : Option V), Tri H' o b2 a2 z2 ∧ isJ b2 a2 z2 = true ∧ σ' = [some (.ref bx), some (.ref t), some (.ref o), some (.int m), none, none, x6, x7, x8]) ?_ ?_
          · refine s_when (b := decide (m = 4)) (by first | ((with_reducible apply et_test); (repeat' (first | ((with_reducible refine ev_pow10 ?_ ?_ ?_) <;> first | rfl | decide) | (with_reducible refine fun (_ : _ = true) => ?_) | (with_reducible refine fun (_ : _ = false) => ?_) | (with_reducible exact ev_c) | ((with_reducible apply ev_var); rfl) | (with_reducible apply ev_op) | (with_reducible apply ev_un) | (with_reducible apply ev_cb) | (with_reducible apply ea_cons) | (with_reducible apply ev_andV) | (with_reducible apply ev_orV) | (with_reducible apply ev_notV) | (with_reducible apply ev_if) | (with_reducible apply eo_some) | (with_reducible apply el_lst) | (with_reducible exact ea_nil) | (with_reducible exact rv_I0) | (with_reducible exact ru_neg) | (with_reducible exact rv_ltS) | (with_reducible exact rv_inC) | (with_reducible exact rv_notInC) | (with_reducible exact rc_intI) | (with_reducible exact rc_intB) | (with_reducible exact rc_min2) | (with_reducible exact rc_isStr) | (with_reducible exact eo_none) | (with_reducible exact rv_inSS) | (with_reducible exact rv_notInSS) | (with_reducible exact rv_ltSS) | (with_reducible exact rv_eqSS) | (with_reducible exact rv_eqII) | (with_reducible exact rv_neII) | (with_reducible exact rv_neSS) | ((with_reducible refine rc_lenSS ?_); (first | assumption | omega | decide | (simp only [S_len] at *; omega))) | ((with_reducible refine rc_lenStr ?_); (first | assumption | omega | decide | (simp only [S_len] at *; omega))) | ((with_reducible refine rv_catSS ?_); (first | assumption | omega | decide | (simp only [S_len] at *; omega))) | (with_reducible exact rv_eq rfl) | (with_reducible exact rv_ne rfl) | ((with_reducible refine rc_lenS ?_); (first | assumption | omega | decide | (simp only [S_len] at *; omega))) | ((with_reducible refine rc_lenL ?_); assumption) | ((with_reducible apply rv_ixL); assumption; rfl) | ((with_reducible refine rv_catS ?_); (first | assumption | omega | decide | (simp only [S_len] at *; omega))) | ((with_reducible refine rv_I ?_); (first | (show (0 : Int) < _; (first | assumption | omega | decide | (simp only [S_len] at *; omega))) | exact .inr ⟨by decide, by decide⟩ | exact .inl ⟨by (first | assumption | omega | decide | (simp only [S_len] at *; omega)), by (first | assumption | omega | decide | (simp only [S_len] at *; omega))⟩ | exact .inr ⟨by (first | assumption | omega | decide | (simp only [S_len] at *; omega)), by (first | assumption | omega | decide | (simp only [S_len] at *; omega))⟩ | exact ⟨by decide, by decide, by decide⟩ | exact wide_div (b := 128) (by (first | assumption | omega | decide | (simp only [S_len] at *; omega))) (by (first | assumption | omega | decide | (simp only [S_len] at *; omega))) (by decide) (by decide)))))) | ((with_reducible apply et_B); (repeat' (first | ((with_reducible refine ev_pow10 ?_ ?_ ?_) <;> first | rfl | decide) | (with_reducible refine fun (_ : _ = true) => ?_) | (with_reducible refine fun (_ : _ = false) => ?_) | (with_reducible exact ev_c) | ((with_reducible apply ev_var); rfl) | (with_reducible apply ev_op) | (with_reducible apply ev_un) | (with_reducible apply ev_cb) | (with_reducible apply ea_cons) | (with_reducible apply ev_andV) | (with_reducible apply ev_orV) | (with_reducible apply ev_notV) | (with_reducible apply ev_if) | (with_reducible apply eo_some) | (with_reducible apply el_lst) | (with_reducible exact ea_nil) | (with_reducible exact rv_I0) | (with_reducible exact ru_neg) | (with_reducible exact rv_ltS) | (with_reducible exact rv_inC) | (with_reducible exact rv_notInC) | (with_reducible exact rc_intI) | (with_reducible exact rc_intB) | (with_reducible exact rc_min2) | (with_reducible exact rc_isStr) | (with_reducible exact eo_none) | (with_reducible exact rv_inSS) | (with_reducible exact rv_notInSS) | (with_reducible exact rv_ltSS) | (with_reducible exact rv_eqSS) | (with_reducible exact rv_eqII) | (with_reducible exact rv_neII) | (with_reducible exact rv_neSS) | ((with_reducible refine rc_lenSS ?_); (first | assumption | omega | decide | (simp only [S_len] at *; omega))) | ((with_reducible refine rc_lenStr ?_); (first | assumption | omega | decide | (simp only [S_len] at *; omega))) | ((with_reducible refine rv_catSS ?_); (first | assumption | omega | decide | (simp only [S_len] at *; omega))) | (with_reducible exact rv_eq rfl) | (with_reducible exact rv_ne rfl) | ((with_reducible refine rc_lenS ?_); (first | assumption | omega | decide | (simp only [S_len] at *; omega))) | ((with_reducible refine rc_lenL ?_); assumption) | ((with_reducible apply rv_ixL); assumption; rfl) | ((with_reducible refine rv_catS ?_); (first | assumption | omega | decide | (simp only [S_len] at *; omega))) | ((with_reducible refine rv_I ?_); (first | (show (0 : Int) < _; (first | assumption | omega | decide | (simp only [S_len] at *; omega))) | exact .inr ⟨by decide, by decide⟩ | exact .inl ⟨by (first | assumption | omega | decide | (simp only [S_len] at *; omega)), by (first | assumption | omega | decide | (simp only [S_len] at *; omega))⟩ | exact .inr ⟨by (first | assumption | omega | decide | (simp only [S_len] at *; omega)), by (first | assumption | omega | decide | (simp only [S_len] at *; omega))⟩ | exact ⟨by decide, by decide, by decide⟩ | exact wide_div (b := 128) (by (first | assumption | omega | decide | (simp only [S_len] at *; omega))) (by (first | assumption | omega | decide | (simp only [S_len] at *; omega))) (by decide) (by decide))))))) (fun _ H6 e6 => ?_) (fun _ H6 e6 => ⟨E5.trans (ExB.of e6), b5.ex e6, o, bo, ao, zo, x6, x7, x8, ho.ex e6, hio, rfl⟩)
            exact ⟨_, rfl, bx, rfl, b5.ex e6, fun p b2 a2 z2 H7 hp h2 h3 e7 b7 => ⟨(E5.trans (ExB.of e6)).trans e7, b7, p, b2, a2, z2, x6, x7, x8, h3, h2, rfl⟩⟩
          · rintro σ' H6 ⟨E6, b6, o, bo, ao, zo, x6, x7, x8, ho, hio, rfl⟩
            have t6 := ht.exB hb E6
            refine q_asgJ (ev_make hi (ev_t0 (te := tVar 1) (ev_var rfl) t6) (ev_t1 (te := tVar 1) (ev_var rfl) t6) (ev_t2 (te := tVar 1) (ev_var rfl) t6)) fun p1 H7 hp1 e7 hj1 => ?_
            have t7 := t6.ex e7
            have o7 := ho.ex e7
            obtain ⟨r1, r2, r3⟩ := rd_written hio
            obtain ⟨lw, ll⟩ := low_written hio
            refine q_first ⟨rfl, ?_⟩
            refine cons_fst (ev_written (te := tVar 2) (ev_var rfl) o7 hio H7 (Ex.refl H7) _ fun H8 e8 => ?_)
            refine ⟨_, rfl, by omega, lw, fun _ p2 H9 hp2 e9 hj2 => ?_, fun hn => by rw [r1, r2, r3, hio] at hn; cases hn⟩
            rw [r1, r2, r3] at hj2
            have j1 := (hj1.ex e8).ex e9
            have t9 := (t7.ex e8).ex e9
            have o9 := (o7.ex e8).ex e9
            refine q_when (b := (!true || !true)) (et_or (et_test (ev_op (ev_op (ta := tVar 4) (tb := tVar 5) (ev_var rfl) (ev_var rfl) (rv_eqJ j1 hj2)) (ev_op (ta := tVar 1) (tb := tVar 2) (ev_var rfl) (ev_var rfl) (rv_eqD t9 o9 hi hio)) (rv_neBB rfl))) fun _ => et_test (ev_op (ev_op (ta := tVar 5) (tb := tVar 4) (ev_var rfl) (ev_var rfl) (rv_eqJ hj2 j1)) (ev_op (ta := tVar 1) (tb := tVar 2) (ev_var rfl) (ev_var rfl) (rv_eqD t9 o9 hi hio)) (rv_neBB dec_comm))) (fun hc => by cases hc) (fun _ H10 e10 => ?_)
            refine s_ret (v := .bl (true && true)) (ev_andV (ev_shown (te := tVar 4) (tb := tVar 1) (ev_var rfl) (ev_var rfl) (j1.ex e10) (t9.ex e10) hi) fun _ => ev_shown (te := tVar 5) (tb := tVar 2) (ev_var rfl) (ev_var rfl) (hj2.ex e10) (o9.ex e10) hio) fun H11 e11 => ?_
            have ee := (((e7.trans e8).trans e9).trans e10).trans e11
            exact q H11 (E6.trans (ExB.of ee)) (b6.ex ee)
end
end K03
namespace K03
open PySem PySem.Spec PyProof.Rows L2 Lc Evl
section
variable {P : Program} {w : World} {K : PySem.W.Frag} {mg : Str → Option Value} {base : Heap}
/-! ### the law -/
def sp_law (K : PySem.W.Frag) : Sp := fun vs H Q _ => ∃ (a : Addr) (ns : List Int), vs = [.ref a] ∧ SqL K H a (ns.map V.int) ∧ ∀ H1, Q (.bl true) H1
theorem new_seq {H H1 H2 : Hp} {a b : Addr} {xs : List V} (hs : SqL K H a xs) (hb : H b = none) (e : Ex H H1) (e2 : ExB b H1 H2) : SqL K H2 a xs := by
  have k : ∀ o, H a = some o → H2 a = some o := fun o h => e2 a o (fun z => by rw [z, hb] at h; cases h) (e a o h)
  rcases hs with (h | ⟨o, h⟩) | h
  · exact .inl (.inl (k _ h))
  · exact .inl (.inr ⟨o, k _ h⟩)
  · exact .inr h
theorem ev_readL {σ : L2.St} {H : Hp} {te : TE} {l : List Nat} (h : Ev te σ H (.str (S l))) (hl : l.length ≤ 100) (hlow : Low l) : Ev (tCall (sp_law_read_asked K) [] E0 (tCons te tNil)) σ H (.bl true) :=
  ev_call (ea_cons h ea_nil) fun H1 e1 Q q E => ⟨l, rfl, hl, hlow, q⟩
theorem or_fst {σ : L2.St} {H : Hp} {t u : TT} {Q : Bool → Hp → Prop} (h : EvT t σ H false) (k : ∀ H1, Ex H H1 → u σ H1 Q) : tOr t u σ H Q := h H (Ex.refl H) _ fun H1 e => k H1 e
theorem ok_law (T : Tx K mg w) : OkD P w K mg base 8 d_law ps_law (sp_law K) := by
  refine (h_law T).ok sc_law (fun vs H Q E h => ?_) (fun cdv A outer s H vs Q E hr h => ⟨_,
      (pss_cons (ps_for (passes_of rfl) rfl (pi_range1 rfl (m_range T) (pa_cons pe_int pa_nil)) (pg_name (i := 1) sc_law.nd rfl (Or.inl rfl)) (pss_cons (ps_set (i := 2) sc_law.nd rfl (Or.inl rfl) (pe_call (ok_law_box (P := P) (w := w) (base := base) T) (hr.mono (by decide)) (by rfl) (m_law_box T) (k_law_box T) (b_law_box T) .nil passN (pa_cons (pv 0) (pa_cons (pv 1) pa_nil))))
      (pss_cons (ps_if (pt_not (pt_val (pe_call (ok_law_class_asked (P := P) (w := w) (base := base) T) (hr.mono (by decide)) (by rfl) (m_law_class_asked T) (k_law_class_asked T) (b_law_class_asked T) .nil passN (pa_cons (pe_call (ok_law_drawn (P := P) (w := w) (base := base) T) (hr.mono (by decide)) (by rfl) (m_law_drawn T) (k_law_drawn T) (b_law_drawn T) .nil passN (pa_cons (pv 2) pa_nil)) (pa_cons (pe_call (ok_law_take (P := P) (w := w) (base := base) T) (hr.mono (by decide)) (by rfl) (m_law_take T) (k_law_take T) (b_law_take T) .nil passN (pa_cons (pv 2) (pa_cons pe_int pa_nil))) pa_nil))))) (pss_one (ps_ret pe_bl)) pss_nil)
      (pss_cons (ps_set (i := 2) sc_law.nd rfl (Or.inl rfl) (pe_call (ok_law_box (P := P) (w := w) (base := base) T) (hr.mono (by decide)) (by rfl) (m_law_box T) (k_law_box T) (b_law_box T) .nil passN (pa_cons (pv 0) (pa_cons (pe_op op_add pe_int (pv 1)) pa_nil))))
      (pss_cons (ps_set (i := 3) sc_law.nd rfl (Or.inl rfl) (pe_call (ok_law_good (P := P) (w := w) (base := base) T) (hr.mono (by decide)) (by rfl) (m_law_good T) (k_law_good T) (b_law_good T) .nil passN (pa_cons (pv 2) pa_nil)))
      (pss_cons (ps_if (PW.pt (pw_or (pt_not (pt_val (pe_call (ok_law_read_asked (P := P) (w := w) (base := base) T) (hr.mono (by decide)) (by rfl) (m_law_read_asked T) (k_law_read_asked T) (b_law_read_asked T) .nil passN (pa_cons (pe_call (ok_law_written (P := P) (w := w) (base := base) T) (hr.mono (by decide)) (by rfl) (m_law_written T) (k_law_written T) (b_law_written T) .nil passN (pa_cons (pv 3) pa_nil)) pa_nil)))) (pw_or1 (pt_not (pt_val (pe_call (ok_law_twins (P := P) (w := w) (base := base) T) (hr.mono (by decide)) (by rfl) (m_law_twins T) (k_law_twins T) (b_law_twins T) .nil passN (pa_cons (pv 2) (pa_cons (pv 3) pa_nil)))))))) (pss_one (ps_ret pe_bl)) pss_nil)
      (pss_cons (ps_set (i := 4) sc_law.nd rfl (Or.inl rfl) (pe_call (ok_law_bend (P := P) (w := w) (base := base) T) (hr.mono (by decide)) (by rfl) (m_law_bend T) (k_law_bend T) (b_law_bend T) .nil passN (pa_cons (pv 2) (pa_cons (pe_call (ok_law_written (P := P) (w := w) (base := base) T) (hr.mono (by decide)) (by rfl) (m_law_written T) (k_law_written T) (b_law_written T) .nil passN (pa_cons (pv 3) pa_nil)) pa_nil))))
      (pss_cons (ps_if (pt_cmpR op_eq (pe_call (ok_law_take (P := P) (w := w) (base := base) T) (hr.mono (by decide)) (by rfl) (m_law_take T) (k_law_take T) (b_law_take T) .nil passN (pa_cons (pv 2) (pa_cons pe_int pa_nil))) pe_int (nomark _)) (pss_one (ps_set (i := 4) sc_law.nd rfl (Or.inl rfl) (pe_call (ok_law_bend (P := P) (w := w) (base := base) T) (hr.mono (by decide)) (by rfl) (m_law_bend T) (k_law_bend T) (b_law_bend T) .nil passN (pa_cons (pv 2) (pa_cons (pv 4) pa_nil))))) pss_nil)
      (pss_one (ps_if (pt_not (pt_val (pe_call (ok_law_read_asked (P := P) (w := w) (base := base) T) (hr.mono (by decide)) (by rfl) (m_law_read_asked T) (k_law_read_asked T) (b_law_read_asked T) .nil passN (pa_cons (pv 4) pa_nil)))) (pss_one (ps_ret pe_bl)) pss_nil))))))))))
      (pss_one (ps_ret (pe_call (ok_law_read_asked (P := P) (w := w) (base := base) T) (hr.mono (by decide)) (by rfl) (m_law_read_asked T) (k_law_read_asked T) (b_law_read_asked T) .nil passN (pa_cons (pe_call (ok_law_loose (P := P) (w := w) (base := base) T) (hr.mono (by decide)) (by rfl) (m_law_loose T) (k_law_loose T) (b_law_loose T) .nil passN (pa_cons (pe_call (ok_law_box (P := P) (w := w) (base := base) T) (hr.mono (by decide)) (by rfl) (m_law_box T) (k_law_box T) (b_law_box T) .nil passN (pa_cons (pv 0) (pa_cons pe_int pa_nil))) (pa_cons pe_int pa_nil))) pa_nil))))), ?_⟩)
  · obtain ⟨a, ns, rfl, _⟩ := h
    rfl
  · obtain ⟨a, ns, rfl, hs, q⟩ := h
    refine q_forR1 (n := 2) (ea_cons ev_c ea_nil) (by decide) (fun i σ' H' => SqL K H' a (ns.map V.int) ∧ ∃ x1 x2 x3 x4, σ' = [some (.ref a), x1, x2, x3, x4]) (fun H1 e1 => ⟨ex_l e1 hs, none, none, none, none, rfl⟩) ?_ ?_
    · rintro i σ' H' hi ⟨hs', x1, x2, x3, x4, rfl⟩
      refine ⟨_, rfl, _, rfl, a, ns, (i : Int), rfl, hs', by omega, by omega, fun bx H1 hbx e1 bb => ?_⟩
      refine ⟨_, rfl, bx, rfl, bb, fun t b1 a1 z1 H2 ht hb ha hl h2 e2 b2 => ?_⟩
      refine sp_take_then (b := bx) (many := 3) rfl b2 (by exact ev_c) (by decide) (by decide) fun f H3 f0 f1 e3 b3 => ?_
      refine ⟨t, f, b1, a1, z1, rfl, h2.exB b2 e3, hb, ha, hl, fun H4 e4 => ?_⟩
      refine ⟨_, rfl, ?_⟩
      refine iteF ?_
      dsimp only [tNext]
      have s4 : SqL K H4 a (ns.map V.int) := new_seq hs' hbx e1 ((e2.trans e3).trans (ExB.of e4))
      clear hs' hbx e1 bb ht hb ha hl h2 e2 b2 f0 f1 e3 b3 e4
      refine q_first ⟨_, rfl, _, rfl, _, _, rfl, rfl, ?_⟩
      refine ⟨a, ns, 2 + (i : Int), rfl, s4, by omega, by omega, fun by_ H5 hby e5 bby => ?_⟩
      refine q_first ⟨_, rfl, by_, rfl, bby, fun t b a1 z H6 ht hi6 h6 e6 b6 => ?_⟩
      obtain ⟨lw, ll⟩ := low_written hi6
      refine or_fst (et_not (a := true) (et_B (ev_readL (ev_written (te := tVar 3) (ev_var rfl) h6 hi6) (by omega) lw))) fun H7 e7 => ?_
      refine ⟨_, rfl, _, rfl, by_, t, b, a1, z, rfl, b6.ex e7, h6.ex e7, hi6, fun H8 e8 b8 => ?_⟩
      refine ⟨_, rfl, ?_⟩
      refine iteF ?_
      dsimp only [tNext]
      have h8 := (h6.ex e7).exB (b6.ex e7) e8
      refine q_first ⟨_, rfl, ?_⟩
      refine cons_fst (ev_written (te := tVar 3) (ev_var rfl) h8 hi6 H8 (Ex.refl H8) _ fun H9 e9 => ?_)
      refine ⟨by_, _, rfl, b8.ex e9, by omega, lw, fun m H10 hm lm e10 b10 => ?_⟩
      have s10 : SqL K H10 a (ns.map V.int) := new_seq s4 hby e5 ((((e6.trans (ExB.of e7)).trans e8).trans (ExB.of e9)).trans e10)
      have g10 : ∀ H11, ExB by_ H10 H11 → SqL K H11 a (ns.map V.int) := fun H11 e11 => new_seq s4 hby e5 (((((e6.trans (ExB.of e7)).trans e8).trans (ExB.of e9)).trans e10).trans e11)
      refine sp_take_then (b := by_) (many := 3) rfl b10 (by exact ev_c) (by decide) (by decide) fun d H11 d0 d1 e11 b11 => ?_
      refine ⟨rfl, _, rfl, ?_⟩
      by_cases hd : d = 1
      · subst hd
        refine iteT ?_
        refine asg_fst ⟨_, rfl, _, rfl, by_, m, rfl, b11, by omega, lm, fun m2 H12 hm2 lm2 e12 b12 => ?_⟩
        refine s_when (b := !true) (et_not (et_B (ev_readL (ev_var (i := 4) rfl) (by omega) lm2))) (fun hc => by cases hc) (fun _ H13 e13 => ⟨ex_l e13 (g10 _ (e11.trans e12)), _, _, _, _, rfl⟩)
      · rw [decide_eq_false (show ¬ V.int d = V.int 1 from fun z => hd (by injection z))]
        refine iteF ?_
        dsimp only [tNext]
        refine s_when (b := !true) (et_not (et_B (ev_readL (ev_var (i := 4) rfl) (by omega) lm))) (fun hc => by cases hc) (fun _ H13 e13 => ⟨ex_l e13 (g10 _ e11), _, _, _, _, rfl⟩)
    · rintro σ' H' ⟨hs', x1, x2, x3, x4, rfl⟩
      refine ret_fst ?_
      refine ⟨_, rfl, a, ns, 4, rfl, hs', by decide, by decide, fun bx H1 hbx e1 bb => ?_⟩
      refine ⟨bx, 12, rfl, bb, by decide, by decide, fun m H2 hm lm e2 b2 => ?_⟩
      exact ⟨m, rfl, by omega, lm, fun H3 e3 => q H3⟩
end
end K03
namespace K03
open PySem PySem.Spec PyProof.Rows L2 Lc Evl
theorem walkX {l : PySem.W.OpenLaw} {m lev : Nat} {qp : Program} {los : List Str} {Xq : (Str → Option Value) → Heap → Prop} {Yq : World → Heap → Prop} {dr : DefRec} {z : Str}
    (h1 : l.most = some m) (h2 : m ≤ sizeLine) (h3 : dr.params.defaults = []) (h4 : Room lev callerA)
    (F : ∀ (w : World) (mg : Str → Option Value) (g : Addr) (hp : Heap), Yq w hp → hp.Ns mainGlobals mg → mg dr.name = some (.ref g) → ∃ (K : PySem.W.Frag) (fd : FuncData) (sp : Sp), K.In hp ∧
        (∀ (t : Shared) (v : Value), BindsTo t fd ⟨[v], []⟩ [(z, v)]) ∧ (∀ (H : Hp) (c : Addr) (is : List Int), SqL K H c (is.map V.int) → sp [.ref c] H (fun r _ => r = .bl true) fun _ _ _ => False) ∧
        ∀ b : Heap, K.In b → b.Ns mainGlobals mg → FnOk l.prog w K mg b (L2N.CX l.prog w) lev g fd [z] sp) : PySem.W.WalkO qp los Xq Yq l.row.toRowW dr [] (fun f vs => PySem.call f vs) := by
  refine Att.attach_call h1 h3 fun w _ _ mg _ g _ _ _ _ _ _ is G Y _ _ _ k1 ho hi hl hg => ?_
  obtain ⟨K, fd, sp, KX, hb, hsp, hF⟩ := F w mg g _ Y G.T.g k1
  refine law_call KX G.T.g G.T.b G.T.builtins G.T.nolimit hg ho hi (Nat.le_trans hl h2) h4 hF hb (fun H _ hS => hsp H _ is hS) ?_
  intro H e s' h
  obtain ⟨_, _, _, _, _, _, _, _, _, _, _, _, no⟩ := h
  exact no
theorem facts {P : Program} {w : World} {K : PySem.W.Frag} {h : Heap} {mg : Str → Option Value} {f : Addr} (X : K.In h) (G : h.Ns mainGlobals mg) (hfa : mg ("law" : Str) = some (.ref f)) (c : SaysM fa fn ts ex w K) :
    ∃ fd : FuncData, (∀ (s : Shared) (v : Value), BindsTo s fd ⟨[v], []⟩ [("script", v)]) ∧ ∀ base : Heap, K.In base → base.Ns mainGlobals mg → FnOk P w K mg base (L2N.CX P w) 8 f fd ["script"] (sp_law K) := by
  have T : Tx K mg w := ⟨⟨h, X, G⟩, c⟩
  have e := hfa.symm.trans (m_law T)
  cases e
  have b := FunD.bindsA (ps := ["script"]) (h_law T) fun _ _ _ _ _ _ us hl => match us, hl with | [_], _ => rfl
  exact ⟨_, fun s v => b s [v] rfl, fun base _ _ => ok_law T⟩
end K03
open PySem PySem.W PySem.Calls PyProof.Rows
theorem PySem.Challenge.cw_leapcard_k03_jumps_checked_and_written_holds : PySem.Challenge.rw_leapcard_k03_jumps_checked_and_written.Holds := by
  w_on; o_law
  refine HandSHeadRun.head_any (r := OpenLaw.row PySem.Challenge.rw_leapcard_k03_jumps_checked_and_written) (q := view (OpenLaw.row PySem.Challenge.rw_leapcard_k03_jumps_checked_and_written).prog [38]) (H := K03.hk) (ob := K03.ob) (M := 6000) (loose := K03.names) (d := HandSHeadRun.topDef (OpenLaw.row PySem.Challenge.rw_leapcard_k03_jumps_checked_and_written).prog 38) (kwd := []) K03.ob_eq
    (by kernel_rfl) (fun s => by kernel_rfl) K03.run (by kernel_rfl) (by kernel_rfl) (by kernel_rfl) (by rfl) (by first | assumption | decide +kernel) (by decide +kernel) ⟨rfl, rfl, rfl, rfl, rfl, by decide +kernel⟩ ?hw ?hc
  case hw => w_witness2
  case hc =>
    refine K03.walkX (l := PySem.Challenge.rw_leapcard_k03_jumps_checked_and_written) (m := 63) (lev := 8) (z := "script") rfl (by decide) (by kernel_rfl) ⟨rfl, by decide, by decide⟩ ?F
    intro w mg fa h Y G hmg0
    obtain ⟨K, KX, c⟩ := Y
    have hmg : mg ("law" : PySem.Str) = some (.ref fa) := by
      have e : (HandSHeadRun.topDef (OpenLaw.row PySem.Challenge.rw_leapcard_k03_jumps_checked_and_written).prog 38).name = ("law" : PySem.Str) := by kernel_rfl
      rw [← e]
      exact hmg0
    obtain ⟨fd, hb, hF⟩ := K03.facts (P := (PySem.Challenge.rw_leapcard_k03_jumps_checked_and_written).prog) (w := w) KX G hmg c
    exact ⟨K, fd, K03.sp_law K, KX, hb, fun H a ns hS => ⟨a, ns, rfl, hS, fun _ => rfl⟩, hF⟩
