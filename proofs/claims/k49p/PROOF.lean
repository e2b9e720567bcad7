import PyProof.Rows.All
import Wide.All
import OpenK.AllK
import Wide.FinOn
import HandS.ForMost
import HandS.Exc
import HandS.ExcInit
import HandS.ExcCtx
import HandS.ExcField
import HandS.ExcIs
import HandS.TryOnly
import HandS.ExcOwn
import HandS.CallSlots
import HandS.WordsExc
import HandS.HotCalls
import HandS.SuiteRaise
import HandS.Defaults
import HandS.Wide
import HandS.FStr
import HandS.StrMore
import HandS.IsInst
import HandS.Evl
import HandS.Head0
import HandS.Head1
import HandS.Head2
import HandS.HeadEnd
import HandS.HeadHook1
import HandS.HeadHook2
import HandS.EndBits
import HandS.HeadHook3
import HandS.HeadNt
import HandS.More
import HandS.ClsMeth
import HandS.Style
import HandS.SortKw
import KE.KRevSl
import KE.DatumOrd
import KE.KCallOwn
import HandS.OwnEq
import HandS.ReplaceLit
import HandS.ReplaceDef
import HandS.FStrTup
import HandS.Conv
import PyProof.CollectStr
import HandS.Zip
import KE.KOpsOwn
import PySem.Challenge.RW_leapcard_k49_pieces_cut_rows
import HandS.ReplaceList
import HandS.DictComp
import HandS.Walk
import KE.GoesZip
import KE.GoesMore
import KE.KUnpackStar
import HandS.Strs
import PyProof.Rows.SetFrom
import HandS.Codes
import KE.KIntText
import KE.IntTextText
import Flt.Len
import PyProof.StrLawsIn
set_option Elab.async false
set_option linter.all false
set_option maxRecDepth 100000
set_option maxHeartbeats 2000000
namespace Lc
open PySem PySem.Spec PyProof.Rows L2

/-! ### an error class, whatever own classes stand between it and ValueError -/
def excC (K : PySem.W.Frag) (C : Addr) : Bool := match K.lookup C with
  | some ⟨.type "type", _, .cls cd, sl⟩ => (match cd.mro, sl.toList with
    | .ref C' :: bm, [_, _, _, _, some (.builtin n), _] => C' == C && (n == "ValueError.__new__" && (!cd.hasDel && (cd.hasDict && PySem.HandSPX.refsVE bm)))
    | _, _ => false)
  | _ => false
theorem excC_ok {K : PySem.W.Frag} {C : Addr} (q : excC K C = true) :
    ∃ nm q N bs bm sn sub ab col dd k0 k1 k2 k3 k5, K.lookup C = some (excClassObj nm q C N bs bm true sn sub ab col dd k0 k1 k2 k3 k5 "ValueError.__new__") ∧ PySem.HandSPX.refsVE bm = true := by
  unfold excC at q
  split at q
  · rename_i dd cd sl ho
    split at q
    · rename_i C' bm k0 k1 k2 k3 n k5 hm hs
      simp only [Bool.and_eq_true, beq_iff_eq, Bool.not_eq_true'] at q
      obtain ⟨rfl, rfl, hdel, hd, hv⟩ := q
      obtain ⟨nm, bs, mro, ns, qn, hdd, sn, sub, ab, col, del⟩ := cd
      dsimp only at hm hdel hd
      subst hm hdel hd
      have hsl : sl = #[k0, k1, k2, k3, some (.builtin "ValueError.__new__"), k5] := by
        obtain ⟨l⟩ := sl
        simp only at hs
        rw [hs]
      subst hsl
      exact ⟨nm, qn, ns, bs, bm, sn, sub, ab, col, dd, k0, k1, k2, k3, k5, ho, hv⟩
    · cases q
  · cases q
def oexB (K : PySem.W.Frag) (C : Addr) : Bool := excC K C && (decide (PySem.W.findIn K (.ref C) "__setattr__" = some (some (.builtin "object.__setattr__"))) && (decide (PySem.W.subIn K (.ref C) (.type "BaseException") = some true) &&
  (decide (PySem.W.typeIn K (.ref C) = some (.type "type")) && PySem.W.keepIn K (.ref C))))
theorem oexB_ok {K : PySem.W.Frag} {C : Addr} (h : oexB K C = true) : OexC K C := by
  obtain ⟨h1, h⟩ := Bool.and_eq_true_iff.mp h
  obtain ⟨h2, h⟩ := Bool.and_eq_true_iff.mp h
  obtain ⟨h3, h⟩ := Bool.and_eq_true_iff.mp h
  obtain ⟨h4, h5⟩ := Bool.and_eq_true_iff.mp h
  exact ⟨excC_ok h1, of_decide_eq_true h2, of_decide_eq_true h3, of_decide_eq_true h4, h5⟩

/-! ### the facts of a head: names, defs, tables with text keys, one more Bool -/
abbrev AlE : Type := He.AlD × (List (Option (List (Option (Str × Int)))) × Bool)
def asM (g : Addr → Option Obj) (n : Nat) : List Addr := He.asD g n ++ [cStatics]
def obsE (fa : List He.Fa) (fn : List He5.DefA) (ts : List He.Tab) (ex : PySem.W.Frag → Bool) (K : PySem.W.Frag) : AlE := (He5.obsA fa fn K, ts.map (fun t => He.dicW K (t.1 K)), ex K)
def obsEG (n : Nat) (fa : List He.Fa) (fn : List He5.DefA) (ts : List He.Tab) (ex : PySem.W.Frag → Bool) (g : Addr → Option Obj) : AlE := obsE fa fn ts ex (He.frG g (asM g n))
structure SaysM (fa : List He.Fa) (fn : List He5.DefA) (ts : List He.Tab) (ex : PySem.W.Frag → Bool) (w : World) (K : PySem.W.Frag) : Prop where
  a : He5.SaysA fa fn K
  t : ts.map (fun t => He.dicW K (t.1 K)) = ts.map fun t => some (He.keysIn w.params t.2)
  e : ex K = true
def hookM (n : Nat) (fa : List He.Fa) (fn : List He5.DefA) (ts : List He.Tab) (ex : PySem.W.Frag → Bool) : PySem.W.Hook where
  α := AlE
  obs := fun s => obsEG n fa fn ts ex s.heap.get?
  val := fun w => (He5.valA fn, ts.map (fun t : He.Tab => some (He.keysIn w.params t.2)), true)
  says := fun w h => ∃ K : PySem.W.Frag, K.In h ∧ SaysM fa fn ts ex w K
  of := fun _ _ e => ⟨_, He.frG_in, congrArg (fun z : AlE => z.1) e, congrArg (fun z : AlE => z.2.1) e, congrArg (fun z : AlE => z.2.2) e⟩
  keeps := fun _ _ _ ⟨K, hK, c⟩ k => ⟨K, PySem.W.Frag.In.keeps hK k, c⟩
theorem obsEG_eq {n : Nat} {fa : List He.Fa} {fn : List He5.DefA} {ts : List He.Tab} {ex : PySem.W.Frag → Bool} {g : Addr → Option Obj} {s : Shared} (h : ∀ a, g a = s.heap.get? a) : obsEG n fa fn ts ex g = (hookM n fa fn ts ex).obs s := by
  have e : g = s.heap.get? := funext h
  rw [e] <;> rfl
theorem SaysM.tab {fa : List He.Fa} {fn : List He5.DefA} {ts : List He.Tab} {ex : PySem.W.Frag → Bool} {w : World} {K : PySem.W.Frag} (c : SaysM fa fn ts ex w K) (i : Nat) {t : He.Tab} (h : ts[i]? = some t := by rfl) : ∃ es n, KDict K w (t.1 K) es n := by
  have e : (ts.map fun t => He.dicW K (t.1 K))[i]? = (ts.map fun t => some (He.keysIn w.params t.2))[i]? := by rw [c.t]
  rw [List.getElem?_map, List.getElem?_map, h] at e
  exact He.dicW_ok (Option.some.inj e)

/-! ### a def of the text, found by where it stands -/
instance : Inhabited FuncData := ⟨PySem.W.fnOf "" "" { posonlyargs := [], args := [], vararg := none, kwonlyargs := [], kw_defaults := [], kwarg := none, defaults := [] } [] { kind := .function, names := [], isGenerator := false, isCoroutine := false } .none .none .none .none none .none .none⟩
def fdOf (K : PySem.W.Frag) (f : Addr) : FuncData := match K.lookup f with
  | some ⟨_, _, .func fd, _⟩ => fd
  | _ => default
abbrev HasD (K : PySem.W.Frag) (d : He5.DefA) : Prop := FunD K d.name d.qual d.params d.body d.scope (d.dvs K) (d.kws K) (d.at_ K) (fdOf K (d.at_ K))
theorem fdOf_eq {K : PySem.W.Frag} {x qual : Str} {pa : Arguments} {bd : List Stmt} {sc : Scope} {dvs : List V} {kws : List (Str × V)} {f : Addr} {fd : FuncData} (F : FunD K x qual pa bd sc dvs kws f fd) : fdOf K f = fd := by
  obtain ⟨oc, od, dV, kV, doc, pm, an, cdv, ct, osl, rfl, lk, _⟩ := F.ex
  unfold fdOf
  rw [lk]
theorem has_of {fa : List He.Fa} {fn : List He5.DefA} {K : PySem.W.Frag} (c : He5.SaysA fa fn K) (i : Nat) {d : He5.DefA} (h : fn[i]? = some d) : HasD K d := by
  obtain ⟨fd, F⟩ := c.def_ i h
  show FunD K d.name d.qual d.params d.body d.scope (d.dvs K) (d.kws K) (d.at_ K) (fdOf K (d.at_ K))
  rw [fdOf_eq F]
  exact F
abbrev OkD (P : Program) (w : World) (K : PySem.W.Frag) (mg : Str → Option Value) (base : Heap) (k : Nat) (d : He5.DefA) (ps : List Str) (sp : Sp) : Prop := FnOk P w K mg base (L2N.CX P w) k (d.at_ K) (fdOf K (d.at_ K)) ps sp
end Lc
namespace Lc
open PySem PySem.Spec PyProof.Rows L2
section
variable {X : Cx}
/-! ### s[::-1] of a text -/
def revS (z : Str) : Str := ⟨z.cps.toList.reverse.toArray⟩
def tRevS (te : TE) : TE := fun σ H Q => te σ H fun x H1 => ∃ z, x = .str z ∧ z.length ≤ sizeLine ∧ Q (.str (revS z)) H1
theorem revS_picks (z : Str) : ((Builtin.Str.strSliceIndices none none (-1) z.length).filterMap (z.cps[·]?)).toArray = z.cps.toList.reverse.toArray := by
  have e : Builtin.Str.strSliceIndices none none (-1) z.length = sliceRange ((z.length : Int) - 1) (-1) (-1) := by
    first
      | rfl
      | simp [Builtin.Str.strSliceIndices]
  rw [e, PySem.W.krv_sliceRange, PySem.W.krv_range, List.filterMap_reverse]
  have h := PySem.W.krv_all z.cps
  exact congrArg (fun l : List Nat => l.reverse.toArray) h
theorem pe_revS {e : Expr} {te : TE} {k : Nat} {p1 p2 p3 pos : Pos} (he : PE X e te) : PE X (.Subscript e (.Slice none none (some (.UnaryOp .USub (.Constant (.int 1) k p1) p2)) p3) pos) (tRevS te) := by
  refine ⟨fun pins s σ H Q I h => ?_⟩
  refine Subscript_ (thn (he.run pins s σ H _ I h) fun v s1 ⟨x, H1, I1, r1, q1⟩ => ?_)
  obtain ⟨z, ex, hz, q⟩ := q1
  subst ex
  obtain ⟨t, rfl⟩ := r1
  have hst : PO X (some (.UnaryOp .USub (.Constant (.int 1) k p1) p2)) (tPart (tUn (rU fun i => .int (-i)) (tC (.int 1)))) := po_some (pe_un un_neg pe_int)
  refine wpAny_Slice (thn (po_none.run pins s1 σ H1 (fun o H2 => o = none ∧ H2 = H1) I1 ⟨rfl, rfl⟩) fun vl s2 ⟨l, H2, I2, pl, el, e2⟩ => ?_)
  subst el e2
  refine thn (po_none.run pins s2 σ H2 (fun o H3 => o = none ∧ H3 = H2) I2 ⟨rfl, rfl⟩) fun vu s3 ⟨u, H3, I3, pu, eu, e3⟩ => ?_
  subst eu e3
  refine thn (hst.run pins s3 σ H3 (fun o H4 => o = some (-1) ∧ H4 = H3) I3 ⟨1, rfl, -1, rfl, rfl, rfl⟩) fun vs s4 ⟨o, H4, I4, ps, eo, e4⟩ => ?_
  subst eo e4
  have I5 : Inv X pins σ H4 { s4 with heap := s4.heap.push { cls := .type "slice", data := .fields #[vl, vu, vs] } } := I4.kept (t' := s4.toks) fun b ob q => Heap.get?_push_of_some _ q
  cases pl
  cases pu
  cases ps with
  | int _ t5 =>
  show wpAny (model X.prog X.w) X.A (subscriptTail e (.Slice none none (some (.UnaryOp .USub (.Constant (.int 1) k p1) p2)) p3) (.str z t) (.ref s4.heap.objs.size)) (EP X pins σ Q) X.xe { s4 with heap := s4.heap.push { cls := .type "slice", data := .fields #[.none, .none, .int (-1) t5] } }
  refine tail_any (ops := [.str z t, .ref s4.heap.objs.size]) (typeIs_str _ _ _) F.slot_str_getitem.lookup ?_ (by with_unfolding_all rfl)
  refine wpAny_getItem_str_slice (l := none) (u := none) (st := some (-1, t5)) (Heap.IsSliceOf.new _ .none .none (.int (-1) t5)) (by rfl) ?_
  show Made.post (if ((-1 : Int) == 1 && (Builtin.Str.strSliceIndices none none (-1) z.length).length == z.length) = true then Made.val (.str z t)
    else Made.str ⟨((Builtin.Str.strSliceIndices none none (-1) z.length).filterMap (z.cps[·]?)).toArray⟩) (EP X pins σ Q) _
  rw [if_neg (by rw [show ((-1 : Int) == 1) = false by decide, Bool.false_and]; decide), revS_picks]
  refine ⟨?_, .str (revS z), H4, I5.tok _, ⟨_, rfl⟩, q⟩
  show z.cps.toList.reverse.toArray.size ≤ sizeLine
  have hz2 : z.cps.toList.length ≤ sizeLine := by
    have : z.length = z.cps.toList.length := by simp [Str.length]
    omega
  simpa using hz2

/-! ### min(xs, default=d) of a list of texts -/
def minS : Str → List Str → Str := PySem.W.minOf
def rMinSD (K : PySem.W.Frag) : List V → List V → Hp → VK → Prop := fun vs zs H Q => ∃ (a : Addr) (xs : List Str) (d : V), vs = [.ref a] ∧ zs = [d] ∧ SqL K H a (xs.map V.str) ∧ (xs = [] → Q d H) ∧ ∀ y ys, xs = y :: ys → Q (.str (minS y ys)) H
theorem holdAll_strs {h : Heap} : ∀ {xs : List Str} {its : List Value}, Vals (xs.map V.str) its → PySem.W.HoldAll h its xs
  | [], its, r => by
    cases r
    exact ⟨_, .nil⟩
  | x :: xs, its, r => by
    cases r with
    | cons r1 r2 =>
      obtain ⟨t, rfl⟩ := r1
      obtain ⟨as, q⟩ := holdAll_strs (h := h) r2
      exact ⟨_, .cons (.str x t) q⟩
theorem cr_minSD (hc : X.calm = true) (hu : X.A.units + 1 < cLine) : CallRK X (.builtin "min") [("default" : Str)] (rMinSD X.K) := by
  intro pins s σ H vs zs us ws Q I r rz h
  obtain ⟨a, xs, d, rfl, rfl, hs, q0, q1⟩ := h
  obtain ⟨its, rv, hl, _⟩ := I.list hs
  rw [Vals.ref1 r]
  cases rz with
  | cons rd rn =>
    cases rn
    rename_i dv
    show wpAny _ _ (call (.builtin "min") [.ref a] [(Str.ofString "default", dv)]) _ _ _
    refine PySem.W.min_list_datum_default (α := Str) (xs := xs) (I.ok.hd hc) hl.isList (by simpa using holdAll_strs rv) hu (fun e h' tk hk => ?_) fun y ys i v h' tk e hi hv hk => ?_
    · exact ⟨d, H, I.kept hk, rd, q0 e⟩
    · refine ⟨.str (minS y ys), H, I.kept hk, ?_, q1 y ys e⟩
      obtain ⟨as, rr⟩ := hv
      have rr' : Reads h' v (.str (minS y ys)) as := rr
      cases rr' with
      | str _ t => exact ⟨t, rfl⟩
/-- the call -/
theorem pe_minSD {e : Expr} {t : TA} {tk : TA} {p pos : Pos} {kw : Keyword} (hc : X.calm = true) (hu : X.A.units + 1 < cLine) (hg : Gl X "min") (hm : X.mg "min" = none) (ha : PA X [e] t) (hk : PK X [kw] tk)
    (he : backTo pos (starEach (e :: []) X.env) = (false, eval e X.env) :: backTo pos (starEach [] X.env) := by rfl) (hpl : (backTo pos (starEach (e :: []) X.env)).any (·.1) = false := by rfl)
    (hall : (backToKw pos (keywordEach [kw] X.env)).all (·.1.isSome) = true := by rfl) (hnone : (backToKw pos (keywordEach [kw] X.env)).any (·.1.isNone) = false := by rfl) (hks : (backToKw pos (keywordEach [kw] X.env)).filterMap (·.1) = [("default" : Str)] := by rfl) :
    PE X (.Call (.Name "min" p) [e] [kw] pos) (tCKw (rMinSD X.K) t tk) :=
  pe_callBK (cr_minSD hc hu) hg hm (by decide +kernel) ha hk (by decide) (by decide) he hpl hall hnone hks

/-! ### C.__init__(self, ..) of an own class C between the error's class and ValueError -/
theorem pe_ownInit {x : Str} {CL : Addr} {e : Expr} {es : List Expr} {ta : TA} {p1 p2 pos : Pos} {pl : Sem Bool} (hg : Gl X x) (hm : X.mg x = some (.ref CL)) (hdb : (x == ("__debug__" : Str)) = false := by decide)
    (sp : PySem.W.specialIn X.K (.ref CL) "__getattribute__" = some (some (.builtin "type.__getattribute__"))) (rd : PySem.W.readsIn X.K CL (.type "type") = true)
    (vV : PySem.W.findCls X.K (.ref CL) (.type "type") "__init__" = some (.val (.builtin "ValueError.__init__"))) (ha : PA X (e :: es) ta)
    (hc : eval (.Call (.Attribute (.Name x p1) "__init__" p2) (e :: es) [] pos) X.env = (do
      let ov ← eval (.Name x p1) X.env
      standAt p2.atName
      let (f, first) ← holding [ov] (getMethod ov "__init__" pl)
      callWith pos f first (backTo pos (starEach (e :: es) X.env)) (backToKw pos (keywordEach [] X.env))) := by rfl)
    (he : starEach (e :: es) X.env = (false, eval e X.env) :: starEach es X.env := by rfl) (hpl : (backTo pos (starEach es X.env)).any (·.1) = false := by rfl) :
    PE X (.Call (.Attribute (.Name x p1) "__init__" p2) (e :: es) [] pos) (tVeI X.K ta) := by
  refine ⟨fun pins s σ H Q I h => ?_⟩
  refine PySem.W.methodCall_KW (ld_glob I hg hm ?_ hdb) hc
  refine PySem.W.method_cls I.kIn sp (PySem.W.cls_value I.kIn rd vV (by decide +kernel) ?_)
  show wpAny _ _ (callWith pos (Value.builtin "ValueError.__init__") [] (backTo pos (starEach (e :: es) X.env)) []) _ _ _
  refine PyProof.Rows.callWith_method1 (thn (ha.run pos pins _ σ H _ (I.tok _) h) fun us s1 ⟨vs, H1, I1, r1, a, C, ws, ev, hl, T, ea, q⟩ => ?_) he hpl
  subst ev
  cases r1 with
  | @cons _ u0 _ ur ra rw' =>
    obtain rfl : u0 = Value.ref a := ra
    have hlen : ur.length ≤ sizeLine := by
      rw [← Paired.length rw', sizeLine_eq]
      omega
    exact oinit_ok T I1 ea hlen fun s' J => ⟨.non, H1, J, rfl, q⟩

/-! ### an error with its own __init__ made where nothing is handled: its context is None -/
theorem passN : Passes (L2N.CX X.prog X.w) X E0 := fun _ _ _ _ _ _ _ h => by
  obtain ⟨_, _, _, _, _, _, _, _, _, _, _, _, no⟩ := h
  exact absurd no id
theorem pmkN_oex {CY : CXT} {nm : Str} {C g : Addr} {lev : Nat} {fdI : FuncData} {prs : List Str} {pr : Sp} {xs : List Value} {ws : List V} {arg : Expr} {more : List Expr} {tA : TA} {q1 q2 : Pos}
    (ox : OexC X.K C) (at_ : PySem.W.findIn X.K (.ref C) "__init__" = some (some (.ref g))) (isf : PySem.W.typeIn X.K (.ref g) = some (.type "function"))
    (keeps : FnOk X.prog X.w X.K X.mg X.base CY lev g fdI prs pr) (room : Room (lev + 1) X.A) (bnd : Binds X.K fdI prs xs) (vls : Vals ws xs) (ps : Passes CY X E0) (gl : Gl X nm) (mgx : X.mg nm = some (.ref C)) (pa : PA X (arg :: more) tA)
    (ndb : (nm == ("__debug__" : Str)) = false := by decide) (plain1 : starEach (arg :: more) X.env = (false, eval arg X.env) :: starEach more X.env := by rfl) (plain2 : (backTo q2 (starEach more X.env)).any (·.1) = false := by rfl) :
    L2N.PMk X (.Call (.Name nm q1) (arg :: more) [] q2) (tMkO C pr ws tA) := by
  intro pins s σ H Q I goal
  obtain ⟨_, _, _, _, mro, _, _, _, _, _, _, _, _, _, _, lkC, ve⟩ := ox.cls
  refine wpAny_Call_Name_kw (ld_glob I gl mgx ?_ ndb)
  refine PySem.W.callWith_K (h₀ := X.base) I.ok.mod.kin ox.kC (thn (pa.run q2 pins s σ H _ I goal) ?_) plain1 plain2
  rintro us ⟨hp, gs, dr, tk, os⟩ ⟨vs, Ha, Ia, ra, small, each⟩
  refine ⟨Ia.kIn, ?_⟩
  show wpAny _ _ (call (.ref C) us) _ _ _
  have above : hp.objs.size ≤ hp.objs.size + 1 := by omega
  have free : Ha (hp.objs.size + 1) = none := Ia.hok.fresh above
  have pr1 := each (hp.objs.size + 1) free
  let hp2 := (hp.push (PySem.W.kdv_tup us)).push (PySem.HandSPX.excO C hp.objs.size)
  have kept : ∀ b o, hp.get? b = some o → hp2.get? b = some o := fun b o e => Heap.get?_push_of_some _ (Heap.get?_push_of_some _ e)
  have here : hp2.get? (hp.objs.size + 1) = some (PySem.HandSPX.excO C hp.objs.size) := by show ((hp.push (PySem.W.kdv_tup us)).push (PySem.HandSPX.excO C hp.objs.size)).get? _ = _; heap_get
  have Ib : Inv X pins σ (upd Ha (hp.objs.size + 1) (exo (hp.objs.size + 1) C none)) ⟨hp2, gs, dr, tk, os⟩ := Ia.laid (t' := tk) (a := hp.objs.size + 1) (o := exo (hp.objs.size + 1) C none) (h' := hp2) kept above (exo_ok here)
  have rb : Vals (V.ref (hp.objs.size + 1) :: (vs ++ ws)) (Value.ref (hp.objs.size + 1) :: (us ++ xs)) := .cons rfl (ra.append vls)
  have many : (Value.ref (hp.objs.size + 1) :: us ++ xs).length = prs.length := by rw [← keeps.len _ _ _ _ pr1]; exact rb.length.symm
  have fits : us.length ≤ sizeLine := by rw [← Paired.length ra, sizeLine_eq]; omega
  have body := keeps.run _ X.stack _ _ ⟨Value.ref (hp.objs.size + 1) :: us, []⟩ (Value.ref (hp.objs.size + 1) :: (us ++ xs)) _ _ E0 (room.make C us []) (Ib.env0.make C us []) (bnd _ (Value.ref (hp.objs.size + 1) :: us) Ib.kIn many) rb pr1
  refine wpAny_call (PySem.HandSPX.call_own F.excBase_ValueError (fun Y => PySem.HandSPX.refsVE_contains Y mro ve) (Ia.kIn _ _ lkC) (PySem.W.looks_findIn Ia.kIn at_) (fun self => PySem.W.bind_fn Ia.kIn self isf) fits (codeAny_mono body ?_))
  intro r s' after
  match r, after with
  | .error er, after => exact ps pins σ _ _ er s' Ib after
  | .ok (.ret u), after =>
    obtain ⟨v, Hb, os2, bare2, un2, hok2, rv, none_, d, fs, oa, od, newd, fin⟩ := after
    subst none_
    obtain ⟨h2, g2, d2, t2, os'⟩ := s'
    refine ⟨rv, ?_⟩
    obtain ⟨t0, G, J, kG, ge, hoe, na⟩ := mk_end0 (d2 := d2) (t2 := t2) Ia above kept un2 hok2 os2 bare2 oa od newd
    exact ⟨hp.objs.size + 1, _, _, ⟨G, g2, d2, t2, os'⟩, _, .ref C, some d, rfl, J, kG, ge, hoe, ⟨rfl, rfl, fun vs hv => by cases hv; rfl⟩, rfl, rfl, na, rfl, bare2, raises_own ox.exC ox.tyC, fin⟩
  | .ok .next, after => exact False.elim after
  | .ok .brk, after => exact False.elim after
  | .ok .cont, after => exact False.elim after

/-! ### isinstance(e, C), e the caught error, C its very class -/
theorem isi_same {x D : Addr} {ox : Obj} {od : Option Obj} {prog : Program} {w : World} {A : Around} {E : Value → Shared → Prop} {s : Shared} {Q : Value → Shared → Prop} (J : PySem.W.InstAt s.heap x ox D od) (h : ∀ tk, Q (.bool true) { s with toks := tk }) :
    wpAny (model prog w) A (call (.builtin "isinstance") [.ref x, .ref D]) Q E s := by
  refine call_isinstance (S := fun _ R s => PySem.W.InstAt s.heap x ox D od ∧ ∀ tk, R (.ok (.ret (.bool true))) { s with toks := tk }) (fun prog w A R s hs => isinstance_outer ?_ (fun z => nomatch z)) ⟨J, h⟩
  obtain ⟨hp, g, d, tt, os⟩ := s
  obtain ⟨J2, hq⟩ := hs
  have LT := J2.type (M := model prog w)
  unfold Builtin.«isinstance.nested»
  refine wpAny_bind (LT.at ?_)
  rw [if_pos (beq_self_eq_true _)]
  first
    | exact wpAny_bind (wpAny_rule (wpAny_pure (hq tt)))
    | exact wpAny_bind (wpAny_rule (hq tt))
def rIsX (D a : Addr) (cls : Value) (d : Option Addr) : List V → Hp → VK → Prop := fun xs H Q => ∃ (dd : Addr) (fs : List (Str × V)), xs = [.ref a, .ref D] ∧ cls = .ref D ∧ d = some dd ∧ H dd = some (.xd fs) ∧ Q (.bl true) H
theorem call_isX {a D : Addr} {oe : Obj} {cls : Value} {d : Option Addr} {pn : List (Addr × Obj)} (hz : Zc cls d oe) (hf : ∃ vs, oe.data = .fields vs) : CallR (X.suite a ((a, oe) :: pn)) (.builtin "isinstance") (rIsX D a cls d) := by
  intro pins s σ H xs us Q I r h
  obtain ⟨dd, fs, rfl, rfl, rfl, ha, q⟩ := h
  obtain ⟨u1, u2, rfl, r1, r2⟩ := vals2 r
  obtain rfl : u1 = Value.ref a := r1
  obtain rfl : u2 = Value.ref D := r2
  obtain ⟨hget, _⟩ := I.pin (a, oe) (List.mem_append.mpr (.inl List.mem_cons_self))
  obtain ⟨vs, hv⟩ := hf
  have hx : ObjOk X.prog X.w H s.heap dd (.xd fs) := I.hok dd _ ha
  obtain ⟨mA, hns, _⟩ := hx
  obtain ⟨od, ho, _⟩ := lookIn_ns hns
  have J : PySem.W.InstAt s.heap a oe D (some od) := ⟨hget, hz.1, by unfold PySem.W.notCls; rw [hv] <;> rfl, by rw [hz.2]; exact ho⟩
  exact isi_same J fun tk => ⟨.bl true, H, I.tok _, rfl, q⟩
theorem hot_suite {a : Addr} {oe : Obj} {cls : Value} {d : Option Addr} {pn : List (Addr × Obj)} (hz : L2N.Zn cls d oe) (hf : ∃ vs, oe.data = .fields vs) : L2H.HotC (X.suite a ((a, oe) :: pn)) := by
  obtain ⟨vs, hv⟩ := hf
  exact ⟨(a, oe), ⟨rfl, vs, hv, hz.2.2 vs hv⟩, List.mem_cons_self⟩
theorem takes0N : L2N.Takes X (fun _ _ _ _ => False) := fun _ _ x => by
  obtain ⟨_, _, _, _, _, _, _, _, _, _, _, _, _, _, _, _, no⟩ := x
  exact absurd no id
theorem passAtN {σ : L2.St} : PassesAt (L2N.CX X.prog X.w) X σ E0 := fun _ _ _ _ _ _ h => by
  obtain ⟨_, _, _, _, _, _, _, _, _, _, _, _, no⟩ := h
  exact absurd no id
end
end Lc
namespace Lc
open PySem PySem.Spec PyProof.Rows L2 Evl
section
variable {K : PySem.W.Frag} {σ : L2.St} {H H' : Hp} {ta tb te tx : TE} {t u : TT} {x y z v : V} {r : R2} {D : Ends}
theorem rv_catS {a b : Str} (h : a.length + b.length ≤ 100000) : RV (fun x y H Q => ∃ i j, x = .str i ∧ y = .str j ∧ i.length + j.length ≤ sizeLine ∧ Q (.str (i ++ j)) H) (.str a) (.str b) H (.str (a ++ b)) := fun H1 _ _ q => ⟨a, b, rfl, rfl, sz_of h, q H1 (Ex.refl H1)⟩
theorem rv_ltS {a b : Str} : RV (fun x y H Q => ∃ i j, x = .str i ∧ y = .str j ∧ Q (.bl (decide (i.cps.toList < j.cps.toList))) H) (.str a) (.str b) H (.bl (decide (a.cps.toList < b.cps.toList))) := fun H1 _ _ q => ⟨a, b, rfl, rfl, q H1 (Ex.refl H1)⟩
theorem rv_inC {c : Nat} {b : Str} : RV (fun x y H Q => ∃ (c : Nat) (z : Str), x = .str ⟨#[c]⟩ ∧ y = .str z ∧ Q (.bl (decide (c ∈ z.cps.toList))) H) (.str ⟨#[c]⟩) (.str b) H (.bl (decide (c ∈ b.cps.toList))) := fun H1 _ _ q => ⟨c, b, rfl, rfl, q H1 (Ex.refl H1)⟩
theorem rv_notInC {c : Nat} {b : Str} : RV (fun x y H Q => ∃ (c : Nat) (z : Str), x = .str ⟨#[c]⟩ ∧ y = .str z ∧ Q (.bl (!decide (c ∈ z.cps.toList))) H) (.str ⟨#[c]⟩) (.str b) H (.bl (!decide (c ∈ b.cps.toList))) := fun H1 _ _ q => ⟨c, b, rfl, rfl, q H1 (Ex.refl H1)⟩
theorem rc_lenS {w : Str} (h : w.length ≤ 100000) : RC (fun xs H Q => ∃ x n, xs = [x] ∧ LenV K x H n ∧ Q (.int n) H) [.str w] H (.int w.length) := fun H1 _ _ q => ⟨.str w, w.length, rfl, ⟨sz_of h, rfl⟩, q H1 (Ex.refl H1)⟩
theorem rc_lenL {p : Addr} {xs : List V} (h : SqL K H p xs) : RC (fun xs H Q => ∃ x n, xs = [x] ∧ LenV K x H n ∧ Q (.int n) H) [.ref p] H (.int xs.length) := fun H1 e _ q => ⟨.ref p, xs.length, rfl, .inl ⟨xs, ex_l e h, rfl⟩, q H1 (Ex.refl H1)⟩
theorem rc_lenT {p : Addr} {xs : List V} (h : SqT K H p xs) : RC (fun xs H Q => ∃ x n, xs = [x] ∧ LenV K x H n ∧ Q (.int n) H) [.ref p] H (.int xs.length) := fun H1 e _ q => ⟨.ref p, xs.length, rfl, .inr ⟨xs, ex_t e h, rfl⟩, q H1 (Ex.refl H1)⟩
theorem rc_intI {i : Int} : RC (fun xs H Q => (∃ i, xs = [V.int i] ∧ Q (V.int i) H) ∨ ∃ k, xs = [V.bl k] ∧ Q (V.int (if k = true then 1 else 0)) H) [.int i] H (.int i) := fun H1 _ _ q => .inl ⟨i, rfl, q H1 (Ex.refl H1)⟩
theorem rc_intB {k : Bool} : RC (fun xs H Q => (∃ i, xs = [V.int i] ∧ Q (V.int i) H) ∨ ∃ k, xs = [V.bl k] ∧ Q (V.int (if k = true then 1 else 0)) H) [.bl k] H (.int (if k = true then 1 else 0)) := fun H1 _ _ q => .inr ⟨k, rfl, q H1 (Ex.refl H1)⟩
theorem rc_sum {p : Addr} {ns : List Int} (h : SqL K H p (ns.map V.int)) : RC (rSum K) [.ref p] H (.int ns.sum) := fun H1 e _ q => ⟨p, ns, rfl, ex_l e h, q H1 (Ex.refl H1)⟩
theorem rc_min2 {i j : Int} : RC (fun xs H Q => ∃ i j, xs = [V.int i, V.int j] ∧ Q (.int (if j < i then j else i)) H) [.int i, .int j] H (.int (if j < i then j else i)) := fun H1 _ _ q => ⟨i, j, rfl, q H1 (Ex.refl H1)⟩
theorem rc_isStr {w : Str} : RC (rIsi K) [.str w, .ty "str"] H (.bl true) := fun H1 _ _ q => ⟨.str w, .ty "str", .type "str", .type "str", true, rfl, .ty _, .base (.str _), kit_ty (by decide +kernel), q H1 (Ex.refl H1)⟩
theorem ev_slS {tl th : TO} {w : Str} {lo hi : Option Int} (h : Ev te σ H (.str w)) (h1 : EvO tl σ H lo) (h2 : EvO th σ H hi) (hz : w.length ≤ 100000) : Ev (tSl rSlS te tl th) σ H (.str (cutS w lo hi)) := fun H1 e _ q =>
  h H1 e _ fun H2 e2 => h1 H2 (e.trans e2) _ fun H3 e3 => h2 H3 ((e.trans e2).trans e3) _ fun H4 e4 => ⟨w, rfl, sz_of hz, q H4 ((e2.trans e3).trans e4)⟩
theorem ev_revS {w : Str} (h : Ev te σ H (.str w)) (hz : w.length ≤ 100000) : Ev (tRevS te) σ H (.str (revS w)) := fun H1 e _ q => h H1 e _ fun H2 e2 => ⟨w, rfl, sz_of hz, q H2 e2⟩
theorem ev_join {a : Str} {ys : List Str} (h : Ev ta σ H (.str a)) (hl : EvL te σ H (ys.map V.str)) (hz : (ys.map (·.length)).sum + ys.length * a.length ≤ 16777216) :
    Ev (tM1 (fun x xs H Q => ∃ a p, ∃ ys : List Str, x = .str a ∧ xs = [.ref p] ∧ (SqL K H p (ys.map V.str) ∨ SqT K H p (ys.map V.str)) ∧ (ys.map (·.length)).sum + ys.length * a.length ≤ 16777216 ∧ Q (.str (Txt.join a ys)) H) ta te) σ H (.str (Txt.join a ys)) := fun H1 e _ q =>
  h H1 e _ fun H2 e2 => ⟨⟨a, rfl⟩, hl H2 (e.trans e2) _ fun p H3 _ e3 hp => ⟨a, p, ys, rfl, rfl, .inl (sq_of hp), hz, q H3 (e2.trans e3)⟩⟩
def minD (d : Str) : List Str → Str
  | [] => d
  | y :: ys => minS y ys
theorem ev_minSD {xs : List Str} {d : Str} (hl : EvL te σ H (xs.map V.str)) (hd : Ev ta σ H (.str d)) : Ev (tCKw (rMinSD K) (tCons te tNil) (tCons ta tNil)) σ H (.str (minD d xs)) := fun H1 e Q q =>
  hl H1 e _ fun p H2 _ e2 hp => hd H2 (e.trans e2) _ fun H3 e3 => ⟨p, xs, .str d, rfl, rfl, sq_of (e3 p _ hp), fun ex => by
    subst ex
    exact q H3 (e2.trans e3), fun y ys ex => by
    subst ex
    exact q H3 (e2.trans e3)⟩
end
end Lc
namespace Lc
open PySem PySem.Spec PyProof.Rows L2 Evl
/-- a text by its signs -/
def S (l : List Nat) : Str := ⟨l.toArray⟩
theorem tl_S (l : List Nat) : (S l).cps.toList = l := rfl
theorem S_tl (z : Str) : S z.cps.toList = z := by
  apply Str.ext'
  simp [S]
theorem S_len (l : List Nat) : (S l).length = l.length := by simp [S, Str.length]
theorem S_inj {a b : List Nat} (h : S a = S b) : a = b := by
  have := congrArg (fun z : Str => z.cps.toList) h
  exact this
theorem S_app (a b : List Nat) : S a ++ S b = S (a ++ b) := by
  have h := TL.tl_append (S a) (S b)
  rw [← S_tl (S a ++ S b)]
  exact congrArg S h
theorem join_S : ∀ l : List Nat, Txt.join (S []) (l.map fun c => S [c]) = S l := by
  intro l
  rw [TL.join_eq, ← S_tl (Str.join (S []) _)]
  refine congrArg S ?_
  have h := TL.tl_join (S []) (l.map fun c => S [c])
  refine Eq.trans h ?_
  rw [List.map_map]
  show TL.joinL [] (l.map fun c => [c]) = l
  induction l with
  | nil => rfl
  | cons a r ih =>
    cases r with
    | nil => rfl
    | cons b r =>
      show [a] ++ ([] ++ TL.joinL [] ((b :: r).map fun c => [c])) = a :: b :: r
      rw [ih (TL.tl_join _ _)]
      rfl
theorem join_sz (l : List Nat) (h : l.length ≤ 100000) : (((l.map fun c => S [c]).map (·.length)).sum + (l.map fun c => S [c]).length * (S []).length) ≤ 16777216 := by
  have e : ∀ l : List Nat, ((l.map fun c => S [c]).map (·.length)).sum = l.length := by
    intro l
    induction l with
    | nil => rfl
    | cons a r ih =>
      rw [List.map_cons, List.map_cons, List.sum_cons, ih, S_len]
      simp
      omega
  rw [e]
  have : (S []).length = 0 := rfl
  rw [this]
  omega
theorem cut_from (l : List Nat) (i : Nat) : cutS (S l) (some (i : Int)) none = S (l.drop i) := by
  unfold cutS
  rw [S_len, HT.sIx_nat, HT.sIx_none, tl_S]
  refine congrArg S ?_
  rw [List.take_of_length_le (by rw [List.length_drop]; omega)]
  by_cases h : i ≤ l.length
  · rw [Nat.min_eq_left h]
  · rw [Nat.min_eq_right (by omega), List.drop_of_length_le (Nat.le_refl _), List.drop_of_length_le (by omega)]
theorem cut_to (l : List Nat) (i : Nat) : cutS (S l) none (some (i : Int)) = S (l.take i) := by
  unfold cutS
  rw [S_len, HT.sIx_nat, HT.sIx_none, tl_S]
  refine congrArg S ?_
  rw [List.drop_zero, Nat.sub_zero]
  by_cases h : i ≤ l.length
  · rw [Nat.min_eq_left h]
  · rw [Nat.min_eq_right (by omega), List.take_of_length_le (Nat.le_refl _), List.take_of_length_le (by omega)]
theorem atI_i {α : Type} {xs : List α} {i : Int} (h0 : 0 ≤ i) (h1 : i < xs.length) (d : α) : atI xs i = some (xs.getD i.toNat d) := by
  have e : i = (i.toNat : Int) := by omega
  have hl : i.toNat < xs.length := by omega
  rw [e]
  refine atI_nat ?_
  rw [Int.toNat_natCast, List.getElem?_eq_getElem hl, List.getD_eq_getElem?_getD, List.getElem?_eq_getElem hl]
  rfl
theorem revS_S (l : List Nat) : revS (S l) = S l.reverse := rfl
section
variable {K : PySem.W.Frag} {σ : L2.St} {H H' : Hp} {ta tb te tx : TE} {t u : TT} {x y z v : V} {r : R2} {D : Ends}
theorem rv_ixSS {l : List Nat} {i : Int} (hl : l.length ≤ 100000) (h0 : 0 ≤ i) (h1 : i < l.length) : RV rIxS (.str (S l)) (.int i) H (.str (S [l.getD i.toNat 0])) := rv_ixS (by rw [S_len]; exact hl) (atI_i h0 h1 0)
theorem ev_cbL {r : List V → Hp → VK → Prop} {xs : List V} (h : EvL te σ H xs) (hr : ∀ p H1, H1 p = some (.lst xs) → Ex H H1 → RC r [.ref p] H1 z) : Ev (tCB r (tCons te tNil)) σ H z := fun H1 e Q q =>
  h H1 e _ fun p H2 _ e2 hp => hr p H2 hp (e.trans e2) H2 (Ex.refl H2) Q fun H3 e3 => q H3 (e2.trans e3)
theorem cutV_ints (ns : List Int) (lo hi : Option Int) : ∃ ms : List Int, cutV (ns.map V.int) lo hi = ms.map V.int := by
  unfold cutV
  exact ⟨_, by rw [← List.map_drop, ← List.map_take]⟩
end
/-! ### a box of three ints that a call changes -/
def Bx (H : Hp) (b : Addr) : Prop := ∃ i j k : Int, H b = some (.lst [.int i, .int j, .int k])
def ExB (b : Addr) (H H' : Hp) : Prop := ∀ c o, c ≠ b → H c = some o → H' c = some o
theorem ExB.refl {b : Addr} (H : Hp) : ExB b H H := fun _ _ _ h => h
theorem ExB.trans {b : Addr} {H H1 H2 : Hp} (h : ExB b H H1) (h2 : ExB b H1 H2) : ExB b H H2 := fun c o hc e => h2 c o hc (h c o hc e)
theorem ExB.of {b : Addr} {H H1 : Hp} (h : Ex H H1) : ExB b H H1 := fun c o _ e => h c o e
theorem Bx.ex {b : Addr} {H H1 : Hp} (h : Bx H b) (e : Ex H H1) : Bx H1 b := by
  obtain ⟨i, j, k, h⟩ := h
  exact ⟨i, j, k, e b _ h⟩
theorem ExB.upd {b : Addr} {H : Hp} {o : HO} : ExB b H (upd H b o) := fun c o hc e => by rw [upd_ne hc]; exact e
theorem Bx.put {b : Addr} {H : Hp} {i j k : Int} : Bx (upd H b (.lst [.int i, .int j, .int k])) b := ⟨i, j, k, upd_same⟩
theorem ExB.seq {K : PySem.W.Frag} {b a : Addr} {H H' : Hp} {xs : List V} (e : ExB b H H') (hab : a ≠ b) (h : SqL K H a xs) : SqL K H' a xs := by
  rcases h with (h | ⟨o, h⟩) | h
  · exact .inl (.inl (e _ _ hab h))
  · exact .inl (.inr ⟨o, e _ _ hab h⟩)
  · exact .inr h
theorem ExB.bx {b c : Addr} {H H' : Hp} (e : ExB b H H') (hcb : c ≠ b) (h : Bx H c) : Bx H' c := by
  obtain ⟨i, j, k, h⟩ := h
  exact ⟨i, j, k, e c _ hcb h⟩

section
variable {H : Hp}
theorem rv_inSS {c : Nat} {g : List Nat} : RV (fun x y H Q => ∃ (c : Nat) (z : Str), x = .str ⟨#[c]⟩ ∧ y = .str z ∧ Q (.bl (decide (c ∈ z.cps.toList))) H) (.str (S [c])) (.str (S g)) H (.bl (decide (c ∈ g))) := fun H1 _ _ q => ⟨c, S g, rfl, rfl, q H1 (Ex.refl H1)⟩
theorem rv_notInSS {c : Nat} {g : List Nat} : RV (fun x y H Q => ∃ (c : Nat) (z : Str), x = .str ⟨#[c]⟩ ∧ y = .str z ∧ Q (.bl (!decide (c ∈ z.cps.toList))) H) (.str (S [c])) (.str (S g)) H (.bl (!decide (c ∈ g))) := fun H1 _ _ q => ⟨c, S g, rfl, rfl, q H1 (Ex.refl H1)⟩
theorem rv_ltSS {a b : List Nat} : RV (fun x y H Q => ∃ i j, x = .str i ∧ y = .str j ∧ Q (.bl (decide (i.cps.toList < j.cps.toList))) H) (.str (S a)) (.str (S b)) H (.bl (decide (a < b))) := fun H1 _ _ q => ⟨S a, S b, rfl, rfl, q H1 (Ex.refl H1)⟩
theorem rv_catSS {a b : List Nat} (h : a.length + b.length ≤ 100000) : RV (fun x y H Q => ∃ i j, x = .str i ∧ y = .str j ∧ i.length + j.length ≤ sizeLine ∧ Q (.str (i ++ j)) H) (.str (S a)) (.str (S b)) H (.str (S (a ++ b))) := by
  have h2 := rv_catS (H := H) (a := S a) (b := S b) (by rw [S_len, S_len]; exact h)
  rw [S_app] at h2
  exact h2
theorem rc_lenSS {K : PySem.W.Frag} {l : List Nat} (h : l.length ≤ 100000) : RC (fun xs H Q => ∃ x n, xs = [x] ∧ LenV K x H n ∧ Q (.int n) H) [.str (S l)] H (.int l.length) := by
  have h2 := rc_lenS (K := K) (H := H) (w := S l) (by rw [S_len]; exact h)
  rw [S_len] at h2
  exact h2
theorem rc_lenStr {l : List Nat} (h : l.length ≤ 100000) : RC (fun xs H Q => ∃ z, xs = [V.str z] ∧ z.length ≤ sizeLine ∧ Q (.int z.length) H) [.str (S l)] H (.int l.length) := fun H1 _ _ q => ⟨S l, rfl, sz_of (by rw [S_len]; exact h), by rw [S_len]; exact q H1 (Ex.refl H1)⟩
theorem rv_eqII {a b : Int} : RV rEq (.int a) (.int b) H (.bl (decide (a = b))) := by
  have h2 := rv_eq (H := H) (x := .int a) (y := .int b) rfl
  have e : decide (V.int a = V.int b) = decide (a = b) := decide_eq_decide.mpr ⟨fun h => by injection h, fun h => by rw [h]⟩
  rw [e] at h2
  exact h2
theorem rv_neII {a b : Int} : RV rNe (.int a) (.int b) H (.bl (!decide (a = b))) := by
  have h2 := rv_ne (H := H) (x := .int a) (y := .int b) rfl
  have e : decide (V.int a = V.int b) = decide (a = b) := decide_eq_decide.mpr ⟨fun h => by injection h, fun h => by rw [h]⟩
  rw [e] at h2
  exact h2
theorem rv_neSS {a b : List Nat} : RV rNe (.str (S a)) (.str (S b)) H (.bl (!decide (a = b))) := by
  have h2 := rv_ne (H := H) (x := .str (S a)) (y := .str (S b)) rfl
  have e : decide (V.str (S a) = V.str (S b)) = decide (a = b) := decide_eq_decide.mpr ⟨fun h => S_inj (by injection h), fun h => by rw [h]⟩
  rw [e] at h2
  exact h2
theorem rv_eqSS {a b : List Nat} : RV rEq (.str (S a)) (.str (S b)) H (.bl (decide (a = b))) := by
  have h2 := rv_eq (H := H) (x := .str (S a)) (y := .str (S b)) rfl
  have e : decide (V.str (S a) = V.str (S b)) = decide (a = b) := by
    apply decide_eq_decide.mpr
    constructor
    · intro h
      exact S_inj (by injection h)
    · intro h
      rw [h]
  rw [e] at h2
  exact h2
end
/-! ### loops and comprehensions over a text -/
section
variable {K : PySem.W.Frag} {σ : L2.St} {H H' : Hp} {ta tb te tx : TE} {t : TT} {x y z v : V} {r : R2} {D : Ends} {tu tz : TS}
theorem its_at {l : List Nat} {i : Nat} {c : Nat} (h : (S l).cps[i]? = some c) : l[i]? = some c := by
  have h2 : l.toArray[i]? = some c := h
  simpa using h2
theorem its_sz (l : List Nat) : (S l).cps.size = l.length := by
  show l.toArray.size = l.length
  simp
theorem s_forS {l : List Nat} {j : Nat} (h : Ev te σ H (.str (S l))) (Pv : Nat → L2.St → Hp → Prop) (h0 : ∀ H1, Ex H H1 → Pv 0 σ H1)
    (hs : ∀ i c σ' H', l[i]? = some c → Pv i σ' H' → tu { D with nx := Pv (i + 1), ct := Pv (i + 1), bk := D.nx } (σ'.set j (some (.str (S [c])))) H') (hd : ∀ σ' H', Pv l.length σ' H' → D.nx σ' H') : tFor (iStr te) (gName j) tu D σ H :=
  h H (Ex.refl H) _ fun H1 e => ⟨S l, rfl, fun i m σ' H' => m = l.length - i ∧ i ≤ l.length ∧ Pv i σ' H', ⟨l.length, by simp, Nat.zero_le _, h0 H1 e⟩, fun i m σ' H' hw => by
    obtain ⟨rfl, hi, p⟩ := hw
    by_cases hlt : i < l.length
    · refine .inr ⟨by show i < (S l).cps.size; rw [its_sz]; exact hlt, Pv (i + 1), fun σ2 H2 p2 => ⟨l.length - (i + 1), by omega, rfl, hlt, p2⟩, fun x H2 hy => ?_⟩
      obtain ⟨e2, c, hc, ex⟩ := hy
      subst e2 ex
      exact hs i c σ' _ (its_at hc) p
    · have ei : i = l.length := by omega
      subst ei
      exact .inl ⟨by show (S l).cps.size ≤ l.length; rw [its_sz]; exact Nat.le_refl _, hd σ' H' p⟩⟩
theorem q_forS {l : List Nat} {j : Nat} (h : Ev te σ H (.str (S l))) (Pv : Nat → L2.St → Hp → Prop) (h0 : ∀ H1, Ex H H1 → Pv 0 σ H1)
    (hs : ∀ i c σ' H', l[i]? = some c → Pv i σ' H' → tu { D with nx := Pv (i + 1), ct := Pv (i + 1), bk := tz D } (σ'.set j (some (.str (S [c])))) H') (hd : ∀ σ' H', Pv l.length σ' H' → tz D σ' H') : tSeq (tFor (iStr te) (gName j) tu) tz D σ H :=
  s_forS (D := { D with nx := tz D }) h Pv h0 hs hd
theorem el_lcS {l : List Nat} {tl : TE} {j : Nat} {vs : List Nat} (f : Nat → Bool) (v : Nat → V) (h : Ev tl σ H (.str (S l))) (hz : l.length ≤ 40000) (hw : ∀ x, wipe ((wipe σ vs).set j (some x)) vs = wipe σ vs)
    (ht : ∀ (i : Nat) (c : Nat) H1, Ex H H1 → l[i]? = some c → EvT t ((wipe σ vs).set j (some (.str (S [c])))) H1 (f i)) (he : ∀ (i : Nat) (c : Nat) H1, Ex H H1 → l[i]? = some c → f i = true → Ev te ((wipe σ vs).set j (some (.str (S [c])))) H1 (v i)) :
    EvL (tLc (iStr tl) (gName j) t te vs) σ H (given l.length f v) := fun H0 e Q q => h H0 e _ fun H1 e1 => ⟨S l, rfl, fun Dl hD => by
  refine ⟨fun i m H' => m = l.length - i ∧ i ≤ l.length ∧ Cw H1 f v Dl i H', ⟨l.length, by simp, Nat.zero_le _, ⟨hD, Ex.new hD, upd_same⟩⟩, ?_⟩
  rintro i m H' ⟨rfl, hi, p⟩
  by_cases hlt : i < l.length
  · refine .inr ⟨by show i < (S l).cps.size; rw [its_sz]; exact hlt, Cw H1 f v Dl (i + 1), fun H2 p2 => ⟨l.length - (i + 1), by omega, rfl, hlt, p2⟩, fun x H2 hy => ?_⟩
    obtain ⟨e2, c, hc, ex⟩ := hy
    subst e2 ex
    have hc' := its_at hc
    exact ⟨hw _, cw_turn p (by omega) (ht i c H1 (e.trans e1) hc') (fun hf => he i c H1 (e.trans e1) hc' hf)⟩
  · have ei : i = l.length := by omega
    subst ei
    exact .inl ⟨by show (S l).cps.size ≤ l.length; rw [its_sz]; exact Nat.le_refl _, q Dl H' (fresh_back e1 p.1) (e1.trans p.2.1) p.2.2⟩⟩
end
theorem et_yes {σ : L2.St} {H : Hp} : EvT tYes σ H true := fun H1 _ _ q => q H1 (Ex.refl H1)
theorem given_all (n : Nat) (v : Nat → V) : given n (fun _ => true) v = (List.range n).map v := by
  unfold given
  rw [List.filter_eq_self.mpr (fun _ _ => rfl)]
theorem ev_index {K : PySem.W.Frag} {W : WX} {σ : L2.St} {H : Hp} {to : TE} {ta : TA} {z b : Str} {k : Nat} (ho : Ev to σ H (.str z)) (ha : EvA ta σ H [.str b]) (hk : Txt.index0 z b = some k) : Ev (tBMS K "str" (rIndexX W) to ta) σ H (.int (k : Int)) := fun H1 e _ q =>
  ho H1 e _ fun H2 e2 => ⟨rfl, ha H2 (e.trans e2) _ fun H3 e3 => ⟨z, b, rfl, rfl, fun j hj => by
    rw [hk] at hj
    cases hj
    exact q H3 (e2.trans e3), fun hn => by
    rw [hk] at hn
    cases hn⟩⟩
theorem given_filter {α : Type} (l : List α) (d : α) (p : α → Bool) (g : α → V) : given l.length (fun i => p (l.getD i d)) (fun i => g (l.getD i d)) = (l.filter p).map g := by
  unfold given
  have e : l = (List.range l.length).map fun i => l.getD i d := by
    apply List.ext_getElem
    · simp
    · intro i h1 h2
      simp [h1]
  conv => rhs; rw [e]
  rw [List.filter_map, List.map_map]
  rfl
theorem ev_pow10 {σ : L2.St} {H : Hp} {n v : Int} (h : (10 : Int) ^ n.toNat = v) (h0 : 0 ≤ n) (h1 : n ≤ 1000) : Ev (tOp (rI CPow fun i j => V.int (i ^ j.toNat)) (tC (V.int 10)) (tC (V.int n))) σ H (.int v) := by
  rw [← h]
  exact ev_op ev_c ev_c (rv_I ⟨h0, by omega, by decide⟩)
theorem getD_map_str (cs : List Nat) (k : Nat) : (cs.map fun c => V.str (S [c])).getD k (V.str (S [0])) = V.str (S [cs.getD k 0]) := by
  rw [List.getD_eq_getElem?_getD, List.getD_eq_getElem?_getD, List.getElem?_map]
  cases cs[k]? <;> rfl
theorem getD_in {l : List Nat} {k : Nat} (h : k < l.length) : l.getD k 0 ∈ l := by
  rw [List.getD_eq_getElem?_getD, List.getElem?_eq_getElem h]
  exact List.getElem_mem h
theorem emod_le_nat (i : Nat) {u : Int} (h : 0 < u) : (i : Int) % u ≤ i := by
  have h1 : (i : Int) % u + u * ((i : Int) / u) = i := by
    first
      | exact Int.emod_add_mul_ediv _ _
      | exact Int.emod_add_ediv _ _
  have h2 : 0 ≤ (i : Int) / u := Int.ediv_nonneg (by omega) (by omega)
  have h3 : 0 ≤ u * ((i : Int) / u) := Int.mul_nonneg (by omega) h2
  omega
theorem ev_to {σ : L2.St} {H : Hp} {te ti : TE} {l : List Nat} {k : Nat} (h : Ev te σ H (.str (S l))) (hi : Ev ti σ H (.int (k : Int))) (hl : l.length ≤ 100000) : Ev (tSl rSlS te tNoPart (tPart ti)) σ H (.str (S (l.take k))) := by
  have h := ev_slS h eo_none (eo_some hi) (by rw [S_len]; exact hl)
  rw [cut_to] at h
  exact h
theorem ev_from {σ : L2.St} {H : Hp} {te ti : TE} {l : List Nat} {k : Nat} (h : Ev te σ H (.str (S l))) (hi : Ev ti σ H (.int (k : Int))) (hl : l.length ≤ 100000) : Ev (tSl rSlS te (tPart ti) tNoPart) σ H (.str (S (l.drop k))) := by
  have h := ev_slS h (eo_some hi) eo_none (by rw [S_len]; exact hl)
  rw [cut_from] at h
  exact h
theorem op_first {σ : L2.St} {H : Hp} {r : R2} {ta tb : TE} {x : V} {Q : VK} (h : Ev ta σ H x) (k : ∀ H1, Ex H H1 → tb σ H1 fun y H2 => r x y H2 Q) : tOp r ta tb σ H Q := h H (Ex.refl H) _ k
theorem ret_op {σ : L2.St} {H : Hp} {r : R2} {ta tb : TE} {x : V} {D : Ends} (h : Ev ta σ H x) (k : ∀ H1, Ex H H1 → tb σ H1 fun y H2 => r x y H2 D.rt) : tRet (tOp r ta tb) D σ H := h H (Ex.refl H) _ k
end Lc
namespace Lc
open PySem PySem.Spec PyProof.Rows L2
section
variable {X : Cx} {CX : CXT} {k : Nat} {C f g p : Addr} {fd : FuncData} {ps : List Str} {sp : Sp} {E : XK} {pins : List (Addr × Obj)} {σ : L2.St} {H : Hp} {s : Shared}
/-! ### a def run where the room is another -/
theorem run_at {A : Around} {us : List Value} {vs : List V} {Q : VK} (hA : A.frames = X.A.frames) (F : FnOk X.prog X.w X.K X.mg X.base CX k f fd ps sp) (hr : Room k A) (hb : Binds X.K fd ps []) (hx : Passes CX X E)
    (I : Inv X pins σ H s) (r : Vals vs us) (h : sp vs H Q E) : wpAny (model X.prog X.w) A (call (.ref f) us) (EP X pins σ Q) X.xe s := by
  have e0 : Env0 X.prog X.w X.K X.mg X.base A X.stack s H := by
    have e := I.env0
    exact ⟨by rw [hA]; exact e.frames, e.mod, e.bs, e.bsz, e.funs, e.frf, e.hok, e.bare⟩
  have hl : us.length = ps.length := by rw [← r.length]; exact F.len _ _ _ _ h
  refine wpAny_call (codeAny_mono (F.run A X.stack s H ⟨us, []⟩ us vs Q E hr e0 (by
    have h2 := hb s us I.kIn (by simpa using hl)
    simpa using h2) r h) fun r s' hq => ?_)
  cases r with
  | error e => exact hx pins σ H s e s' I hq
  | ok fl =>
    cases fl with
    | ret u => exact I.after hq
    | next => exact False.elim hq
    | brk => exact False.elim hq
    | cont => exact False.elim hq
/-! ### str(o) by an own __str__ -/
def rStrOwn (C : Addr) (sp : Sp) (E : XK) : List V → Hp → VK → Prop := fun xs H Q => ∃ a dx fs, xs = [.ref a] ∧ H a = some (.ins C dx fs) ∧ sp [.ref a] H (fun v H' => ∃ z, v = .str z ∧ Q v H') E
theorem call_strOwn (F : FnOk X.prog X.w X.K X.mg X.base CX k f fd ps sp) (hr : Room (k + 2) X.A) (hs : PySem.W.findIn X.K (.ref C) "__str__" = some (some (.ref f))) (hf : PySem.W.isFn X.K (.ref f) = true) (hb : Binds X.K fd ps []) (hx : Passes CX X E) :
    CallR X (.type "str") (rStrOwn C sp E) := by
  intro pins s σ H xs us Q I r h
  obtain ⟨a, dx, fs, rfl, ha, hsp⟩ := h
  obtain ⟨u, rfl, r1⟩ := vals1 r
  obtain rfl : u = Value.ref a := r1
  obtain ⟨mA, J, _⟩ := ins_get I.hok ha
  obtain ⟨od, J, _⟩ := J.look
  refine PySem.W.kso_call hr.in1.in1.units0 I.kIn J hs hf (wpAny_mono (run_at (A := X.A.in1.in1) rfl F hr.in1.in1 hb hx I r hsp) (fun w s' hw => ?_) fun _ _ x => x)
  obtain ⟨v, H', I', rv, z, rfl, q⟩ := hw
  obtain ⟨t, rfl⟩ := rv
  exact ⟨.str z, H', I', ⟨t, rfl⟩, q⟩
/-! ### a == b by an own __eq__, both answers -/
def rEqOwn (C : Addr) (sp : Sp) (E : XK) : R2 := fun x y H Q => ∃ a dx fs b dy gs, x = .ref a ∧ H a = some (.ins C dx fs) ∧ y = .ref b ∧ H b = some (.ins C dy gs) ∧ sp [.ref a, .ref b] H (fun v H' => ∃ k, v = .bl k ∧ Q v H') E
theorem op_eqOwn (F : FnOk X.prog X.w X.K X.mg X.base CX k f fd ps sp) (hr : Room k X.A) (hs : PySem.W.findIn X.K (.ref C) "__eq__" = some (some (.ref f))) (hf : PySem.W.isFn X.K (.ref f) = true) (hb : Binds X.K fd ps []) (hx : Passes CX X E) :
    OpR X (compareOp .Eq) (rEqOwn C sp E) := by
  intro pins s σ H x y v u Q I rx ry h
  obtain ⟨a, dx, fs, b, dy, gs, rfl, ha, rfl, hb', hsp⟩ := h
  obtain rfl : v = Value.ref a := rx
  obtain rfl : u = Value.ref b := ry
  show wpAny (model X.prog X.w) X.A (richCompare .Eq (.ref a) (.ref b)) (EP X pins σ Q) X.xe s
  obtain ⟨mA, J, _⟩ := ins_get I.hok ha
  obtain ⟨mB, J', _⟩ := ins_get I.hok hb'
  obtain ⟨od, J, _⟩ := J.look
  obtain ⟨od', J', _⟩ := J'.look
  obtain ⟨m, hF⟩ := I.fr
  refine PySem.W.cmp_K (op := .Eq) (tb := .ref C) hr.units0 hF I.ok.mod.kin J J'.type (by simp [PySem.W.notFirst]) hs hf (wpAny_mono (run_at (A := X.A) (vs := [.ref a, .ref b]) rfl F hr hb hx I (.cons (show RelV (.ref a) (Value.ref a) from rfl) (.cons (show RelV (.ref b) (Value.ref b) from rfl) .nil)) hsp) (fun w s' hw => ?_) fun _ _ x => x)
  obtain ⟨v, H', I', rv, k, rfl, q⟩ := hw
  cases rv
  exact ⟨.bl k, H', I', rfl, q⟩
/-! ### C.m(..), m a static method -/
structure SMet (K : PySem.W.Frag) (C : Addr) (mc : Value) (m : Str) (p g : Addr) : Prop where
  at_ : PySem.W.findCls K (.ref C) mc m = some (.get (.builtin "staticmethod.__get__") (.ref p) .none (.ref C))
  rc : ∃ rest, PySem.W.recIn K p "staticmethod" = some (.ref g :: rest)
  kp : PySem.W.keepIn K (.ref g) = true
def tSMeth (C : Addr) (sp : Sp) (dvs : List V) (E : L2.St → XK) (ta : TE) (t : TA) : TE := fun σ H Q => ta σ H fun x H1 => x = .ref C ∧ t σ H1 fun vs H2 => sp (vs ++ dvs) H2 Q (E σ)
theorem pe_smeth {mc : Value} {m : Str} {dvs : List V} {ds : List Value} {E : L2.St → XK} {o e : Expr} {es : List Expr} {pos apos : Pos} {ta : TE} {t : TA} {pl : Sem Bool} (he : PE X o ta) (r : ClX.CRead X.K C mc) (c : SMet X.K C mc m p g)
    (F : FnOk X.prog X.w X.K X.mg X.base CX k g fd ps sp) (hr : Room k X.A) (hb : Binds X.K fd ps ds) (hd : Vals dvs ds) (hx : ∀ σ, PassesAt CX X σ (E σ)) (ha : PA X (e :: es) t)
    (hst : starEach (e :: es) X.env = (false, eval e X.env) :: starEach es X.env := by rfl) (hpl : (backTo pos (starEach es X.env)).any (·.1) = false := by rfl)
    (ht : eval (.Call (.Attribute o m apos) (e :: es) [] pos) X.env = (do
      let ov ← eval o X.env
      standAt apos.atName
      let (f, first) ← holding [ov] (getMethod ov m pl)
      callWith pos f first (backTo pos (starEach (e :: es) X.env)) (backToKw pos (keywordEach [] X.env))) := by rfl) :
    PE X (.Call (.Attribute o m apos) (e :: es) [] pos) (tSMeth C sp dvs E ta t) := by
  refine ⟨fun pins s σ H Q I h => ?_⟩
  refine PySem.W.methodCall_KW (pl := pl) (thn (he.run pins s σ H _ I h) fun u s1 ⟨x, H1, I1, rx, ex, q⟩ => ?_) ht
  subst ex
  obtain rfl : u = Value.ref C := rx
  obtain ⟨rest, hp⟩ := c.rc
  refine PySem.W.method_cls I1.kIn r.ga (PySem.W.cls_bind I1.kIn r.rd c.at_ (wpAny_call (PySem.W.sm_get (s := { s1 with toks := s1.toks + 1 }) I1.kIn hp (PySem.W.handed_on rfl ?_))))
  have I2 := I1.tok (s1.toks + 1)
  refine PySem.W.callWith_K (h₀ := X.base) (first := []) I2.ok.mod.kin c.kp (thn (ha.run pos pins _ σ H1 _ I2 q) fun us s3 ⟨vs, H2, I3, rv, q2⟩ => ⟨I3.kIn, ?_⟩) hst hpl
  exact run_fnSD F hr hb hd (hx σ) I3 rv q2
end
/-! ### d.get(k, x) of a written table -/
def tKGet (K : PySem.W.Frag) (d : Addr) (td ty tx : TE) : TE := fun σ H Q => td σ H fun x H1 => x = .ref d ∧ ty σ H1 fun y H2 => tx σ H2 fun z H3 => ∃ (n : Str) (r : Option Value) (o : Option V), y = .str n ∧ PySem.W.nsIn K d n = some r ∧
  (match o, r with
    | some v, some u => RelV v u
    | none, none => True
    | _, _ => False) ∧ Q (o.getD z) H3
section
variable {X : Cx} {o e f : Expr} {apos cpos : Pos} {td ty tx : TE} {d : Addr} {es : Array DictEntry} {n : Nat}
theorem pe_kget (D : KDict X.K X.w d es n) (ho : PE X o td) (he : PE X e ty) (hf : PE X f tx) (m : M2 X o "get" apos e f cpos) : PE X (.Call (.Attribute o "get" apos) [e, f] [] cpos) (tKGet X.K d td ty tx) := by
  refine ⟨fun pins s σ H Q I h => ?_⟩
  refine wpAny_Call_method m.base m.few m.line PySem.F.plainAttrs_dict PySem.F.slot_dict_get PySem.F.type_dict_get (thn (ho.run pins s σ H _ I h) fun u s1 ⟨x, H1, I1, rx, ex, q1⟩ => ?_)
  subst ex
  obtain rfl : u = Value.ref d := rx
  refine ⟨kd_type D I1, fun b q => ?_, ?_⟩
  · cases q
    exact ⟨_, I1.kIn _ _ D.at_, rfl⟩
  rw [m.trees]
  refine Calls.callWith_builtin rfl (Calls.evalArgs_plain (Calls.spliced_cons (thn (he.run pins s1 σ H1 _ I1 q1) fun iv s2 ⟨y, H2, I2, ry, q2⟩ =>
    Calls.spliced_cons (thn (hf.run pins s2 σ H2 _ I2 q2) fun fv s3 ⟨z, H3, I3, rz, nm, r, ov, ey, ns, rel, q3⟩ => Calls.spliced_nil ?_))))
  subst ey
  obtain ⟨t, rfl⟩ := ry
  refine call_meetsIn PySem.F.slot_dict_get (kd_type D I3) PySem.F.entry_dict_get (PySem.F.args_dict_get_3 _ _ _) (meets_dict_get_default (strKind X.prog X.w) d (strKind_is X.prog X.w nm t) D.low fv) ⟨_, PySem.W.mapOf_K (prog := X.prog) I3.kIn D.at_ D.lit, ?_⟩
  rw [PySem.W.find_K D.at_ ns]
  refine ⟨ov.getD z, H3, I3.tok _, ?_, q3⟩
  cases ov with
  | none =>
    cases r with
    | none => exact rz
    | some u => exact False.elim rel
  | some v =>
    cases r with
    | none => exact False.elim rel
    | some u => exact rel
end
end Lc
namespace Lc
open PySem PySem.Spec PyProof.Rows L2
/-! ### the facts of classes, as Bools -/
section
variable {K : PySem.W.Frag} {c c2 f m : Str} {b : Bool}
def topB (K : PySem.W.Frag) : Bool := decide (PySem.W.specialIn K (.ref (He.ga K "LeapError")) "__getattribute__" = some (some (.builtin "type.__getattribute__"))) && (PySem.W.readsIn K (He.ga K "LeapError") (.type "type") &&
  ((match PySem.W.findCls K (.ref (He.ga K "LeapError")) (.type "type") "__init__" with
    | some (.val (.builtin b)) => b == "ValueError.__init__"
    | _ => false) && PySem.W.keepIn K (.ref (He.ga K "LeapError"))))
def errB (K : PySem.W.Frag) (c f : Str) : Bool := oexB K (He.ga K c) && (xfB K (He.ga K c) && (decide (PySem.W.findIn K (.ref (He.ga K c)) "__init__" = some (some (.ref (He.ma K (He.ga K c) "__init__")))) &&
  (decide (PySem.W.typeIn K (.ref (He.ma K (He.ga K c) "__init__")) = some (.type "function")) && (decide (PySem.W.findIn K (.ref (He.ga K c)) f = some none) && decide (PySem.W.exmOne K (.ref (He.ga K c)) (.ref (He.ga K "LeapError")) = some true)))))
structure XF (K : PySem.W.Frag) (c f : Str) : Prop where
  oex : OexC K (He.ga K c)
  xf : XfC K (He.ga K c)
  iC : PySem.W.findIn K (.ref (He.ga K c)) "__init__" = some (some (.ref (He.ma K (He.ga K c) "__init__")))
  tI : PySem.W.typeIn K (.ref (He.ma K (He.ga K c) "__init__")) = some (.type "function")
  no : PySem.W.findIn K (.ref (He.ga K c)) f = some none
  exm : PySem.W.exmOne K (.ref (He.ga K c)) (.ref (He.ga K "LeapError")) = some true
  sp : PySem.W.specialIn K (.ref (He.ga K "LeapError")) "__getattribute__" = some (some (.builtin "type.__getattribute__"))
  rd : PySem.W.readsIn K (He.ga K "LeapError") (.type "type") = true
  vV : PySem.W.findCls K (.ref (He.ga K "LeapError")) (.type "type") "__init__" = some (.val (.builtin "ValueError.__init__"))
  kL : PySem.W.keepIn K (.ref (He.ga K "LeapError")) = true
theorem errB_ok (ht : topB K = true) (h : errB K c f = true) : XF K c f := by
  unfold topB at ht
  unfold errB at h
  simp only [Bool.and_eq_true, decide_eq_true_eq] at ht h
  obtain ⟨t1, t2, t3, t4⟩ := ht
  obtain ⟨h1, h2, h3, h4, h5, h6⟩ := h
  refine ⟨oexB_ok h1, xfB_ok h2, h3, h4, h5, h6, t1, t2, ?_, t4⟩
  split at t3
  · rename_i b hb
    rw [hb, beq_iff_eq.mp t3]
  · cases t3
def kitB (K : PySem.W.Frag) (c c2 : Str) (b : Bool) : Bool := decide (PySem.W.kitOne K (.ref (He.ga K c)) (.ref (He.ga K c2)) = some b)
theorem kitB_ok (h : kitB K c c2 b = true) : PySem.W.kitOne K (.ref (He.ga K c)) (.ref (He.ga K c2)) = some b := of_decide_eq_true h
def clsB (K : PySem.W.Frag) (c : Str) : Bool := PySem.W.readsIn K (He.ga K c) (.type "type") && decide (PySem.W.specialIn K (.ref (He.ga K c)) "__getattribute__" = some (some (.builtin "type.__getattribute__")))
theorem clsB_ok (h : clsB K c = true) : ClX.CRead K (He.ga K c) (.type "type") := by
  obtain ⟨h1, h2⟩ := Bool.and_eq_true_iff.mp h
  exact ⟨h1, of_decide_eq_true h2⟩
def smB (K : PySem.W.Frag) (c m : Str) : Bool := He5.wrapB K (He.ga K c) "staticmethod" "staticmethod.__get__" m && PySem.W.keepIn K (.ref (He5.wf K (He.ga K c) "staticmethod" m))
theorem smB_ok (h : smB K c m = true) : SMet K (He.ga K c) (.type "type") m (He.ma K (He.ga K c) m) (He5.wf K (He.ga K c) "staticmethod" m) := by
  obtain ⟨h1, h2⟩ := Bool.and_eq_true_iff.mp h
  obtain ⟨h3, h4⟩ := He5.wrapB_ok h1
  exact ⟨h3, h4, h2⟩
end
/-! ### a name that a table does not have -/
theorem dicW_no {K : PySem.W.Frag} {P : Params} {a : Addr} {ks : List Str} (h : He.dicW K a = some (He.keysIn P ks)) {z : Str} (hz : z ∉ ks) : PySem.W.nsIn K a z = some none := by
  unfold He.dicW at h
  unfold PySem.W.nsIn
  split at h
  · rename_i oc es n sl hk
    rw [hk]
    split at h
    · have e := Option.some.inj h
      have key : ∀ d ∈ es.toList, ∃ k ∈ ks, ∃ t, d.key = .str k t := fun d hd => by
        have hm : He.keyOf d ∈ es.toList.map He.keyOf := List.mem_map_of_mem hd
        rw [e] at hm
        unfold He.keysIn at hm
        obtain ⟨k, hk, ek⟩ := List.mem_map.mp hm
        unfold He.keyOf at ek
        split at ek
        · rename_i x t q
          have e2 := Option.some.inj ek
          have e3 : k = x := congrArg Prod.fst e2
          exact ⟨k, hk, t, by rw [q, e3]⟩
        · cases ek
      have hf : es.toList.find? (fun d => d.key.isStr z) = none := by
        rw [List.find?_eq_none]
        intro d hd
        obtain ⟨k, hk, t, ek⟩ := key d hd
        rw [ek]
        have hne : k ≠ z := fun q => hz (by rw [← q]; exact hk)
        show ¬ (Value.isStr (.str k t) z) = true
        simp [Value.isStr, hne]
      show (match es.toList.find? (fun d => d.key.isStr z) with
        | some e => some (some e.val)
        | none => if es.toList.any (·.refKey) then none else some none) = some none
      rw [hf]
      have ha : es.toList.any (·.refKey) = false := by
        rw [List.any_eq_false]
        intro d hd
        obtain ⟨k, hk, t, ek⟩ := key d hd
        unfold DictEntry.refKey
        rw [ek]
        simp
      simp only [ha]
      rfl
    · cases h
  · cases h
theorem SaysM.tab_no {fa : List He.Fa} {fn : List He5.DefA} {ts : List He.Tab} {ex : PySem.W.Frag → Bool} {w : World} {K : PySem.W.Frag} (c : SaysM fa fn ts ex w K) (i : Nat) {t : He.Tab} (h : ts[i]? = some t) {z : Str} (hz : z ∉ t.2) : PySem.W.nsIn K (t.1 K) z = some none := by
  have e : (ts.map fun t => He.dicW K (t.1 K))[i]? = (ts.map fun t => some (He.keysIn w.params t.2))[i]? := by rw [c.t]
  rw [List.getElem?_map, List.getElem?_map, h] at e
  exact dicW_no (Option.some.inj e) hz
theorem passX {X : Cx} {E : XK} (tk : L2N.Takes X fun cls d _ H' => E cls d H') : Passes (L2N.CX X.prog X.w) X E := fun pins σ H s e s' I c => L2N.passAt tk σ pins H s e s' I c
end Lc
namespace Lc
open PySem PySem.Spec PyProof.Rows L2
/-! ### isinstance(x, C) of an instance of C itself -/
def rIsOwn (C : Addr) : List V → Hp → VK → Prop := fun xs H Q => ∃ a dx fs, xs = [.ref a, .ref C] ∧ H a = some (.ins C dx fs) ∧ Q (.bl true) H
theorem call_isOwn {X : Cx} {C : Addr} : CallR X (.builtin "isinstance") (rIsOwn C) := by
  intro pins s σ H xs us Q I r h
  obtain ⟨a, dx, fs, rfl, ha, q⟩ := h
  obtain ⟨u1, u2, rfl, r1, r2⟩ := vals2 r
  obtain rfl : u1 = Value.ref a := r1
  obtain rfl : u2 = Value.ref C := r2
  obtain ⟨mA, J, _⟩ := ins_get I.hok ha
  obtain ⟨od, J, _⟩ := J.look
  exact isi_same J fun tk => ⟨.bl true, H, I.tok _, rfl, q⟩
end Lc
namespace Lc
open PySem PySem.Spec PyProof.Rows L2
/-! ### isinstance of an error with fields, both answers -/
section
open PySem.W
variable {prog : Program} {w : World} {A : Around} {E : Value → Shared → Prop} {s : Shared} {K : Frag} {x D : Addr} {ox : Obj} {od : Option Obj}
theorem findObj_dataX {C : Addr} {name : Str} {a g : Value} (hc : (clsIn K C).isSome = true) (ha : findIn K (.ref C) name = some (some a)) (hg : specialIn K a "__get__" = some (some g)) (ht : takesIn K a = some true) : findObj K C od name = some (.bind g a) := by
  obtain ⟨cd, hc⟩ := Option.isSome_iff_exists.mp hc
  unfold findObj
  rw [hc, Option.bind_some, ha, Option.bind_some]
  simp [hg, ht]
theorem kin_classX {Q : Option Value → Shared → Prop} (hga : findIn K (.ref D) "__getattribute__" = some (some (.builtin "BaseException.__getattribute__"))) (hgt : findIn K (.ref D) "__getattr__" = some none) (hsub : subIn K (.ref D) (.type "BaseException") = some true)
    (hdct : hasDictIn K D = true) (ha : findIn K (.ref D) "__class__" = some (some (.builtin "object.__class__")))
    (hn : specialIn K (.builtin "object.__class__") "__get__" = some (some (.builtin "getset_descriptor.__get__"))) (htk : takesIn K (.builtin "object.__class__") = some true) (hm : mroIn K D (.type "object") = some true)
    (X : K.In s.heap) (I : InstAt s.heap x ox D od) (h : Q (some (.ref D)) { s with toks := s.toks + 1 }) : wpAny (model prog w) A (getAttr? (.ref x) "__class__") Q E s := by
  have hf : findObj K D od "__class__" = some (.bind (.builtin "getset_descriptor.__get__") (.builtin "object.__class__")) := findObj_dataX (by obtain ⟨cd, hc, _⟩ := any_some hdct; rw [hc]; rfl) ha hn htk
  obtain ⟨hp, g, d, t, os⟩ := s
  have L0 := I.type (M := model prog w)
  have L1 := looks_findIn (M := model prog w) X hga
  have L2 := looks_findIn (M := model prog w) X hgt
  have L3 := looks_find (M := model prog w) X I hf
  have sub : Looks (model prog w) hp (isInstance (.ref x) (.type "BaseException")) true := L0.andThen (looks_subIn X hsub)
  have hx0 : (false && onTheHeap (Value.builtin "BaseException.__getattribute__")) = false := rfl
  have hx2 : (Value.builtin "BaseException.__getattribute__" == Value.builtin "object.__getattribute__") = false := by decide +kernel
  have hx1 : (onTheHeap (Value.ref D) && Value.builtin "BaseException.__getattribute__" == Value.builtin "object.__getattribute__") = false := by rw [hx2]; rfl
  unfold getAttr? getAttrBy? getAttrBy
  refine wpAny_bind (wpAny_mkText (wpAny_bind (wpAny_attempt (wpAny_holding (wpAny_bind (L0.at (wpAny_bind (L1.at ?_))))))))
  show wpAny _ _ (if (onTheHeap (Value.ref D) && Value.builtin "BaseException.__getattribute__" == Value.builtin "object.__getattribute__") = true then _ else _) _ _ _
  rw [hx1, if_neg Bool.false_ne_true]
  unfold getAttrByItsOwn hookBefore
  refine wpAny_bind ?_
  rw [if_pos (show onTheHeap (Value.ref D) = true from rfl)]
  refine L2.at ?_
  refine wpAny_bind (wpAny_attempt (wpAny_holding ?_))
  unfold callGetattribute
  rw [hx0, if_neg Bool.false_ne_true]
  unfold boundAndCalled
  rw [PySem.F.excAttr_ValueError.ga.bind (.ref x)]
  refine wpAny_bind (wpAny_pure ?_)
  show wpAny _ _ (call (.builtin "BaseException.__getattribute__") [.ref x, .str "__class__" t]) _ _ _
  refine wpAny_call (codeAny_call_builtin PySem.F.excAttr_ValueError.ga.plain PySem.F.entry_bexc_ga ?_)
  refine @check_slot (model prog w) _ _ ⟨hp, g, d, t + 1, os⟩ "BaseException.__getattribute__" "BaseException" "__getattribute__" (.ref x) [.str "__class__" t] [] _ (by decide +kernel) (by decide +kernel) sub (PySem.F.args_bexc_ga (.ref x) (.str "__class__" t)) ?_
  unfold Builtin.«object.__getattribute__»
  refine wpAny_bind (wpAny_of_eq (a := ((Value.ref x : Value), [Value.str "__class__" t])) (by first | rfl | (simp only [slotArgs]; rfl)) ?_)
  refine wpAny_bind (wpAny_pure (wpAny_bind (L0.at (wpAny_bind (L3.at ?_)))))
  show wpAny _ _ (holding [Value.builtin "object.__class__"] (call (.builtin "getset_descriptor.__get__") [.builtin "object.__class__", .ref x, .ref D]) >>= ret) _ _ _
  refine wpAny_bind (wpAny_holding (wpAny_call (class_get (s := ⟨hp, g, d, t + 1, os⟩) (ox := ox) (od := od) X I hm ?_)))
  refine wpAny_pure ?_
  show wpAny _ _ (handedOut (.ref D)) _ _ _
  rw [handedOut_of (v := .ref D) rfl]
  first
    | exact wpAny_pure (wpAny_pure h)
    | exact wpAny_pure h
    | exact wpAny_pure (wpAny_bind (wpAny_pure (wpAny_pure h)))
theorem kitx_excX (hga : findIn K (.ref D) "__getattribute__" = some (some (.builtin "BaseException.__getattribute__"))) (hgt : findIn K (.ref D) "__getattr__" = some none) (hsub : subIn K (.ref D) (.type "BaseException") = some true) (hdct : hasDictIn K D = true) (ha : findIn K (.ref D) "__class__" = some (some (.builtin "object.__class__")))
    (hn : specialIn K (.builtin "object.__class__") "__get__" = some (some (.builtin "getset_descriptor.__get__"))) (htk : takesIn K (.builtin "object.__class__") = some true) (hm : mroIn K D (.type "object") = some true) :
    KitX K (.ref x) (.ref D) (fun h => ∃ od, InstAt h x ox D od) where
  ty := fun _ _ _ I => by
    obtain ⟨od, I⟩ := I
    exact I.type
  it := fun _ _ X _ => by
    obtain ⟨cdD, hcD, _⟩ := any_some hdct
    unfold clsIn at hcD
    split at hcD
    · rename_i c' d' cd' sl' ho
      intro A' Q' E' s' k q
      unfold isType loadHead
      exact wpAny_bind (wpAny_loadPart (k _ _ (X _ _ ho)) (wpAny_pure q))
    · cases hcD
  ne := fun h tp dd its n sl X htp => by
    obtain ⟨cdD, hcD, _⟩ := any_some hdct
    refine Bool.eq_false_iff.mpr fun q => ?_
    have e : D = tp := Value.ref.inj (beq_iff_eq.mp q)
    subst e
    unfold clsIn at hcD
    split at hcD
    · rename_i c' d' cd' sl' ho
      have z := (X _ _ ho).symm.trans htp
      cases z
    · cases hcD
  ca := fun X I k => by
    obtain ⟨od, I⟩ := I
    exact kin_classX hga hgt hsub hdct ha hn htk hm X I k
end
def excB (K : PySem.W.Frag) (D : Addr) : Bool := decide (PySem.W.findIn K (.ref D) "__class__" = some (some (.builtin "object.__class__"))) && (decide (PySem.W.specialIn K (.builtin "object.__class__") "__get__" = some (some (.builtin "getset_descriptor.__get__"))) &&
  (decide (PySem.W.takesIn K (.builtin "object.__class__") = some true) && decide (PySem.W.mroIn K D (.type "object") = some true)))
theorem excB_ok {K : PySem.W.Frag} {D : Addr} (T : XfC K D) (h : excB K D = true) : ExcC K D := by
  unfold excB at h
  simp only [Bool.and_eq_true, decide_eq_true_eq] at h
  obtain ⟨h1, h2, h3, h4⟩ := h
  exact ⟨T.ga, T.gg, T.exC, T.hdC, h1, h2, h3, h4⟩
/-- isinstance(e, c), e a caught error with fields -/
def rIsG (K : PySem.W.Frag) (D a : Addr) (cls : Value) (d : Option Addr) : List V → Hp → VK → Prop := fun xs H Q => ∃ (c : V) (cv : Value) (b : Bool) (dd : Addr) (fs : List (Str × V)), xs = [.ref a, c] ∧ ClsV c cv ∧ cls = .ref D ∧ d = some dd ∧ H dd = some (.xd fs) ∧ PySem.W.kitOne K (.ref D) cv = some b ∧ Q (.bl b) H
theorem call_isG {X : Cx} {a D : Addr} {oe : Obj} {cls : Value} {d : Option Addr} {pn : List (Addr × Obj)} (C : ExcC X.K D) (hz : Zc cls d oe) (hf : ∃ vs, oe.data = .fields vs) : CallR (X.suite a ((a, oe) :: pn)) (.builtin "isinstance") (rIsG X.K D a cls d) := by
  intro pins s σ H xs us Q I r h
  obtain ⟨c, cv, b, dd, fs, rfl, k, rfl, rfl, hdd, e, q⟩ := h
  obtain ⟨u1, u2, rfl, r1, r2⟩ := vals2 r
  obtain rfl : u1 = Value.ref a := r1
  have e2 := k.eq r2
  subst e2
  obtain ⟨hget, _⟩ := I.pin (a, oe) (List.mem_append.mpr (.inl List.mem_cons_self))
  obtain ⟨vs, hv⟩ := hf
  have hx : ObjOk X.prog X.w H s.heap dd (.xd fs) := I.hok dd _ hdd
  obtain ⟨mA, hns, _⟩ := hx
  obtain ⟨od, ho, _⟩ := lookIn_ns hns
  have J : PySem.W.InstAt s.heap a oe D (some od) := ⟨hget, hz.1, by unfold PySem.W.notCls; rw [hv] <;> rfl, by rw [hz.2]; exact ho⟩
  exact PySem.W.kia_one (kitx_excX C.hg C.hk C.hs C.hd C.ha C.hn C.ht C.hm) I.kIn ⟨some od, J⟩ e (fun z => nomatch z) fun tk => ⟨.bl b, H, I.tok tk, rfl, q⟩
/-! ### e.replace(y, z).lower(), e.replace(y, z).upper() -/
section
variable {X : Cx} {o : Expr} {to : TE}
theorem pet_m0 {id : String} {name : Str} {apos pos : Pos} {r : V → List V → Hp → VK → Prop} (slot : Slot "str" name id) (ty : typeOf (.builtin id) = pure (.type "method_descriptor")) (rule : MtR X id r) (ho : PET X o to)
    (hbase : attributeBase o name X.env (eval o X.env) = eval o X.env := by rfl) (hline : (apos.endLine == pos.line) = true := by rfl) : PET X (.Call (.Attribute o name apos) [] [] pos) (tM0 r to) := by
  intro pins s σ H Q h0 I h
  refine PySem.Call_method0 hbase hline (thn (ho pins s σ H _ h0 I h) fun v s1 ⟨x, H1, I1, r1, q1⟩ => ?_)
  obtain ⟨⟨a, rfl⟩, q1⟩ := q1
  obtain ⟨t, rfl⟩ := _root_.id r1
  exact ⟨"str", _, F.plainAttrs_str, slot, ty, typeIs_str _ _ _, (fun _ e => nomatch e), Calls.callWith_builtin rfl (PySem.evalArgs_none (rule pins s1 σ H1 _ [] _ [] Q I1 r1 .nil q1))⟩
end
/-- a def's body, one token out at its beginning -/
theorem okT {P : Program} {w : World} {K : PySem.W.Frag} {mg : Str → Option Value} {base : Heap} {k : Nat} {d : He5.DefA} {N ps : List Str} {sp : Sp} (F : HasD K d) (S : FnScope N ps d.scope) (hnc : ∀ y ∈ d.scope.names, y.2 ≠ .cell) (hps : 1 ≤ ps.length) (len : ∀ vs H Q E, sp vs H Q E → vs.length = ps.length)
    (hbody : ∀ (cdv : Value) (A : Around) (outer : List Env) (s : Shared) (H : Hp) (vs : List V) (Q : VK) (E : XK), Room k (A.deeper (envOfC d.qual d.scope s.heap.objs.size (d.at_ K) cdv)) → sp vs H Q E →
      ∃ t, PSsT (cxOf (L2N.CX P w) P w K mg base N d.qual d.scope (d.at_ K) cdv A outer s H E) d.body t ∧ t { nx := fun _ H' => Q .non H', rt := Q } (start N vs) H) :
    OkD P w K mg base (k + 1) d ps sp := by
  obtain ⟨oc, od, dV, kV, doc, pm, an, cdv, ct, osl, e, lk, hcd, _, _⟩ := F.ex
  show FnOk P w K mg base (L2N.CX P w) (k + 1) (d.at_ K) (fdOf K (d.at_ K)) ps sp
  rw [e] at lk ⊢
  exact fn_ofT lk hcd S hnc hps len (fun A outer s H vs Q E hr h => hbody cdv A outer s H vs Q E hr h)
/-! ### enumerate(a text) -/
def Itn (z : Str) : It := ⟨fun i _ => i < z.cps.size, fun i H v H' => ∃ T c, v = .ref T ∧ H T = none ∧ H' = upd H T (.tup [.int (i : Nat), .str ⟨#[c]⟩]) ∧ z.cps[i]? = some c, fun i _ => z.cps.size ≤ i⟩
theorem turn_enumS {P : Program} {w : World} {K : PySem.W.Frag} {elts : List Expr} {kk : Nat} {tpos : Pos} (z : Str) (t : Tok) (e it : Addr) (ty : String) (hty : ty = "str_ascii_iterator" ∨ ty = "str_iterator") :
    Turn P w K (.Tuple elts kk tpos) (Itn z) [e, it] e (fun i h => (∃ old, IsEnum h e it ((i : Nat) : Int) old) ∧ h.IsStrIter it ty z t i ∧ e ≠ it) where
  mem := by simp
  obj := fun i h st b hb => by
    obtain ⟨⟨old, he⟩, ⟨o, ho, hc, hd⟩, _⟩ := st
    have e' : b = e ∨ b = it := by simpa using hb
    rcases e' with q | q
    · rw [q]; exact ⟨_, he, fun v q => nomatch q⟩
    · rw [q]; exact ⟨o, ho, fun v q => by rw [hd] at q; cases q⟩
  keep := fun i h h' st k => let ⟨⟨old, he⟩, ⟨o, ho, r⟩, hne⟩ := st; ⟨⟨old, k e (by simp) _ he⟩, ⟨o, k it (by simp) o ho, r⟩, hne⟩
  item := by
    intro X hP hw hK hc i pins s σ H E I hf st hg
    subst hP hw hK
    obtain ⟨⟨old, he⟩, hit, hne⟩ := st
    have hel : e < s.heap.objs.size := Heap.lt_size he
    have hil : it < s.heap.objs.size := by obtain ⟨_, q, _⟩ := hit; exact Heap.lt_size q
    have hh : X.A.in1.handled = none := I.ok.hd hc
    have D : Draws X.prog X.w X.A.in1 it [it] z.cps.size (fun i v => ∃ c u, z.cps[i]? = some c ∧ v = .str ⟨#[c]⟩ u) (fun i h => h.IsStrIter it ty z t i) := by
      rcases hty with q | q
      · rw [q]; exact Draws.strAscii hh it z t
      · rw [q]; exact Draws.strWide hh it z t
    refine wpAny_pyNext_enum_itemD D he hit hg hne (by simpa using hne) fun x h' tk hx ho hit' hT hsz hk => ?_
    obtain ⟨c, u, hcx, rfl⟩ := hx
    refine ⟨_, rfl, wpAny_letOwnedTupleGo_enum (s := { s with heap := h', toks := tk + 1 }) ho fun h'' he' sb => ?_⟩
    have hT2 : h''.get? s.heap.objs.size = some { cls := .type "tuple", data := .seq #[.int i tk, .str ⟨#[c]⟩ u] } := (sb.2 _ (Nat.ne_of_gt hel)).trans hT
    have new : ObjOk X.prog X.w (upd H s.heap.objs.size (.tup [.int (i : Nat), .str ⟨#[c]⟩])) h'' s.heap.objs.size (.tup [.int (i : Nat), .str ⟨#[c]⟩]) :=
      ⟨by show 2 ≤ sizeLine; decide, [.int i tk, .str ⟨#[c]⟩ u], .cons ⟨_, rfl⟩ (.cons ⟨_, rfl⟩ .nil), ⟨_, hT2, rfl, _, rfl⟩⟩
    have I1 : Inv X pins σ (upd H s.heap.objs.size (.tup [.int (i : Nat), .str ⟨#[c]⟩])) { s with heap := h'', toks := tk + 1 } :=
      I.turnedNew (ch := [e, it]) (fun b ob hb q => (sb.2 b (fun z => hb (by simp [z]))).trans (hk b ob (fun z => hb (by simp [z])) (fun z => hb (by simp [z])) q)) hf (Nat.le_refl _) new
    refine ⟨.ref s.heap.objs.size, _, I1, rfl, ⟨_, c, rfl, I.hok.fresh (Nat.le_refl _), rfl, hcx⟩, ⟨⟨.str ⟨#[c]⟩ u, ?_⟩, ?_, hne⟩, fun b hb => ?_⟩
    · have e1 : ((i + 1 : Nat) : Int) = (i : Int) + 1 := by omega
      rw [e1]; exact he'
    · obtain ⟨o, ho', r⟩ := hit'
      exact ⟨o, (sb.2 it (Ne.symm hne)).trans ho', r⟩
    · have hb' : b < s.heap.objs.size := by
        have e' : b = e ∨ b = it := by simpa using hb
        rcases e' with q | q
        · rw [q]; exact hel
        · rw [q]; exact hil
      rw [upd_ne (Nat.ne_of_lt hb')]
      exact (hf b hb).1
  done := by
    intro X hP hw hK hc i pins s σ H E I hf st hg
    subst hP hw hK
    obtain ⟨⟨old, he⟩, hit, hne⟩ := st
    obtain ⟨f0, f1, f2, f3, f4, f5⟩ := hf it (by simp)
    have hh : X.A.in1.handled = none := I.ok.hd hc
    have hx : z.cps[i]? = none := Array.getElem?_eq_none hg
    have hT : s.TypeIs (.ref e) "enumerate" := ⟨_, he, rfl⟩
    unfold pyNext
    refine wpAny_bind (wpAny_attempt (wpAny_callSpecial?_slot (name := Str.ofString "__next__") hT F.slot_enumerate_next
      (wpAny_call_entry F.slot_enumerate_next hT F.entry_enumerate_next ?_ (F.args_enumerate_next_1 _))))
    show wpAny _ _ (field (.ref e) 2 >>= _) _ _ _
    refine wpAny_bind (wpAny_field he rfl (x := .ref it) rfl ?_)
    rcases hty with q | q
    · rw [q] at hit
      refine wpAny_bind (wpAny_nextOf_ascii_end hh hit hx fun h' x eb hx' => ?_)
      obtain ⟨o, ho, hc'⟩ := hx'
      refine wpAny_bind (wpAny_isInstance (T := "StopIteration") (b := true) ⟨o, ho, hc'⟩ isSubtype_stop ?_)
      exact wpAny_pure ⟨rfl, I.turned (t' := s.toks) (fun b o hb e => eb b o hb e) f0 f1 f3 f4 f5⟩
    · rw [q] at hit
      refine wpAny_bind (wpAny_nextOf_wide_end hh hit hx fun h' x eb hx' => ?_)
      obtain ⟨o, ho, hc'⟩ := hx'
      refine wpAny_bind (wpAny_isInstance (T := "StopIteration") (b := true) ⟨o, ho, hc'⟩ isSubtype_stop ?_)
      exact wpAny_pure ⟨rfl, I.turned (t' := s.toks) (fun b o hb e => eb b o hb e) f0 f1 f3 f4 f5⟩
  self := fun A i s Q E st h => let ⟨⟨_, he⟩, _⟩ := st; wpAny_pyIter_enum he h
def iEnumS (ta : TA) : TI := fun σ H R => ta σ H fun vs H1 => ∃ z, vs = [.str z] ∧ R (Itn z) H1
theorem pi_enumS {X : Cx} {e : Expr} {ta : TA} {p pos tpos : Pos} {elts : List Expr} {kk : Nat} (hg : Gl X "enumerate") (hm : X.mg "enumerate" = none) (ha : PA X [e] ta) (hs : starEach [e] X.env = [(false, eval e X.env)] := by rfl) :
    PI X (.Tuple elts kk tpos) (.Call (.Name "enumerate" p) [e] [] pos) (iEnumS ta) := by
  refine ⟨fun pins s σ H R I h => ?_⟩
  refine Call_ (ld_blt I hg hm boot_enumerate (PyProof.Rows.callWith_type1 (thn (ha.run pos pins s σ H _ I h) fun us s1 ⟨vs, H1, I1, r1, q1⟩ => ?_) hs rfl))
  obtain ⟨z, ex, q⟩ := q1
  subst ex
  obtain ⟨u, rfl, r⟩ := vals1 r1
  obtain ⟨t, rfl⟩ := r
  refine call_enumerate_str fun h' he hit hsz hk => wpAny_pyIter_enum he ?_
  have I2 : Inv X pins σ H1 { s1 with heap := h' } := I1.kept (t' := s1.toks) hk
  have hty : strIterType z = "str_ascii_iterator" ∨ strIterType z = "str_iterator" := by
    unfold strIterType
    split
    · exact .inl rfl
    · exact .inr rfl
  refine ⟨s1.heap.objs.size + 1, [s1.heap.objs.size + 1, s1.heap.objs.size], _, _, H1, rfl, I2, turn_enumS z t (s1.heap.objs.size + 1) s1.heap.objs.size _ hty, ⟨⟨.none, he⟩, hit, Nat.succ_ne_self _⟩, fun b hb => ?_, q⟩
  have e' : b = s1.heap.objs.size + 1 ∨ b = s1.heap.objs.size := by simpa using hb
  have hle : s1.heap.objs.size ≤ b := by
    rcases e' with z | z
    · rw [z]; exact Nat.le_add_right _ _
    · rw [z]; exact Nat.le_refl _
  exact I1.fpOk hle (I1.hok.fresh hle)
end Lc
namespace Lc
open PySem PySem.Spec PyProof.Rows L2
/-! ### an own error as a value: made, its field read, asked for its class -/
def tMkV (C : Addr) (sp : Sp) (dvs : List V) (ta : TA) : TE := fun σ H Q => ta σ H fun vs H1 => vs.length ≤ 1000 ∧ ∀ a, H1 a = none → sp (.ref a :: (vs ++ dvs)) (upd H1 a (exo a C none)) (fun v H2 => v = .non ∧ Q (.ref a) H2) E0
section
variable {X : Cx}
theorem pe_mkV {CY : CXT} {nm : Str} {C g : Addr} {lev : Nat} {fdI : FuncData} {prs : List Str} {pr : Sp} {xs : List Value} {ws : List V} {arg : Expr} {more : List Expr} {tA : TA} {q1 q2 : Pos}
    (ox : OexC X.K C) (at_ : PySem.W.findIn X.K (.ref C) "__init__" = some (some (.ref g))) (isf : PySem.W.typeIn X.K (.ref g) = some (.type "function"))
    (keeps : FnOk X.prog X.w X.K X.mg X.base CY lev g fdI prs pr) (room : Room (lev + 1) X.A) (bnd : Binds X.K fdI prs xs) (vls : Vals ws xs) (ps : Passes CY X E0) (gl : Gl X nm) (mgx : X.mg nm = some (.ref C)) (pa : PA X (arg :: more) tA)
    (ndb : (nm == ("__debug__" : Str)) = false := by decide) (plain1 : starEach (arg :: more) X.env = (false, eval arg X.env) :: starEach more X.env := by rfl) (plain2 : (backTo q2 (starEach more X.env)).any (·.1) = false := by rfl) :
    PE X (.Call (.Name nm q1) (arg :: more) [] q2) (tMkV C pr ws tA) := by
  refine ⟨fun pins s σ H Q I goal => ?_⟩
  obtain ⟨_, _, _, _, mro, _, _, _, _, _, _, _, _, _, _, lkC, ve⟩ := ox.cls
  refine wpAny_Call_Name_kw (ld_glob I gl mgx ?_ ndb)
  refine PySem.W.callWith_K (h₀ := X.base) I.ok.mod.kin ox.kC (thn (pa.run q2 pins s σ H _ I goal) ?_) plain1 plain2
  rintro us ⟨hp, gs, dr, tk, os⟩ ⟨vs, Ha, Ia, ra, small, each⟩
  refine ⟨Ia.kIn, ?_⟩
  show wpAny _ _ (call (.ref C) us) _ _ _
  have above : hp.objs.size ≤ hp.objs.size + 1 := by omega
  have free : Ha (hp.objs.size + 1) = none := Ia.hok.fresh above
  have pr1 := each (hp.objs.size + 1) free
  let hp2 := (hp.push (PySem.W.kdv_tup us)).push (PySem.HandSPX.excO C hp.objs.size)
  have kept : ∀ b o, hp.get? b = some o → hp2.get? b = some o := fun b o e => Heap.get?_push_of_some _ (Heap.get?_push_of_some _ e)
  have here : hp2.get? (hp.objs.size + 1) = some (PySem.HandSPX.excO C hp.objs.size) := by show ((hp.push (PySem.W.kdv_tup us)).push (PySem.HandSPX.excO C hp.objs.size)).get? _ = _; heap_get
  have Ib : Inv X pins σ (upd Ha (hp.objs.size + 1) (exo (hp.objs.size + 1) C none)) ⟨hp2, gs, dr, tk, os⟩ := Ia.laid (t' := tk) (a := hp.objs.size + 1) (o := exo (hp.objs.size + 1) C none) (h' := hp2) kept above (exo_ok here)
  have rb : Vals (V.ref (hp.objs.size + 1) :: (vs ++ ws)) (Value.ref (hp.objs.size + 1) :: (us ++ xs)) := .cons rfl (ra.append vls)
  have many : (Value.ref (hp.objs.size + 1) :: us ++ xs).length = prs.length := by rw [← keeps.len _ _ _ _ pr1]; exact rb.length.symm
  have fits : us.length ≤ sizeLine := by rw [← Paired.length ra, sizeLine_eq]; omega
  have body := keeps.run _ X.stack _ _ ⟨Value.ref (hp.objs.size + 1) :: us, []⟩ (Value.ref (hp.objs.size + 1) :: (us ++ xs)) _ _ E0 (room.make C us []) (Ib.env0.make C us []) (bnd _ (Value.ref (hp.objs.size + 1) :: us) Ib.kIn many) rb pr1
  refine wpAny_call (PySem.HandSPX.call_own F.excBase_ValueError (fun Y => PySem.HandSPX.refsVE_contains Y mro ve) (Ia.kIn _ _ lkC) (PySem.W.looks_findIn Ia.kIn at_) (fun self => PySem.W.bind_fn Ia.kIn self isf) fits (codeAny_mono body ?_))
  intro r s' after
  match r, after with
  | .error er, after => exact ps pins σ _ _ er s' Ib after
  | .ok (.ret u), after =>
    obtain ⟨v, Hb, J, rv, none_, q⟩ := Ib.after after
    subst none_
    exact ⟨rv, .ref (hp.objs.size + 1), Hb, J, rfl, q⟩
  | .ok .next, after => exact False.elim after
  | .ok .brk, after => exact False.elim after
  | .ok .cont, after => exact False.elim after
/-- e.f, e an own error with its dict -/
def tXo (K : PySem.W.Frag) (f : Str) (te : TE) : TE := fun σ H Q => te σ H fun x H1 => ∃ (a C dx : Addr) (fs : List (Str × V)) (v : V), x = .ref a ∧ XfC K C ∧ PySem.W.findIn K (.ref C) f = some none ∧ H1 a = some (exo a C (some dx)) ∧ H1 dx = some (exd dx fs) ∧ fs.lookup f = some v ∧ Q v H1
theorem exo_inst {P : Program} {w : World} {H : Hp} {h : Heap} {a C dx : Addr} {fs : List (Str × V)} (hok : HOk P w H h) (ha : H a = some (exo a C (some dx))) (hd : H dx = some (exd dx fs)) :
    ∃ (ox : Obj) (od : Obj) (mA : Str → Option Value), PySem.W.InstAt h a ox C (some od) ∧ (∀ f, RelO (fs.lookup f) (mA f)) ∧ (∀ f, PySem.W.lookIn f od = some (mA f)) := by
  obtain ⟨t1, ho⟩ := exo_at hok ha
  obtain ⟨mA, hns, rel⟩ := exd_at hok hd
  obtain ⟨od, hod, hl⟩ := lookIn_ns hns
  exact ⟨_, od, mA, ⟨ho, rfl, rfl, hod⟩, rel, hl⟩
theorem pe_xo {e : Expr} {te : TE} {pos : Pos} {n : Str} (he : PE X e te) (hb : attributeBase e n X.env (eval e X.env) = eval e X.env := by rfl) : PE X (.Attribute e n pos) (tXo X.K n te) := by
  refine ⟨fun pins s σ H Q I h => ?_⟩
  refine attr_of hb (thn (he.run pins s σ H _ I h) fun u s1 hh => ?_)
  obtain ⟨x, H1, I1, rx, a, C, dx, fs, v, ex, T, hno, ha, hd, l, q⟩ := hh
  subst ex
  obtain rfl : u = Value.ref a := rx
  obtain ⟨ox, od, mA, J, rel, hl⟩ := exo_inst I1.hok ha hd
  obtain ⟨u, hu, ru⟩ := RelO.some_of (v := v) (o := mA n) (by rw [← l]; exact rel n)
  exact HandSPX.exc_get I1.kIn J T.ga T.gg T.exC (PySem.W.findObj_own T.hdC hno rfl (by rw [hl, hu])) (handed_of ru) ⟨v, H1, I1.tok _, ru, q⟩
/-- isinstance(e, c), e an own error with its dict -/
def rIsV (K : PySem.W.Frag) : List V → Hp → VK → Prop := fun xs H Q => ∃ (a D dx : Addr) (fs : List (Str × V)) (c : V) (cv : Value) (b : Bool), xs = [.ref a, c] ∧ ClsV c cv ∧ ExcC K D ∧ H a = some (exo a D (some dx)) ∧ H dx = some (exd dx fs) ∧ PySem.W.kitOne K (.ref D) cv = some b ∧ Q (.bl b) H
theorem call_isV : CallR X (.builtin "isinstance") (rIsV X.K) := by
  intro pins s σ H xs us Q I r h
  obtain ⟨a, D, dx, fs, c, cv, b, rfl, k, C, ha, hd, e, q⟩ := h
  obtain ⟨u1, u2, rfl, r1, r2⟩ := vals2 r
  obtain rfl : u1 = Value.ref a := r1
  have e2 := k.eq r2
  subst e2
  obtain ⟨ox, od, mA, J, _, _⟩ := exo_inst I.hok ha hd
  exact PySem.W.kia_one (kitx_excX C.hg C.hk C.hs C.hd C.ha C.hn C.ht C.hm) I.kIn ⟨some od, J⟩ e (fun z => nomatch z) fun tk => ⟨.bl b, H, I.tok tk, rfl, q⟩
/-- {t!r}, t a tuple of texts -/
theorem pe_fmtRT {e : Expr} {te : TE} {pos : Pos} {k : Nat} (hr : Room k X.A) (he : PE X e te) : PE X (.FormattedValue e 114 none pos) (tFmtT X.K te) := by
  refine ⟨fun pins s σ H Q I h => ?_⟩
  refine wpAny_FormattedValue_repr (thn (he.run pins s σ H _ I h) fun v s1 hv => ?_)
  obtain ⟨x, H1, I1, r1, a, l, rfl, ht, hc, hz, q⟩ := hv
  cases r1
  obtain ⟨its, rv, ⟨o, ho, hcl, n, hd⟩, _⟩ := I1.tuple ht
  have hp := fmt_piled l hc
  have htx := fmt_text (l.map reprText)
  have hu := hr.units
  refine wpAny_pyReprObj_slot (by omega) ⟨o, ho, hcl⟩ F.slot_tuple_repr (fmt_tuple_repr (ts := l.map reprText) ho hcl hd (repr_all rv fun y hy => ?_) (by omega) fun m u tk hm => ⟨m, u, rfl, ?_⟩)
  · have h1 := StrLaws.reprText_len y (hc y hy)
    have h2 := fmtCost_mem hy
    omega
  · exact wpAny_formatField_str ⟨.str m, H1, I1.tok _, ⟨_, rfl⟩, q m (by omega)⟩ ⟨.str m, H1, I1.tok _, ⟨_, rfl⟩, q m (by omega)⟩ (by omega)
/-- sorted(t), t a text below 64 signs -/
def sgs (z : Str) : List Str := z.cps.toList.map fun c => (⟨#[c]⟩ : Str)
def rSortS : List V → Hp → VK → Prop := fun xs H Q => ∃ z : Str, xs = [.str z] ∧ z.length < 64 ∧ ∀ ys p H', ys.Perm (sgs z) → sortedS ys = true → H p = none → H' = upd H p (.lst (ys.map V.str)) → Q (.ref p) H'
theorem call_sortedStr (hcalm : X.calm = true) : CallR X (.builtin "sorted") rSortS := by
  intro pins s σ H xs us Q I r q
  obtain ⟨z, ex, h64, q⟩ := q
  subst ex
  obtain ⟨u, eu, rx⟩ := vals1 r
  subst eu
  obtain ⟨t, rfl⟩ := rx
  have hzl : z.cps.size = z.length := rfl
  have hzs : (sgs z).length = z.length := by
    unfold sgs
    rw [List.length_map, Array.length_toList]
    rfl
  refine Calls.call_function_entry PyProof.Rows.kind_sorted PyProof.Rows.plain_sorted PyProof.Rows.entry_sorted (PyProof.Rows.args_sorted1 _) ?_
  unfold Builtin.«sorted»
  refine wpAny_bind (m := checkCount "sorted" 1 1 _) (wpAny_pure ?_)
  refine wpAny_bind (wpAny_collect_str (A := X.A.in1) (I.ok.hd hcalm) z t (fun s' acc hk hg hd ho hacc => ?_) (by rw [hzl, sizeLine_eq]; omega))
  obtain ⟨hp', g', d', tk, os'⟩ := s'
  dsimp only at hk hg hd ho
  subst hg hd ho
  have hal : acc.toList.length = (sgs z).length := by rw [Array.length_toList, hacc.1, hzs]; rfl
  have hS : StrsAre acc.toList (sgs z) := L2.strs_at hal fun j v e => by
    obtain ⟨c, u, e1, e2⟩ := hacc.2 j v (by rw [← Array.getElem?_toList]; exact e)
    refine ⟨⟨#[c]⟩, u, ?_, e2⟩
    unfold sgs
    rw [List.getElem?_map, Array.getElem?_toList, e1]
    rfl
  have I1 : Inv X pins σ H { s with heap := hp', toks := tk } := I.kept hk
  refine wpAny_bind (wpAny_newList ?_ (by rw [hal, hzs, sizeLine_eq]; omega))
  have hoL : (hp'.push (seqObj "list" acc.toList.toArray 0)).get? hp'.objs.size = some (seqObj "list" acc.toList.toArray 0) := Heap.get?_push_size _ rfl
  show wpAny _ _ _ _ _ { s with heap := hp'.push (seqObj "list" acc.toList.toArray 0), toks := tk }
  refine wpAny_bind (wpAny_holding (wpAny_call_entry PyProof.Rows.slot_list_sort ⟨_, hoL, rfl⟩ PyProof.Rows.entry_list_sort
    (list_sort_treeK strKind_oneLt (s := { s with heap := hp'.push (seqObj "list" acc.toList.toArray 0), toks := tk }) hoL hS.keysOf (fun v₁ v₂ rest e => keyKind_strs (by rw [← e]; exact hS)) (by rw [hal, hzs]; exact h64) fun st' hp hs => ⟨_, rfl, ?_⟩)
    (PyProof.Rows.args_list_sort _)))
  obtain ⟨ys, g1, g2, g3⟩ := sorted_out_str hS hp hs
  obtain ⟨e', he'⟩ := PyProof.Rows.sortedHeap_at (vs := acc.toList) (out := (arrOf st').map (·.2)) hoL
  have hlen : (ys.map V.str).length ≤ sizeLine := by
    rw [List.length_map, g2.length_eq, hzs]
    exact Nat.le_trans (Nat.le_of_lt h64) (by decide)
  refine wpAny_pure ⟨_, rfl, .ref hp'.objs.size, upd H hp'.objs.size (.lst (ys.map V.str)), I1.laid (t' := tk) (fun b u e => ?_) (Nat.le_refl _)
    (show ObjOk X.prog X.w _ _ _ (.lst (ys.map V.str)) from ⟨hlen, ((arrOf st').map (·.2)).toList, e', vals_of_strs g1, by rw [Array.toArray_toList]; exact he'⟩), rfl, q ys _ _ g2 g3 (I1.hok.fresh (Nat.le_refl _)) rfl⟩
  have hb : b < hp'.objs.size := Heap.lt_size e
  rw [PyProof.Rows.sortedHeap_old (Nat.ne_of_lt hb) (by rw [size_push']; exact Nat.lt_succ_of_lt hb)]
  exact Heap.get?_push_of_some _ e
end
end Lc
namespace Lc
open PySem PySem.Spec PyProof.Rows L2 Evl
section
variable {K : PySem.W.Frag} {σ : L2.St} {H H' : Hp} {ta tb te tx : TE} {t : TT} {x y z v : V} {r : R2} {D : Ends} {tu tz : TS} {tA : TA}
/-- the pair (i, sign) taken apart -/
theorem gpair {K : PySem.W.Frag} {p q : Nat} {Ta : Addr} {a b : V} {σ : L2.St} {H : Hp} {Q : L2.St → Hp → Prop} (h : H Ta = some (.tup [a, b])) (k : Q ((σ.set p (some a)).set q (some b)) H) : gTup K 2 (gCons (gName p) (gCons (gName q) gNil)) (.ref Ta) σ H Q :=
  ⟨Ta, [a, b], rfl, st_of h, rfl, _, _, rfl, _, _, rfl, rfl, k⟩
theorem el_lcE {l : List Nat} {p q : Nat} {vs : List Nat} (f : Nat → Bool) (v : Nat → V) (h : EvA tA σ H [.str (S l)]) (hz : l.length ≤ 40000) (hw : ∀ x y, wipe (((wipe σ vs).set p (some x)).set q (some y)) vs = wipe σ vs)
    (ht : ∀ (i : Nat) (c : Nat) H1, Ex H H1 → l[i]? = some c → EvT t (((wipe σ vs).set p (some (.int (i : Nat)))).set q (some (.str (S [c])))) H1 (f i))
    (he : ∀ (i : Nat) (c : Nat) H1, Ex H H1 → l[i]? = some c → f i = true → Ev te (((wipe σ vs).set p (some (.int (i : Nat)))).set q (some (.str (S [c])))) H1 (v i)) :
    EvL (tLc (iEnumS tA) (gTup K 2 (gCons (gName p) (gCons (gName q) gNil))) t te vs) σ H (given l.length f v) := fun H0 e Q qq => h H0 e _ fun H1 e1 => ⟨S l, rfl, fun Dl hD => by
  refine ⟨fun i m H' => m = l.length - i ∧ i ≤ l.length ∧ Cw H1 f v Dl i H', ⟨l.length, by simp, Nat.zero_le _, ⟨hD, Ex.new hD, upd_same⟩⟩, ?_⟩
  rintro i m H' ⟨rfl, hi, pc⟩
  by_cases hlt : i < l.length
  · refine .inr ⟨by show i < (S l).cps.size; rw [its_sz]; exact hlt, Cw H1 f v Dl (i + 1), fun H2 p2 => ⟨l.length - (i + 1), by omega, rfl, hlt, p2⟩, fun x H2 hy => ?_⟩
    obtain ⟨Ta, c, ex, hT, e2, hc⟩ := hy
    subst ex
    have hc' := its_at hc
    obtain ⟨c1, c2, c3⟩ := pc
    have pc2 : Cw H1 f v Dl i H2 := ⟨c1, by rw [e2]; exact c2.trans (Ex.new hT), by
      rw [e2, upd_ne (fun z => by rw [z, hT] at c3; cases c3)]
      exact c3⟩
    refine gpair (by rw [e2]; exact upd_same) ⟨hw _ _, ?_⟩
    exact cw_turn pc2 (by omega) (ht i c H1 (e.trans e1) hc') (fun hf => he i c H1 (e.trans e1) hc' hf)
  · have ei : i = l.length := by omega
    subst ei
    exact .inl ⟨by show (S l).cps.size ≤ l.length; rw [its_sz]; exact Nat.le_refl _, qq Dl H' (fresh_back e1 pc.1) (e1.trans pc.2.1) pc.2.2⟩⟩
theorem s_forE {l : List Nat} {p q : Nat} (h : EvA tA σ H [.str (S l)]) (Pv : Nat → L2.St → Hp → Prop) (h0 : ∀ H1, Ex H H1 → Pv 0 σ H1) (hx : ∀ i σ' H1 H2, Pv i σ' H1 → Ex H1 H2 → Pv i σ' H2)
    (hs : ∀ i c σ' H', l[i]? = some c → Pv i σ' H' → tu { D with nx := Pv (i + 1), ct := Pv (i + 1), bk := D.nx } ((σ'.set p (some (.int (i : Nat)))).set q (some (.str (S [c])))) H') (hd : ∀ σ' H', Pv l.length σ' H' → D.nx σ' H') :
    tFor (iEnumS tA) (gTup K 2 (gCons (gName p) (gCons (gName q) gNil))) tu D σ H :=
  h H (Ex.refl H) _ fun H1 e => ⟨S l, rfl, fun i m σ' H' => m = l.length - i ∧ i ≤ l.length ∧ Pv i σ' H', ⟨l.length, by simp, Nat.zero_le _, h0 H1 e⟩, fun i m σ' H' hw => by
    obtain ⟨rfl, hi, pv⟩ := hw
    by_cases hlt : i < l.length
    · refine .inr ⟨by show i < (S l).cps.size; rw [its_sz]; exact hlt, Pv (i + 1), fun σ2 H2 p2 => ⟨l.length - (i + 1), by omega, rfl, hlt, p2⟩, fun x H2 hy => ?_⟩
      obtain ⟨Ta, c, ex, hT, e2, hc⟩ := hy
      subst ex
      refine gpair (by rw [e2]; exact upd_same) ?_
      exact hs i c σ' _ (its_at hc) (hx _ _ _ _ pv (by rw [e2]; exact Ex.new hT))
    · have ei : i = l.length := by omega
      subst ei
      exact .inl ⟨by show (S l).cps.size ≤ l.length; rw [its_sz]; exact Nat.le_refl _, hd σ' H' pv⟩⟩
end
end Lc
namespace Lc
open PySem PySem.Spec PyProof.Rows L2 Evl
/-! ### keywords, no positional defaults -/
theorem kbinds0 {K : PySem.W.Frag} {x qual : Str} {params : Arguments} {body : List Stmt} {scope : Scope} {kws : List (Str × V)} {f : Addr} {fd : FuncData} {ps : List Str} (F : FunD K x qual params body scope [] kws f fd) (n : Nat) (ks : List Str) (ms : List (Str × V)) (g : {α : Type} → List α → List α → List α → List α) (hk : kws ≠ []) (hms : ∀ q ∈ ms, q ∈ kws)
    (hrel : ∀ {vs mz zs : List V} {us mv ws : List Value}, Vals vs us → Vals mz mv → Vals zs ws → mv.length = ms.length → Vals (g vs mz zs) (g us mv ws))
    (h : ∀ (D : Addr) (doc pm : Value) (an : Option Addr) (cdv ct : Value) (us mv ws : List Value), us.length = n → mv.length = ms.length → ws.length = ks.length →
      KwChain D ((ms.map (·.1)).zip mv) (bindArgs (PySem.W.fnOf x qual params body scope .none (.ref D) doc pm an cdv ct) ⟨us, ks.zip ws⟩) (ps.zip (g us mv ws))) :
    ∃ mv : List Value, KBn K fd ps n ks (fun us ws => g us mv ws) (fun vs zs => g vs (ms.map (·.2)) zs) := by
  obtain ⟨oc, od, dV, kV, doc, pm, an, cdv, ct, osl, rfl, lk, hcd, hD, hK⟩ := F.ex
  rcases hD with ⟨_, rfl⟩ | ⟨e, _⟩
  · rcases hK with e | ⟨D, rfl, hq⟩
    · exact absurd e hk
    · obtain ⟨mv, hl, rk, hks⟩ := kwd_vals (ms := ms) fun q hm => hq q (hms q hm)
      refine ⟨mv, ⟨fun s us ws X l1 l2 => ?_, fun r1 r2 => hrel r1 rk r2 hl⟩⟩
      exact BindsTo.of_looks fun M => KwChain.looks X hks (h D doc pm an cdv ct us mv ws l1 hl l2)
  · exact absurd rfl e
end Lc
namespace Lc
open PySem PySem.Spec PyProof.Rows L2 Evl
/-! ### lists of ints and of Bools compared -/
section
variable {K : PySem.W.Frag} {H : Hp}
theorem dpAll_of {α : Type} {g : α → V} {d : α → PyData} (hg : ∀ x, Dp K H (g x) (d x)) : ∀ l : List α, DpAll K H (l.map g) (l.map d)
  | [] => .nil
  | x :: r => .cons (hg x) (dpAll_of hg r)
theorem lay_of {α : Type} {d : α → PyData} (hd : ∀ x, (d x).canLay0 = true) : ∀ l : List α, PyData.canLayAll0 (l.map d) = true
  | [] => rfl
  | x :: r => by
    show (PyData.canLay0 (d x) && PyData.canLayAll0 (r.map d)) = true
    rw [hd, lay_of hd r]
    rfl
theorem depth_of {α : Type} {d : α → PyData} {n : Nat} (hd : ∀ x, (d x).depth ≤ n) : ∀ l : List α, PyData.depthAll (l.map d) ≤ n
  | [] => by simp [PyData.depthAll]
  | x :: r => by
    have h1 := hd x
    have h2 := depth_of hd r
    simp only [List.map_cons, PyData.depthAll]
    omega
theorem shaped_of {α : Type} {d : α → PyData} (hd : ∀ x, (d x).canLay0 = true) (hn : ∀ x, (d x).depth ≤ 1) (l : List α) : SeqAt.shaped (.list (l.map d)) = true := by
  have h1 := depth_of hn l
  unfold SeqAt.shaped
  rw [Bool.and_eq_true]
  refine ⟨lay_of hd l, decide_eq_true ?_⟩
  simp only [PyData.depth]
  omega
theorem eqvAll_of {α : Type} [DecidableEq α] {d : α → PyData} (hd : ∀ x y, PyData.eqv (d x) (d y) = decide (x = y)) : ∀ l m : List α, PyData.eqvAll (l.map d) (m.map d) = decide (l = m)
  | [], [] => rfl
  | [], y :: m => by simp [PyData.eqvAll]
  | x :: l, [] => by simp [PyData.eqvAll]
  | x :: l, y :: m => by
    simp only [List.map_cons, PyData.eqvAll]
    rw [hd, eqvAll_of hd l m, Bool.eq_iff_iff]
    simp
theorem rv_neL {α : Type} [DecidableEq α] {g : α → V} {d : α → PyData} (hg : ∀ x H, Dp K H (g x) (d x)) (h1 : ∀ x, (d x).canLay0 = true) (h2 : ∀ x, (d x).depth ≤ 1) (h3 : ∀ x y, PyData.eqv (d x) (d y) = decide (x = y)) {p q : Addr} {l m : List α} (hp : SqL K H p (l.map g)) (hq : SqL K H q (m.map g)) :
    RV (rNeD K) (.ref p) (.ref q) H (.bl (!decide (l = m))) := fun H1 e Q k => by
  refine ⟨.list (l.map d), .list (m.map d), .lst (ex_l e hp) (dpAll_of (fun x => hg x H1) l), .lst (ex_l e hq) (dpAll_of (fun x => hg x H1) m), shaped_of h1 h2 l, shaped_of h1 h2 m, ?_⟩
  rw [show PyData.eqv (.list (l.map d)) (.list (m.map d)) = decide (l = m) by simp only [PyData.eqv]; exact eqvAll_of h3 l m]
  exact k H1 (Ex.refl H1)
theorem rv_eqL {α : Type} [DecidableEq α] {g : α → V} {d : α → PyData} (hg : ∀ x H, Dp K H (g x) (d x)) (h1 : ∀ x, (d x).canLay0 = true) (h2 : ∀ x, (d x).depth ≤ 1) (h3 : ∀ x y, PyData.eqv (d x) (d y) = decide (x = y)) {p q : Addr} {l m : List α} (hp : SqL K H p (l.map g)) (hq : SqL K H q (m.map g)) :
    RV (rEqD K) (.ref p) (.ref q) H (.bl (decide (l = m))) := fun H1 e Q k => by
  refine ⟨.list (l.map d), .list (m.map d), .lst (ex_l e hp) (dpAll_of (fun x => hg x H1) l), .lst (ex_l e hq) (dpAll_of (fun x => hg x H1) m), shaped_of h1 h2 l, shaped_of h1 h2 m, ?_⟩
  rw [show PyData.eqv (.list (l.map d)) (.list (m.map d)) = decide (l = m) by simp only [PyData.eqv]; exact eqvAll_of h3 l m]
  exact k H1 (Ex.refl H1)
theorem rv_neLI {p q : Addr} {l m : List Int} (hp : SqL K H p (l.map V.int)) (hq : SqL K H q (m.map V.int)) : RV (rNeD K) (.ref p) (.ref q) H (.bl (!decide (l = m))) :=
  rv_neL (d := PyData.int) (fun x _ => .int x) (fun _ => rfl) (fun _ => by simp [PyData.depth]) (fun x y => by simp only [PyData.eqv]; rw [Bool.eq_iff_iff]; simp) hp hq
theorem rv_neLB {p q : Addr} {l m : List Bool} (hp : SqL K H p (l.map V.bl)) (hq : SqL K H q (m.map V.bl)) : RV (rNeD K) (.ref p) (.ref q) H (.bl (!decide (l = m))) :=
  rv_neL (d := PyData.bool) (fun x _ => .bl x) (fun _ => rfl) (fun _ => by simp [PyData.depth]) (fun x y => by simp only [PyData.eqv]; rw [Bool.eq_iff_iff]; simp) hp hq
theorem rv_eqLI {p q : Addr} {l m : List Int} (hp : SqL K H p (l.map V.int)) (hq : SqL K H q (m.map V.int)) : RV (rEqD K) (.ref p) (.ref q) H (.bl (decide (l = m))) :=
  rv_eqL (d := PyData.int) (fun x _ => .int x) (fun _ => rfl) (fun _ => by simp [PyData.depth]) (fun x y => by simp only [PyData.eqv]; rw [Bool.eq_iff_iff]; simp) hp hq
theorem strOk_low {l : List Nat} (h : ∀ c ∈ l, c < 128) : PyData.strOk (S l) = true := by
  show l.toArray.all (fun x => decide (x < 1114112)) = true
  rw [List.all_toArray, List.all_eq_true]
  intro c hc
  have := h c hc
  exact decide_eq_true (by omega)
end
/-! ### a name set to a new tuple if a test says so -/
section
variable {σ : L2.St} {H : Hp} {te : TE} {t : TT} {D : Ends} {tz : TS}
theorem q_ifAsgU {b : Bool} {i : Nat} {xs : List V} {x0 : V} (h : EvT t σ H b) (h1 : b = true → EvU te σ H xs) (hs : σ.set i (some x0) = σ)
    (k : ∀ (x : V) H1, Ex H H1 → (b = true → ∃ p, x = .ref p ∧ H1 p = some (.tup xs)) → (b = false → x = x0) → tz D (σ.set i (some x)) H1) : tSeq (tIfS t (tAsg te (gName i)) tNext) tz D σ H := by
  refine q_when h (fun hb H1 e1 => ?_) (fun hb H1 e1 => ?_)
  · exact s_asgU (fun H2 e2 Q q => h1 hb H2 (e1.trans e2) Q q) fun p H2 hp e2 h2 => k (.ref p) H2 (e1.trans e2) (fun _ => ⟨p, rfl, h2⟩) (fun z => by rw [hb] at z; cases z)
  · have q := k x0 H1 e1 (fun z => by rw [hb] at z; cases z) (fun _ => rfl)
    rw [hs] at q
    exact q
end
end Lc
namespace Lc
open PySem PySem.Spec PyProof.Rows L2 Evl
section
variable {X : Cx} {CX : CXT} {k : Nat} {f C : Addr} {fd : FuncData} {ps : List Str} {sp : Sp} {E : XK}
/-! ### operators by an own method -/
def rBinOwn (C : Addr) (sp : Sp) (E : XK) : R2 := fun x y H Q => ∃ a dx fs b dy gs, x = .ref a ∧ H a = some (.ins C dx fs) ∧ y = .ref b ∧ H b = some (.ins C dy gs) ∧ sp [.ref a, .ref b] H (fun v H' => (∃ r, v = .ref r) ∧ Q v H') E
theorem op_binOwn {op : Operator} (F : FnOk X.prog X.w X.K X.mg X.base CX k f fd ps sp) (hr : Room k X.A) (h1 : PySem.W.selfFirst X.K C = true) (hs : PySem.W.findIn X.K (.ref C) (PySem.dunder op.info.2) = some (some (.ref f))) (hf : PySem.W.isFn X.K (.ref f) = true) (hb : Binds X.K fd ps []) (hx : Passes CX X E) :
    OpR X (binaryOp op) (rBinOwn C sp E) := by
  intro pins s σ H x y v u Q I rx ry h
  obtain ⟨a, dx, fs, b, dy, gs, rfl, ha, rfl, hb', hsp⟩ := h
  obtain rfl : v = Value.ref a := rx
  obtain rfl : u = Value.ref b := ry
  obtain ⟨mA, J, _⟩ := ins_get I.hok ha
  obtain ⟨mB, J', _⟩ := ins_get I.hok hb'
  obtain ⟨od, J, _⟩ := J.look
  obtain ⟨od', J', _⟩ := J'.look
  obtain ⟨m, hF⟩ := I.fr
  refine PySem.W.binop_K hF I.ok.mod.kin J J'.type h1 hs hf (wpAny_mono (run_at (A := X.A) (vs := [.ref a, .ref b]) rfl F hr hb hx I (.cons (show RelV (.ref a) (Value.ref a) from rfl) (.cons (show RelV (.ref b) (Value.ref b) from rfl) .nil)) hsp) (fun w s' hw => ?_) fun _ _ x => x)
  obtain ⟨v, H', I', rv, ⟨r, rfl⟩, q⟩ := hw
  cases rv
  exact ⟨.ref r, H', I', rfl, q⟩
def rBinInt (C : Addr) (sp : Sp) (E : XK) : R2 := fun x y H Q => ∃ a dx fs i, x = .ref a ∧ H a = some (.ins C dx fs) ∧ y = .int i ∧ sp [.ref a, .int i] H (fun v H' => (∃ r, v = .ref r) ∧ Q v H') E
theorem op_binInt {op : Operator} {fo ro : Option Value} (F : FnOk X.prog X.w X.K X.mg X.base CX k f fd ps sp) (hr : Room k X.A) (h1 : PySem.W.selfFirst X.K C = true) (hs : PySem.W.findIn X.K (.ref C) (PySem.dunder op.info.2) = some (some (.ref f))) (hf : PySem.W.isFn X.K (.ref f) = true)
    (h2 : PySem.W.findIn X.K (.ref C) (dunderR op.info.2) = some none) (h3 : PySem.W.findIn X.K (.type "int") (PySem.dunder op.info.2) = some fo) (h4 : PySem.W.findIn X.K (.type "int") (dunderR op.info.2) = some ro) (h5 : PySem.W.subIn X.K (.type "int") (.ref C) = some false) (hb : Binds X.K fd ps []) (hx : Passes CX X E) :
    OpR X (binaryOp op) (rBinInt C sp E) := by
  intro pins s σ H x y v u Q I rx ry h
  obtain ⟨a, dx, fs, i, rfl, ha, rfl, hsp⟩ := h
  obtain rfl : v = Value.ref a := rx
  obtain ⟨t, rfl⟩ := ry
  obtain ⟨mA, J, _⟩ := ins_get I.hok ha
  obtain ⟨od, J, _⟩ := J.look
  obtain ⟨m, hF⟩ := I.fr
  refine PySem.W.ksp_binT hF I.ok.mod.kin J rfl h1 hs hf h2 (.inl rfl) h3 h4 h5 (wpAny_mono (run_at (A := X.A) (vs := [.ref a, .int i]) rfl F hr hb hx I (.cons (show RelV (.ref a) (Value.ref a) from rfl) (.cons (show RelV (.int i) (Value.int i t) from ⟨t, rfl⟩) .nil)) hsp) (fun w s' hw => ?_) fun _ _ x => x)
  obtain ⟨v, H', I', rv, ⟨r, rfl⟩, q⟩ := hw
  cases rv
  exact ⟨.ref r, H', I', rfl, q⟩
def rUnOwn (C : Addr) (sp : Sp) (E : XK) : V → Hp → VK → Prop := fun x H Q => ∃ a dx fs, x = .ref a ∧ H a = some (.ins C dx fs) ∧ sp [.ref a] H Q E
theorem un_negOwn (F : FnOk X.prog X.w X.K X.mg X.base CX k f fd ps sp) (hr : Room k X.A) (hs : PySem.W.findIn X.K (.ref C) "__neg__" = some (some (.ref f))) (hf : PySem.W.isFn X.K (.ref f) = true) (hb : Binds X.K fd ps []) (hx : Passes CX X E) :
    UnR X (unaryOp .USub) (rUnOwn C sp E) := by
  intro pins s σ H x v Q I rx h
  obtain ⟨a, dx, fs, rfl, ha, hsp⟩ := h
  obtain rfl : v = Value.ref a := rx
  obtain ⟨mA, J, _⟩ := ins_get I.hok ha
  obtain ⟨od, J, _⟩ := J.look
  obtain ⟨m, hF⟩ := I.fr
  refine PySem.W.ksp_neg hF I.ok.mod.kin J hs hf (wpAny_mono (run_at (A := X.A) (vs := [.ref a]) rfl F hr hb hx I (.cons (show RelV (.ref a) (Value.ref a) from rfl) .nil) hsp) (fun w s' hw => ?_) fun _ _ x => x)
  obtain ⟨v, H', I', rv, q⟩ := hw
  exact ⟨v, H', I', rv, q⟩
/-! ### a list or a tuple, walked -/
def iSeq (K : PySem.W.Frag) (tl : TE) : TI := fun σ H R => tl σ H fun x H1 => ∃ a, x = .ref a ∧ (((∃ xs, SqL K H1 a xs) ∧ R (Itl K a) H1) ∨ ((∃ xs, SqT K H1 a xs) ∧ R (Itt K a) H1))
theorem pi_seq {tg l : Expr} {tl : TE} (hl : PE X l tl) : PI X tg l (iSeq X.K tl) := by
  refine ⟨fun pins s σ H R I h => ?_⟩
  refine thn (hl.run pins s σ H _ I h) fun v s1 ⟨x, H1, I1, r1, q1⟩ => ?_
  obtain ⟨a, e, q1⟩ := q1
  subst e
  cases r1
  rcases q1 with ⟨⟨xs, hq⟩, q⟩ | ⟨⟨xs, hq⟩, q⟩
  · obtain ⟨its, rv, p, hz⟩ := I1.list hq
    refine wpAny_pyIter_list p.isList ?_
    refine ⟨s1.heap.objs.size, [s1.heap.objs.size], _, _, H1, rfl, I1.kept (t' := s1.toks) fun b o e => Heap.get?_push_of_some _ e, turn_list a _, ⟨_, Heap.get?_push_size _ rfl, rfl, rfl⟩, fun b hb => ?_, q⟩
    have e : b = s1.heap.objs.size := by simpa using hb
    subst e
    exact I1.fpOk (Nat.le_refl _) (I1.hok.fresh (Nat.le_refl _))
  · obtain ⟨its, rv, p, hz⟩ := I1.tuple hq
    refine wpAny_pyIter_tuple (show s1.heap.IsTuple a its.toArray from p) ?_
    refine ⟨s1.heap.objs.size, [s1.heap.objs.size], _, _, H1, rfl, I1.kept (t' := s1.toks) fun b o e => Heap.get?_push_of_some _ e, turn_tuple a _, ⟨_, Heap.get?_push_size _ rfl, rfl, rfl⟩, fun b hb => ?_, q⟩
    have e : b = s1.heap.objs.size := by simpa using hb
    subst e
    exact I1.fpOk (Nat.le_refl _) (I1.hok.fresh (Nat.le_refl _))
end
section
variable {K : PySem.W.Frag} {σ : L2.St} {H H' : Hp} {ta tb te : TE} {t : TT} {x y z v : V} {tA : TA}
/-! ### rows of whole numbers -/
/-- rs: the rows' objects (lists or tuples, c), G: what stands in them -/
structure Rw (c : List V → HO) (H : Hp) (rs : List Addr) (G : List (List Int)) : Prop where
  len : rs.length = G.length
  row : ∀ k, k < G.length → H (rs.getD k 0) = some (c ((G.getD k []).map V.int))
theorem Rw.ex {c : List V → HO} {rs : List Addr} {G : List (List Int)} (h : Rw c H rs G) (e : Ex H H') : Rw c H' rs G := ⟨h.len, fun k hk => e _ _ (h.row k hk)⟩
theorem Rw.at_ {c : List V → HO} {rs : List Addr} {G : List (List Int)} (h : Rw c H rs G) {k : Nat} {x : V} (hx : (rs.map V.ref)[k]? = some x) : k < G.length ∧ x = .ref (rs.getD k 0) ∧ H (rs.getD k 0) = some (c ((G.getD k []).map V.int)) := by
  obtain ⟨hk, e⟩ := List.getElem?_eq_some_iff.mp hx
  rw [List.length_map] at hk
  have hk2 : k < G.length := by rw [← h.len]; exact hk
  refine ⟨hk2, ?_, h.row k hk2⟩
  rw [← e, List.getElem_map, List.getD_eq_getElem?_getD, List.getElem?_eq_getElem hk]
  rfl
/-- a new row -/
def EvN (c : List V → HO) (te : TE) (σ : L2.St) (H : Hp) (row : List Int) : Prop := ∀ H1, Ex H H1 → ∀ Q : VK, (∀ p H2, H1 p = none → Ex H1 H2 → H2 p = some (c (row.map V.int)) → Q (.ref p) H2) → te σ H1 Q
/-- a new list of new rows -/
def EvG (c : List V → HO) (te : TE) (σ : L2.St) (H : Hp) (G : List (List Int)) : Prop := ∀ H1, Ex H H1 → ∀ Q : VK, (∀ p rs H2, H1 p = none → Ex H1 H2 → H2 p = some (.lst (rs.map V.ref)) → Rw c H2 rs G → (∀ r ∈ rs, H1 r = none) → (p :: rs).Nodup → Q (.ref p) H2) → te σ H1 Q
structure Cg (H : Hp) (c : List V → HO) (G : List (List Int)) (Dl : Addr) (i : Nat) (H' : Hp) : Prop where
  no : H Dl = none
  ex : Ex H H'
  out : ∃ rs : List Addr, H' Dl = some (.lst (rs.map V.ref)) ∧ rs.length = i ∧ (∀ k, k < i → H' (rs.getD k 0) = some (c ((G.getD k []).map V.int))) ∧ (∀ r ∈ rs, H r = none) ∧ (Dl :: rs).Nodup
theorem mem_getD {rs : List Addr} {r : Addr} (h : r ∈ rs) : ∃ k, k < rs.length ∧ rs.getD k 0 = r := by
  obtain ⟨k, hk, e⟩ := List.getElem_of_mem h
  exact ⟨k, hk, by rw [List.getD_eq_getElem?_getD, List.getElem?_eq_getElem hk]; exact e⟩
theorem getD_mem {rs : List Addr} {k : Nat} (h : k < rs.length) : rs.getD k 0 ∈ rs := by
  rw [List.getD_eq_getElem?_getD, List.getElem?_eq_getElem h]
  exact List.getElem_mem h
theorem cg_start {c : List V → HO} {G : List (List Int)} {Dl : Addr} (hD : H Dl = none) : Cg H c G Dl 0 (upd H Dl (.lst [])) := ⟨hD, Ex.new hD, [], upd_same, rfl, fun k hk => absurd hk (Nat.not_lt_zero _), by simp, by simp⟩
theorem cg_turn {c : List V → HO} {G : List (List Int)} {Dl : Addr} {i : Nat} {σ2 : L2.St} (p : Cg H c G Dl i H') (hi : i < 50000) (he : EvN c te σ2 H (G.getD i [])) :
    tYes σ2 H' fun b H3 => if b = true then te σ2 H3 fun y H4 => ∃ acc, H4 Dl = some (.lst acc) ∧ acc.length < sizeLine ∧ Cg H c G Dl (i + 1) (upd H4 Dl (.lst (acc ++ [y]))) else Cg H c G Dl (i + 1) H3 := by
  obtain ⟨hD, e, rs, h1, hl, hrow, hfr, hnd⟩ := p
  show te σ2 H' fun y H4 => ∃ acc, H4 Dl = some (.lst acc) ∧ acc.length < sizeLine ∧ Cg H c G Dl (i + 1) (upd H4 Dl (.lst (acc ++ [y])))
  refine he H' e _ fun q H4 hq e4 h4 => ⟨rs.map V.ref, e4 _ _ h1, sz_lt (by rw [List.length_map]; omega), hD, Ex.mut (e.trans e4) hD, rs ++ [q], ?_, by simp [hl], ?_, ?_, ?_⟩
  · rw [upd_same, List.map_append]
    rfl
  · intro k hk
    have hqD : q ≠ Dl := fun z => by rw [z, h1] at hq; cases hq
    rcases Nat.lt_or_ge k i with hlt | hge
    · have e1 : (rs ++ [q]).getD k 0 = rs.getD k 0 := by
        rw [List.getD_eq_getElem?_getD, List.getD_eq_getElem?_getD, List.getElem?_append_left (by omega)]
      rw [e1, upd_ne (fun z => (List.nodup_cons.mp hnd).1 (by rw [← z]; exact getD_mem (by omega)))]
      exact e4 _ _ (hrow k hlt)
    · have ek : k = i := by omega
      subst ek
      have e1 : (rs ++ [q]).getD k 0 = q := by
        rw [List.getD_eq_getElem?_getD, List.getElem?_append_right (by omega), hl, Nat.sub_self]
        rfl
      rw [e1, upd_ne hqD]
      exact h4
  · intro r hr
    rcases List.mem_append.mp hr with hr | hr
    · exact hfr r hr
    · have : r = q := by simpa using hr
      rw [this]
      exact fresh_back e hq
  · rw [← List.cons_append]
    refine List.nodup_append.mpr ⟨hnd, by simp, ?_⟩
    intro a ha b hb
    have hb' : b = q := by simpa using hb
    rw [hb']
    intro z
    rcases List.mem_cons.mp ha with ha | ha
    · rw [← z, ha, h1] at hq; cases hq
    · obtain ⟨k, hk, ek⟩ := mem_getD ha
      have := hrow k (by omega)
      rw [ek, z, hq] at this
      cases this
theorem cg_end {c : List V → HO} {G : List (List Int)} {Dl : Addr} {H0 H1 : Hp} {Q : VK} (p : Cg H1 c G Dl G.length H') (e1 : Ex H0 H1) (q : ∀ p rs H2, H0 p = none → Ex H0 H2 → H2 p = some (.lst (rs.map V.ref)) → Rw c H2 rs G → (∀ r ∈ rs, H0 r = none) → (p :: rs).Nodup → Q (.ref p) H2) : Q (.ref Dl) H' := by
  obtain ⟨hD, e, rs, h1, hl, hrow, hfr, hnd⟩ := p
  exact q Dl rs H' (fresh_back e1 hD) (e1.trans e) h1 ⟨hl, hrow⟩ (fun r hr => fresh_back e1 (hfr r hr)) hnd
/-! comprehensions that make rows -/
theorem eg_R1 {c : List V → HO} {G : List (List Int)} {ta : TA} {j : Nat} {vs : List Nat} (h : EvA ta σ H [.int (G.length : Nat)]) (hz : G.length ≤ 40000) (hw : ∀ x, wipe ((wipe σ vs).set j (some x)) vs = wipe σ vs)
    (he : ∀ (i : Nat) H1, Ex H H1 → i < G.length → EvN c te ((wipe σ vs).set j (some (.int (i : Int)))) H1 (G.getD i [])) : EvG c (tLc (iRng1 ta) (gName j) tYes te vs) σ H G := fun H0 e Q q => h H0 e _ fun H1 e1 => ⟨(G.length : Nat), rfl, by omega, by omega, fun Dl hD =>
  lc_range (lo := 0) (n := G.length) (Cg H1 c G Dl) (cg_start hD) (fun i H' hi p => by
    have e0 : (0 : Int) + (i : Int) = (i : Int) := Int.zero_add _
    show wipe ((wipe σ vs).set j (some (.int ((0 : Int) + (i : Int))))) vs = wipe σ vs ∧ tYes ((wipe σ vs).set j (some (.int ((0 : Int) + (i : Int))))) H' fun b H3 => if b = true then te ((wipe σ vs).set j (some (.int ((0 : Int) + (i : Int))))) H3 fun y H4 => ∃ acc, H4 Dl = some (.lst acc) ∧ acc.length < sizeLine ∧ Cg H1 c G Dl (i + 1) (upd H4 Dl (.lst (acc ++ [y]))) else Cg H1 c G Dl (i + 1) H3
    rw [e0]
    exact ⟨hw _, cg_turn p (by omega) (he i H1 (e.trans e1) hi)⟩) (fun H' p => cg_end p e1 q)⟩
theorem eg_L {c : List V → HO} {G : List (List Int)} {a : Addr} {xs : List V} {tl : TE} {j : Nat} {vs : List Nat} (h : Ev tl σ H (.ref a)) (hx : SqL K H a xs) (hl : xs.length = G.length) (hz : G.length ≤ 40000) (hw : ∀ x, wipe ((wipe σ vs).set j (some x)) vs = wipe σ vs)
    (he : ∀ (i : Nat) (x : V) H1, Ex H H1 → xs[i]? = some x → EvN c te ((wipe σ vs).set j (some x)) H1 (G.getD i [])) : EvG c (tLc (iList K tl) (gName j) tYes te vs) σ H G := fun H0 e Q q => h H0 e _ fun H1 e1 => ⟨a, rfl, ⟨xs, ex_l (e.trans e1) hx⟩, fun Dl hD =>
  lc_list (xs := xs) (Cg H1 c G Dl) (cg_start hD) (fun i H' _ p => ex_l ((e.trans e1).trans p.ex) hx) (fun i x H' hi p => ⟨hw x, cg_turn p (by have := (List.getElem?_eq_some_iff.mp hi).1; omega) (he i x H1 (e.trans e1) hi)⟩)
    (fun H' p => cg_end (hl ▸ p) e1 q)⟩
theorem eg_T {c : List V → HO} {G : List (List Int)} {a : Addr} {xs : List V} {tl : TE} {j : Nat} {vs : List Nat} (h : Ev tl σ H (.ref a)) (hx : SqT K H a xs) (hl : xs.length = G.length) (hz : G.length ≤ 40000) (hw : ∀ x, wipe ((wipe σ vs).set j (some x)) vs = wipe σ vs)
    (he : ∀ (i : Nat) (x : V) H1, Ex H H1 → xs[i]? = some x → EvN c te ((wipe σ vs).set j (some x)) H1 (G.getD i [])) : EvG c (tLc (iTup K tl) (gName j) tYes te vs) σ H G := fun H0 e Q q => h H0 e _ fun H1 e1 => ⟨a, rfl, ⟨xs, ex_t (e.trans e1) hx⟩, fun Dl hD =>
  lc_tup (xs := xs) (Cg H1 c G Dl) (cg_start hD) (fun i H' _ p => ex_t ((e.trans e1).trans p.ex) hx) (fun i x H' hi p => ⟨hw x, cg_turn p (by have := (List.getElem?_eq_some_iff.mp hi).1; omega) (he i x H1 (e.trans e1) hi)⟩)
    (fun H' p => cg_end (hl ▸ p) e1 q)⟩
theorem eg_S {c : List V → HO} {G : List (List Int)} {a : Addr} {xs : List V} {tl : TE} {j : Nat} {vs : List Nat} (h : Ev tl σ H (.ref a)) (hx : SqL K H a xs ∨ SqT K H a xs) (hl : xs.length = G.length) (hz : G.length ≤ 40000) (hw : ∀ x, wipe ((wipe σ vs).set j (some x)) vs = wipe σ vs)
    (he : ∀ (i : Nat) (x : V) H1, Ex H H1 → xs[i]? = some x → EvN c te ((wipe σ vs).set j (some x)) H1 (G.getD i [])) : EvG c (tLc (iSeq K tl) (gName j) tYes te vs) σ H G := fun H0 e Q q => h H0 e _ fun H1 e1 => ⟨a, rfl, by
  rcases hx with hx | hx
  · exact .inl ⟨⟨xs, ex_l (e.trans e1) hx⟩, fun Dl hD => lc_list (xs := xs) (Cg H1 c G Dl) (cg_start hD) (fun i H' _ p => ex_l ((e.trans e1).trans p.ex) hx) (fun i x H' hi p => ⟨hw x, cg_turn p (by have := (List.getElem?_eq_some_iff.mp hi).1; omega) (he i x H1 (e.trans e1) hi)⟩) (fun H' p => cg_end (hl ▸ p) e1 q)⟩
  · exact .inr ⟨⟨xs, ex_t (e.trans e1) hx⟩, fun Dl hD => lc_tup (xs := xs) (Cg H1 c G Dl) (cg_start hD) (fun i H' _ p => ex_t ((e.trans e1).trans p.ex) hx) (fun i x H' hi p => ⟨hw x, cg_turn p (by have := (List.getElem?_eq_some_iff.mp hi).1; omega) (he i x H1 (e.trans e1) hi)⟩) (fun H' p => cg_end (hl ▸ p) e1 q)⟩⟩
theorem lc_zipT {a b : Addr} {xs ys : List V} {g : TG} {tt : TT} {te : TE} {vs : List Nat} {σ : L2.St} {H1 : Hp} {D : Addr} {Qd : Hp → Prop} (hl : xs.length = ys.length) (Pv : Nat → Hp → Prop) (h0 : Pv 0 (upd H1 D (.lst []))) (hq : ∀ i H, Pv i H → SqT K H a xs ∧ SqT K H b ys)
    (hs : ∀ i x y T H, xs[i]? = some x → ys[i]? = some y → Pv i H → H T = none → g (.ref T) (wipe σ vs) (upd H T (.tup [x, y])) fun σ2 H2 => wipe σ2 vs = wipe σ vs ∧ tt σ2 H2 fun b H3 =>
      if b = true then te σ2 H3 fun y H4 => ∃ acc, H4 D = some (.lst acc) ∧ acc.length < sizeLine ∧ Pv (i + 1) (upd H4 D (.lst (acc ++ [y]))) else Pv (i + 1) H3) (hd : ∀ H, Pv xs.length H → Qd H) :
    ∃ W : Nat → Nat → Hp → Prop, (∃ m, W 0 m (upd H1 D (.lst []))) ∧ ∀ i m H, W i m H →
      ((RZ.ItzT K a b).stop i H ∧ Qd H) ∨ ((RZ.ItzT K a b).go i H ∧ ∃ Nx : Hp → Prop, (∀ H', Nx H' → ∃ m', m' < m ∧ W (i + 1) m' H') ∧ ∀ x H', (RZ.ItzT K a b).yld i H x H' → g x (wipe σ vs) H' fun σ2 H2 => wipe σ2 vs = wipe σ vs ∧ tt σ2 H2 fun b H3 =>
        if b = true then te σ2 H3 fun y H4 => ∃ acc, H4 D = some (.lst acc) ∧ acc.length < sizeLine ∧ Nx (upd H4 D (.lst (acc ++ [y]))) else Nx H3) := by
  refine ⟨fun i m H => m = xs.length - i ∧ i ≤ xs.length ∧ Pv i H, ⟨xs.length, by simp, Nat.zero_le _, h0⟩, ?_⟩
  rintro i m H ⟨rfl, hi, p⟩
  obtain ⟨qx, qy⟩ := hq i H p
  by_cases hlt : i < xs.length
  · have hx : xs[i]? = some xs[i] := List.getElem?_eq_getElem hlt
    have hlt2 : i < ys.length := by omega
    have hy : ys[i]? = some ys[i] := List.getElem?_eq_getElem hlt2
    refine .inr ⟨⟨xs, ys, _, _, qx, qy, hx, hy⟩, Pv (i + 1), fun H' p' => ⟨xs.length - (i + 1), by omega, rfl, hlt, p'⟩, fun v H' y => ?_⟩
    obtain ⟨T, x', y', rfl, hT, rfl, f1, f2⟩ := y
    exact hs i x' y' T H (f1 xs qx) (f2 ys qy) p hT
  · have e : i = xs.length := by omega
    subst e
    exact .inl ⟨⟨xs, ys, qx, qy, Or.inl (Nat.le_refl _)⟩, hd H p⟩
/-- pairs of two tuples -/
theorem el_lcZ {a b : Addr} {xs ys : List V} {p q : Nat} {vs : List Nat} (f : Nat → Bool) (v : Nat → V) (h : EvA tA σ H [.ref a, .ref b]) (hx : SqT K H a xs) (hy : SqT K H b ys) (hl : xs.length = ys.length) (hz : xs.length ≤ 40000)
    (hw : ∀ x y, wipe (((wipe σ vs).set p (some x)).set q (some y)) vs = wipe σ vs)
    (ht : ∀ (i : Nat) (x y : V) H1, Ex H H1 → xs[i]? = some x → ys[i]? = some y → EvT t (((wipe σ vs).set p (some x)).set q (some y)) H1 (f i))
    (he : ∀ (i : Nat) (x y : V) H1, Ex H H1 → xs[i]? = some x → ys[i]? = some y → f i = true → Ev te (((wipe σ vs).set p (some x)).set q (some y)) H1 (v i)) :
    EvL (tLc (RZ.iZipA K tA) (gTup K 2 (gCons (gName p) (gCons (gName q) gNil))) t te vs) σ H (given xs.length f v) := fun H0 e Q qq => h H0 e _ fun H1 e1 => ⟨a, b, xs, ys, rfl, .inr ⟨ex_t (e.trans e1) hx, ex_t (e.trans e1) hy, fun Dl hD =>
  lc_zipT hl (Cw H1 f v Dl) ⟨hD, Ex.new hD, upd_same⟩ (fun i H' pc => ⟨ex_t ((e.trans e1).trans pc.2.1) hx, ex_t ((e.trans e1).trans pc.2.1) hy⟩) (fun i x y Ta H' hi hj pc hT => by
    obtain ⟨c1, c2, c3⟩ := pc
    have pc2 : Cw H1 f v Dl i (upd H' Ta (.tup [x, y])) := ⟨c1, c2.trans (Ex.new hT), by
      rw [upd_ne (fun z => by rw [z, hT] at c3; cases c3)]
      exact c3⟩
    exact gpair upd_same ⟨hw _ _, cw_turn pc2 (by have := (List.getElem?_eq_some_iff.mp hi).1; omega) (ht i x y H1 (e.trans e1) hi hj) (fun hf => he i x y H1 (e.trans e1) hi hj hf)⟩)
    (fun H' pc => qq Dl H' (fresh_back e1 pc.1) (e1.trans pc.2.1) pc.2.2)⟩⟩
theorem eg_Z {c : List V → HO} {G : List (List Int)} {a b : Addr} {xs ys : List V} {p q : Nat} {vs : List Nat} (h : EvA tA σ H [.ref a, .ref b]) (hx : SqT K H a xs) (hy : SqT K H b ys) (hl : xs.length = ys.length) (hg : xs.length = G.length) (hz : xs.length ≤ 40000)
    (hw : ∀ x y, wipe (((wipe σ vs).set p (some x)).set q (some y)) vs = wipe σ vs)
    (he : ∀ (i : Nat) (x y : V) H1, Ex H H1 → xs[i]? = some x → ys[i]? = some y → EvN c te (((wipe σ vs).set p (some x)).set q (some y)) H1 (G.getD i [])) :
    EvG c (tLc (RZ.iZipA K tA) (gTup K 2 (gCons (gName p) (gCons (gName q) gNil))) tYes te vs) σ H G := fun H0 e Q qq => h H0 e _ fun H1 e1 => ⟨a, b, xs, ys, rfl, .inr ⟨ex_t (e.trans e1) hx, ex_t (e.trans e1) hy, fun Dl hD =>
  lc_zipT hl (Cg H1 c G Dl) (cg_start hD) (fun i H' pc => ⟨ex_t ((e.trans e1).trans pc.ex) hx, ex_t ((e.trans e1).trans pc.ex) hy⟩) (fun i x y Ta H' hi hj pc hT => by
    obtain ⟨c1, c2, rs, h1, hl', hrow, hfr, hnd⟩ := pc
    have e2 : Ex H' (upd H' Ta (.tup [x, y])) := Ex.new hT
    have pc2 : Cg H1 c G Dl i (upd H' Ta (.tup [x, y])) := ⟨c1, c2.trans e2, rs, e2 _ _ h1, hl', fun k hk => e2 _ _ (hrow k hk), hfr, hnd⟩
    exact gpair upd_same ⟨hw _ _, cg_turn pc2 (by have := (List.getElem?_eq_some_iff.mp hi).1; omega) (he i x y H1 (e.trans e1) hi hj)⟩)
    (fun H' pc => cg_end (hg ▸ pc) e1 qq)⟩⟩
theorem el_lcT {a : Addr} {xs : List V} {tl : TE} {j : Nat} {vs : List Nat} (f : Nat → Bool) (v : Nat → V) (h : Ev tl σ H (.ref a)) (hx : SqT K H a xs) (hz : xs.length ≤ 40000) (hw : ∀ x, wipe ((wipe σ vs).set j (some x)) vs = wipe σ vs)
    (ht : ∀ (i : Nat) (x : V) H1, Ex H H1 → xs[i]? = some x → EvT t ((wipe σ vs).set j (some x)) H1 (f i)) (he : ∀ (i : Nat) (x : V) H1, Ex H H1 → xs[i]? = some x → f i = true → Ev te ((wipe σ vs).set j (some x)) H1 (v i)) :
    EvL (tLc (iTup K tl) (gName j) t te vs) σ H (given xs.length f v) := fun H0 e Q q => h H0 e _ fun H1 e1 => ⟨a, rfl, ⟨xs, ex_t (e.trans e1) hx⟩, fun Dl hD =>
  lc_tup (xs := xs) (Cw H1 f v Dl) ⟨hD, Ex.new hD, upd_same⟩ (fun i H' _ p => ex_t ((e.trans e1).trans p.2.1) hx) (fun i x H' hi p => ⟨hw x, cw_turn p (by have := (List.getElem?_eq_some_iff.mp hi).1; omega) (ht i x H1 (e.trans e1) hi) (fun hf => he i x H1 (e.trans e1) hi hf)⟩)
    (fun H' p => q Dl H' (fresh_back e1 p.1) (e1.trans p.2.1) p.2.2)⟩
theorem el_lcSq {a : Addr} {xs : List V} {tl : TE} {j : Nat} {vs : List Nat} (f : Nat → Bool) (v : Nat → V) (h : Ev tl σ H (.ref a)) (hx : SqL K H a xs ∨ SqT K H a xs) (hz : xs.length ≤ 40000) (hw : ∀ x, wipe ((wipe σ vs).set j (some x)) vs = wipe σ vs)
    (ht : ∀ (i : Nat) (x : V) H1, Ex H H1 → xs[i]? = some x → EvT t ((wipe σ vs).set j (some x)) H1 (f i)) (he : ∀ (i : Nat) (x : V) H1, Ex H H1 → xs[i]? = some x → f i = true → Ev te ((wipe σ vs).set j (some x)) H1 (v i)) :
    EvL (tLc (iSeq K tl) (gName j) t te vs) σ H (given xs.length f v) := fun H0 e Q q => h H0 e _ fun H1 e1 => ⟨a, rfl, by
  rcases hx with hx | hx
  · exact .inl ⟨⟨xs, ex_l (e.trans e1) hx⟩, fun Dl hD => lc_list (xs := xs) (Cw H1 f v Dl) ⟨hD, Ex.new hD, upd_same⟩ (fun i H' _ p => ex_l ((e.trans e1).trans p.2.1) hx) (fun i x H' hi p => ⟨hw x, cw_turn p (by have := (List.getElem?_eq_some_iff.mp hi).1; omega) (ht i x H1 (e.trans e1) hi) (fun hf => he i x H1 (e.trans e1) hi hf)⟩) (fun H' p => q Dl H' (fresh_back e1 p.1) (e1.trans p.2.1) p.2.2)⟩
  · exact .inr ⟨⟨xs, ex_t (e.trans e1) hx⟩, fun Dl hD => lc_tup (xs := xs) (Cw H1 f v Dl) ⟨hD, Ex.new hD, upd_same⟩ (fun i H' _ p => ex_t ((e.trans e1).trans p.2.1) hx) (fun i x H' hi p => ⟨hw x, cw_turn p (by have := (List.getElem?_eq_some_iff.mp hi).1; omega) (ht i x H1 (e.trans e1) hi) (fun hf => he i x H1 (e.trans e1) hi hf)⟩) (fun H' p => q Dl H' (fresh_back e1 p.1) (e1.trans p.2.1) p.2.2)⟩⟩
end
end Lc
namespace Lc
open PySem PySem.Spec PyProof.Rows L2 Evl
section
variable {K : PySem.W.Frag} {σ : L2.St} {H H' : Hp} {ta tb tc te : TE} {t : TT} {x y z v : V} {tA : TA} {r r' : R2}
theorem ev_chain {b1 b2 : Bool} (ha : Ev ta σ H x) (hb : Ev tb σ H y) (hc : Ev tc σ H z) (h1 : RV r x y H (.bl b1)) (h2 : b1 = true → RV r' y z H (.bl b2)) : Ev (tChain r r' ta tb tc) σ H (.bl (b1 && b2)) := fun H1 e1 Q q =>
  ha H1 e1 _ fun H2 e2 => hb H2 (e1.trans e2) _ fun H3 e3 => h1 H3 ((e1.trans e2).trans e3) _ fun H4 e4 => ⟨b1, rfl, by
    cases b1 with
    | true =>
      rw [if_pos rfl]
      refine hc H4 (((e1.trans e2).trans e3).trans e4) _ fun H5 e5 => h2 rfl H5 ((((e1.trans e2).trans e3).trans e4).trans e5) _ fun H6 e6 => ?_
      exact q H6 ((((e2.trans e3).trans e4).trans e5).trans e6)
    | false =>
      rw [if_neg (by decide)]
      exact q H4 ((e2.trans e3).trans e4)⟩
theorem rc_lenSq {p : Addr} {xs : List V} (h : SqL K H p xs ∨ SqT K H p xs) : RC (fun xs H Q => ∃ x n, xs = [x] ∧ LenV K x H n ∧ Q (.int n) H) [.ref p] H (.int xs.length) := by
  rcases h with h | h
  · exact rc_lenL h
  · exact rc_lenT h
theorem rc_max2 {i j : Int} : RC (fun xs H Q => ∃ i j, xs = [V.int i, V.int j] ∧ Q (.int (if j > i then j else i)) H) [.int i, .int j] H (.int (if j > i then j else i)) := fun H1 _ _ q => ⟨i, j, rfl, q H1 (Ex.refl H1)⟩
abbrev rTupOf (K : PySem.W.Frag) : List V → Hp → VK → Prop := fun xs H Q => ∃ p ys, xs = [.ref p] ∧ ((SqL K H p ys ∧ ∀ l, H l = none → Q (.ref l) (upd H l (.tup ys))) ∨ (SqT K H p ys ∧ Q (.ref p) H))
abbrev rListOf (K : PySem.W.Frag) : List V → Hp → VK → Prop := fun xs H Q => ∃ p ys, xs = [.ref p] ∧ (SqL K H p ys ∨ SqT K H p ys) ∧ ∀ l, H l = none → Q (.ref l) (upd H l (.lst ys))
theorem eu_tupOf {xs : List V} (h : EvL te σ H xs) : EvU (tCB (rTupOf K) (tCons te tNil)) σ H xs := fun H1 e Q q =>
  h H1 e _ fun p H2 hp e2 h2 => ⟨p, xs, rfl, .inl ⟨sq_of h2, fun l hl => q l _ (fresh_back e2 hl) (e2.trans (Ex.new hl)) upd_same⟩⟩
theorem eu_tupL {p : Addr} {xs : List V} (h : Ev te σ H (.ref p)) (hs : SqL K H p xs) : EvU (tCB (rTupOf K) (tCons te tNil)) σ H xs := fun H1 e Q q =>
  h H1 e _ fun H2 e2 => ⟨p, xs, rfl, .inl ⟨ex_l (e.trans e2) hs, fun l hl => q l _ (fresh_back e2 hl) (e2.trans (Ex.new hl)) upd_same⟩⟩
theorem el_listOf {p : Addr} {xs : List V} (h : Ev te σ H (.ref p)) (hs : SqL K H p xs ∨ SqT K H p xs) : EvL (tCB (rListOf K) (tCons te tNil)) σ H xs := fun H1 e Q q =>
  h H1 e _ fun H2 e2 => ⟨p, xs, rfl, (hs.imp (ex_l (e.trans e2)) (ex_t (e.trans e2))), fun l hl => q l _ (fresh_back e2 hl) (e2.trans (Ex.new hl)) upd_same⟩
/-- a new tuple of new rows -/
def EvGT (te : TE) (σ : L2.St) (H : Hp) (c : List V → HO) (G : List (List Int)) : Prop := ∀ H1, Ex H H1 → ∀ Q : VK, (∀ p rs H2, H1 p = none → Ex H1 H2 → H2 p = some (.tup (rs.map V.ref)) → Rw c H2 rs G → (∀ r ∈ rs, H1 r = none) → Q (.ref p) H2) → te σ H1 Q
theorem eg_tup {c : List V → HO} {G : List (List Int)} (h : EvG c te σ H G) : EvGT (tCB (rTupOf K) (tCons te tNil)) σ H c G := fun H1 e Q q =>
  h H1 e _ fun p rs H2 hp e2 h2 hr hf _ => ⟨p, rs.map V.ref, rfl, .inl ⟨sq_of h2, fun l hl => q l rs _ (fresh_back e2 hl) (e2.trans (Ex.new hl)) upd_same (hr.ex (Ex.new hl)) hf⟩⟩
theorem given_map (row : List Int) (g : Int → Int) (v : Nat → V) (hv : ∀ i, i < row.length → v i = .int (g (row.getD i 0))) : given row.length (fun _ => true) v = (row.map g).map V.int := by
  rw [given_all]
  apply List.ext_getElem
  · simp
  · intro i h1 h2
    simp only [List.length_map, List.length_range] at h1
    rw [List.getElem_map, List.getElem_range, hv i h1, List.getElem_map, List.getElem_map, List.getD_eq_getElem?_getD, List.getElem?_eq_getElem h1]
    rfl
theorem int_at {row : List Int} {i : Nat} {x : V} (h : (row.map V.int)[i]? = some x) : i < row.length ∧ x = .int (row.getD i 0) := by
  obtain ⟨hi, e⟩ := List.getElem?_eq_some_iff.mp h
  rw [List.length_map] at hi
  refine ⟨hi, ?_⟩
  rw [← e, List.getElem_map, List.getD_eq_getElem?_getD, List.getElem?_eq_getElem hi]
  rfl
theorem row_map {G : List (List Int)} {f : List Int → List Int} {k : Nat} (hk : k < G.length) : (G.map f).getD k [] = f (G.getD k []) := by
  rw [List.getD_eq_getElem?_getD, List.getD_eq_getElem?_getD, List.getElem?_map, List.getElem?_eq_getElem hk]
  rfl
theorem row_mem {G : List (List Int)} {k : Nat} (hk : k < G.length) : G.getD k [] ∈ G := by
  rw [List.getD_eq_getElem?_getD, List.getElem?_eq_getElem hk]
  exact List.getElem_mem hk
theorem atI_int {row : List Int} {i : Int} (h0 : 0 ≤ i) (h1 : i < row.length) : atI (row.map V.int) i = some (.int (row.getD i.toNat 0)) := by
  have h := atI_i (xs := row.map V.int) h0 (by rw [List.length_map]; exact h1) V.non
  rw [h, List.getD_eq_getElem?_getD, List.getD_eq_getElem?_getD, List.getElem?_map, List.getElem?_eq_getElem (show i.toNat < row.length by omega)]
  rfl
theorem atI_ref {rs : List Addr} {i : Int} (h0 : 0 ≤ i) (h1 : i < rs.length) : atI (rs.map V.ref) i = some (.ref (rs.getD i.toNat 0)) := by
  have h := atI_i (xs := rs.map V.ref) h0 (by rw [List.length_map]; exact h1) V.non
  rw [h, List.getD_eq_getElem?_getD, List.getD_eq_getElem?_getD, List.getElem?_map, List.getElem?_eq_getElem (show i.toNat < rs.length by omega)]
  rfl
end
end Lc
namespace Lc
open PySem PySem.Spec PyProof.Rows L2 Evl
section
variable {K : PySem.W.Frag} {σ : L2.St} {H H' : Hp} {ta tb tc te : TE} {t : TT} {x y z v : V} {tA : TA} {r r' : R2} {b : Addr}
theorem q_first {tz : TS} {D : Ends} {i : Nat} (h : te σ H fun v H1 => tz D (σ.set i (some v)) H1) : tSeq (tAsg te (gName i)) tz D σ H := h
theorem op_fst {Q : VK} (h : ta σ H fun x H1 => tb σ H1 fun y H2 => r x y H2 Q) : tOp r ta tb σ H Q := h
theorem asg_fst {D : Ends} {i : Nat} (h : te σ H fun v H1 => D.nx (σ.set i (some v)) H1) : tAsg te (gName i) D σ H := h
theorem ret_fst {D : Ends} (h : te σ H D.rt) : tRet te D σ H := h
theorem cons_fst {tr : TA} {Q : List V → Hp → Prop} (h : te σ H fun x H1 => tr σ H1 fun xs H2 => Q (x :: xs) H2) : tCons te tr σ H Q := h
/-! ### numbers drawn on the way: the box alone is changed -/
def EvI (b : Addr) (te : TE) (σ : L2.St) (Pd : Int → Prop) : Prop := ∀ H1, Bx H1 b → ∀ Q : VK, (∀ d H2, Pd d → ExB b H1 H2 → Bx H2 b → Q (.int d) H2) → te σ H1 Q
theorem ei_is {n : Int} (h : ∀ H1, Ev te σ H1 (.int n)) : EvI b te σ (· = n) := fun H1 hb Q q => h H1 H1 (Ex.refl H1) _ fun H2 e2 => q n H2 rfl (ExB.of e2) (hb.ex e2)
theorem ei_c {n : Int} : EvI b (tC (.int n)) σ (· = n) := ei_is fun H1 => ev_c
theorem ei_var {i : Nat} {n : Int} (h : σ[i]? = some (some (.int n))) : EvI b (tVar i) σ (· = n) := ei_is fun H1 => ev_var h
theorem ei_imp {P1 P2 : Int → Prop} (h : EvI b te σ P1) (k : ∀ d, P1 d → P2 d) : EvI b te σ P2 := fun H1 hb Q q => h H1 hb Q fun d H2 hd e2 b2 => q d H2 (k d hd) e2 b2
theorem ei_op {g : Int → Int → Int} {Pa Pb Pd : Int → Prop} (ha : EvI b ta σ Pa) (hb : EvI b tb σ Pb) (h : ∀ x y, Pa x → Pb y → Pd (g x y)) : EvI b (tOp (rI0 fun i j => .int (g i j)) ta tb) σ Pd := fun H1 b1 Q q =>
  ha H1 b1 _ fun x H2 hx e2 b2 => hb H2 b2 _ fun y H3 hy e3 b3 => ⟨x, y, rfl, rfl, q _ H3 (h x y hx hy) (e2.trans e3) b3⟩
theorem ei_opC {C : Int → Int → Prop} {g : Int → Int → Int} {Pa Pb Pd : Int → Prop} (ha : EvI b ta σ Pa) (hb : EvI b tb σ Pb) (hc : ∀ x y, Pa x → Pb y → C x y) (h : ∀ x y, Pa x → Pb y → Pd (g x y)) : EvI b (tOp (rI C fun i j => .int (g i j)) ta tb) σ Pd := fun H1 b1 Q q =>
  ha H1 b1 _ fun x H2 hx e2 b2 => hb H2 b2 _ fun y H3 hy e3 b3 => ⟨x, y, rfl, rfl, hc x y hx hy, q _ H3 (h x y hx hy) (e2.trans e3) b3⟩
theorem ei_pow {n v : Int} (h : (10 : Int) ^ n.toNat = v) (h0 : 0 ≤ n) (h1 : n ≤ 1000) : EvI b (tOp (rI CPow fun i j => V.int (i ^ j.toNat)) (tC (V.int 10)) (tC (V.int n))) σ (· = v) := ei_is fun H1 => ev_pow10 h h0 h1
/-- a new row, drawn -/
def EvRB (b : Addr) (te : TE) (σ : L2.St) (H : Hp) (Pr : List Int → Prop) : Prop := ∀ H1, ExB b H H1 → Bx H1 b → ∀ Q : VK, (∀ p row H2, H1 p = none → ExB b H1 H2 → Bx H2 b → H2 p = some (.lst (row.map V.int)) → Pr row → Q (.ref p) H2) → te σ H1 Q
structure Db (b : Addr) (H : Hp) (Pd : Nat → Int → Prop) (Dl : Addr) (i : Nat) (H' : Hp) : Prop where
  no : H Dl = none
  bx : Bx H' b
  ex : ExB b H H'
  out : ∃ row : List Int, row.length = i ∧ H' Dl = some (.lst (row.map V.int)) ∧ ∀ k, k < i → Pd k (row.getD k 0)
theorem bx_ne {H : Hp} {a b : Addr} (hb : Bx H b) (ha : H a = none) : a ≠ b := fun z => by
  obtain ⟨i, j, k, h⟩ := hb
  rw [z, h] at ha
  cases ha
theorem ExB.mut {H H' : Hp} {p : Addr} {o : HO} (e : ExB b H H') (h : H p = none) : ExB b H (L2.upd H' p o) := fun c o' hc hx => by
  have : c ≠ p := fun z => by rw [z, h] at hx; cases hx
  rw [upd_ne this]
  exact e c o' hc hx
theorem Bx.put2 {H : Hp} {p : Addr} {o : HO} (h : Bx H b) (n : p ≠ b) : Bx (L2.upd H p o) b := by
  obtain ⟨i, j, k, h⟩ := h
  exact ⟨i, j, k, by rw [upd_ne (Ne.symm n)]; exact h⟩
theorem fresh_b {H H' : Hp} {p : Addr} (e : ExB b H H') (hb : Bx H' b) (h : H' p = none) : H p = none := by
  cases hp : H p with
  | none => rfl
  | some o =>
    have n : p ≠ b := bx_ne hb h
    rw [e p o n hp] at h
    cases h
theorem db_turn {Pd : Nat → Int → Prop} {Dl : Addr} {i : Nat} {σ2 : L2.St} (hDb : Dl ≠ b) (p : Db b H Pd Dl i H') (hi : i < 50000) (he : EvI b te σ2 (Pd i)) :
    tYes σ2 H' fun bb H3 => if bb = true then te σ2 H3 fun y H4 => ∃ acc, H4 Dl = some (.lst acc) ∧ acc.length < sizeLine ∧ Db b H Pd Dl (i + 1) (L2.upd H4 Dl (.lst (acc ++ [y]))) else Db b H Pd Dl (i + 1) H3 := by
  obtain ⟨hD, hb, e, row, hl, h1, hp⟩ := p
  show te σ2 H' fun y H4 => ∃ acc, H4 Dl = some (.lst acc) ∧ acc.length < sizeLine ∧ Db b H Pd Dl (i + 1) (L2.upd H4 Dl (.lst (acc ++ [y])))
  refine he H' hb _ fun d H4 hd e4 b4 => ⟨row.map V.int, e4 _ _ hDb h1, sz_lt (by rw [List.length_map]; omega), hD, b4.put2 hDb, (e.trans e4).mut hD, row ++ [d], by simp [hl], ?_, ?_⟩
  · rw [upd_same, List.map_append]
    rfl
  · intro k hk
    rcases Nat.lt_or_ge k i with hlt | hge
    · have e1 : (row ++ [d]).getD k 0 = row.getD k 0 := by
        rw [List.getD_eq_getElem?_getD, List.getD_eq_getElem?_getD, List.getElem?_append_left (by omega)]
      rw [e1]
      exact hp k hlt
    · have ek : k = i := by omega
      subst ek
      have e1 : (row ++ [d]).getD k 0 = d := by
        rw [List.getD_eq_getElem?_getD, List.getElem?_append_right (by omega), hl, Nat.sub_self]
        rfl
      rw [e1]
      exact hd
theorem db_start {Pd : Nat → Int → Prop} {Dl : Addr} (hb : Bx H b) (hD : H Dl = none) : Db b H Pd Dl 0 (L2.upd H Dl (.lst [])) := ⟨hD, hb.put2 (bx_ne hb hD), (ExB.refl H).mut hD, [], rfl, upd_same, fun k hk => absurd hk (Nat.not_lt_zero _)⟩
/-- [te for j in range(n)], te draws -/
theorem rb_R1 {Pd : Nat → Int → Prop} {n : Nat} {j : Nat} {vs : List Nat} (h : ∀ H1, EvA tA σ H1 [.int (n : Int)]) (hz : n ≤ 40000) (hw : ∀ x, wipe ((wipe σ vs).set j (some x)) vs = wipe σ vs)
    (he : ∀ i : Nat, i < n → EvI b te ((wipe σ vs).set j (some (.int (i : Int)))) (Pd i)) : EvRB b (tLc (iRng1 tA) (gName j) tYes te vs) σ H fun row => row.length = n ∧ ∀ k, k < n → Pd k (row.getD k 0) := fun H0 e0 b0 Q q => h H0 H0 (Ex.refl H0) _ fun H1 e1 => ⟨(n : Int), rfl, by omega, by omega, fun Dl hD =>
  lc_range (lo := 0) (n := n) (Db b H1 Pd Dl) (db_start (b0.ex e1) hD) (fun i H' hi p => by
    have e0 : (0 : Int) + (i : Int) = (i : Int) := Int.zero_add _
    show wipe ((wipe σ vs).set j (some (.int ((0 : Int) + (i : Int))))) vs = wipe σ vs ∧ tYes ((wipe σ vs).set j (some (.int ((0 : Int) + (i : Int))))) H' fun bb H3 => if bb = true then te ((wipe σ vs).set j (some (.int ((0 : Int) + (i : Int))))) H3 fun y H4 => ∃ acc, H4 Dl = some (.lst acc) ∧ acc.length < sizeLine ∧ Db b H1 Pd Dl (i + 1) (L2.upd H4 Dl (.lst (acc ++ [y]))) else Db b H1 Pd Dl (i + 1) H3
    rw [e0]
    exact ⟨hw _, db_turn (bx_ne (b0.ex e1) hD) p (by omega) (he i hi)⟩) (fun H' p => by
    obtain ⟨c1, c2, c3, row, c4, c5, c6⟩ := p
    exact q Dl row H' (fresh_back e1 c1) ((ExB.of e1).trans c3) c2 c5 ⟨c4, c6⟩)⟩
/-- [te for x in a list of numbers], te draws -/
theorem rb_L {Pd : Nat → Int → Prop} {a : Addr} {xs : List V} {j : Nat} {vs : List Nat} {tl : TE} (h : ∀ H1, Ev tl σ H1 (.ref a)) (hab : a ≠ b) (hx : SqL K H a xs) (hz : xs.length ≤ 40000) (hw : ∀ x, wipe ((wipe σ vs).set j (some x)) vs = wipe σ vs)
    (he : ∀ (i : Nat) x, xs[i]? = some x → EvI b te ((wipe σ vs).set j (some x)) (Pd i)) : EvRB b (tLc (iList K tl) (gName j) tYes te vs) σ H fun row => row.length = xs.length ∧ ∀ k, k < xs.length → Pd k (row.getD k 0) := fun H0 e0 b0 Q q => h H0 H0 (Ex.refl H0) _ fun H1 e1 => ⟨a, rfl, ⟨xs, ex_l e1 (e0.seq hab hx)⟩, fun Dl hD =>
  lc_list (xs := xs) (Db b H1 Pd Dl) (db_start (b0.ex e1) hD) (fun i H' _ p => p.ex.seq hab (ex_l e1 (e0.seq hab hx))) (fun i x H' hi p => ⟨hw x, db_turn (bx_ne (b0.ex e1) hD) p (by have := (List.getElem?_eq_some_iff.mp hi).1; omega) (he i x hi)⟩) (fun H' p => by
    obtain ⟨c1, c2, c3, row, c4, c5, c6⟩ := p
    exact q Dl row H' (fresh_back e1 c1) ((ExB.of e1).trans c3) c2 c5 ⟨c4, c6⟩)⟩
/-- rows that were drawn, in a list -/
structure Dg (b : Addr) (H : Hp) (Pr : Nat → List Int → Prop) (Dl : Addr) (i : Nat) (H' : Hp) : Prop where
  no : H Dl = none
  bx : Bx H' b
  ex : ExB b H H'
  out : ∃ (rs : List Addr) (G : List (List Int)), G.length = i ∧ H' Dl = some (.lst (rs.map V.ref)) ∧ Rw .lst H' rs G ∧ (∀ k, k < i → Pr k (G.getD k [])) ∧ (∀ r ∈ rs, H r = none) ∧ (Dl :: rs).Nodup
theorem Rw.exB {c : List V → HO} {rs : List Addr} {G : List (List Int)} (h : Rw c H rs G) (e : ExB b H H') (n : ∀ r ∈ rs, r ≠ b) : Rw c H' rs G := ⟨h.len, fun k hk => e _ _ (n _ (getD_mem (by rw [h.len]; exact hk))) (h.row k hk)⟩
/-- one more row -/
theorem rw_push {rs : List Addr} {G : List (List Int)} {Dl q : Addr} {row : List Int} {ob : HO} (h : Rw .lst H rs G) (hq : H q = some (.lst (row.map V.int))) (hqD : q ≠ Dl) (hDl : Dl ∉ rs) : Rw .lst (L2.upd H Dl ob) (rs ++ [q]) (G ++ [row]) := by
  refine ⟨by simp [h.len], fun k hk => ?_⟩
  rw [List.length_append] at hk
  have hk' : k < G.length + 1 := hk
  rcases Nat.lt_or_ge k G.length with hlt | hge
  · have e1 : (rs ++ [q]).getD k 0 = rs.getD k 0 := by
      rw [List.getD_eq_getElem?_getD, List.getD_eq_getElem?_getD, List.getElem?_append_left (by rw [h.len]; exact hlt)]
    have e2 : (G ++ [row]).getD k [] = G.getD k [] := by
      rw [List.getD_eq_getElem?_getD, List.getD_eq_getElem?_getD, List.getElem?_append_left hlt]
    rw [e1, e2, upd_ne (fun z => hDl (by rw [← z]; exact getD_mem (by rw [h.len]; exact hlt)))]
    exact h.row k hlt
  · have ek : k = G.length := by omega
    subst ek
    have e1 : (rs ++ [q]).getD G.length 0 = q := by
      rw [List.getD_eq_getElem?_getD, ← h.len, List.getElem?_append_right (Nat.le_refl _), Nat.sub_self]
      rfl
    have e2 : (G ++ [row]).getD G.length [] = row := by
      rw [List.getD_eq_getElem?_getD, List.getElem?_append_right (Nat.le_refl _), Nat.sub_self]
      rfl
    rw [e1, e2, upd_ne hqD]
    exact hq
theorem dg_push {Pr : Nat → List Int → Prop} {Dl q : Addr} {i : Nat} {row : List Int} {H4 : Hp} {rs : List Addr} {G : List (List Int)} (hDb : Dl ≠ b) (hD : H Dl = none) (hb : Bx H' b) (e : ExB b H H') (hl : G.length = i) (h1 : H' Dl = some (.lst (rs.map V.ref))) (hr : Rw .lst H' rs G) (hp : ∀ k, k < i → Pr k (G.getD k []))
    (hf : ∀ r ∈ rs, H r = none) (hnd : (Dl :: rs).Nodup) (hb0 : Bx H b) (hq : H' q = none) (e4 : ExB b H' H4) (b4 : Bx H4 b) (h4 : H4 q = some (.lst (row.map V.int))) (hrow : Pr i row) : Dg b H Pr Dl (i + 1) (L2.upd H4 Dl (.lst (rs.map V.ref ++ [.ref q]))) := by
  have hqD : q ≠ Dl := fun z => by rw [z, h1] at hq; cases hq
  have hnb : ∀ r ∈ rs, r ≠ b := fun r hr => bx_ne hb0 (hf r hr)
  refine ⟨hD, b4.put2 hDb, (e.trans e4).mut hD, rs ++ [q], G ++ [row], by simp [hl], ?_, rw_push (hr.exB e4 hnb) h4 hqD (List.nodup_cons.mp hnd).1, ?_, ?_, ?_⟩
  · rw [upd_same, List.map_append]
    rfl
  · intro k hk
    rcases Nat.lt_or_ge k i with hlt | hge
    · have e2 : (G ++ [row]).getD k [] = G.getD k [] := by
        rw [List.getD_eq_getElem?_getD, List.getD_eq_getElem?_getD, List.getElem?_append_left (by omega)]
      rw [e2]
      exact hp k hlt
    · have ek : k = i := by omega
      subst ek
      have e2 : (G ++ [row]).getD k [] = row := by
        rw [List.getD_eq_getElem?_getD, List.getElem?_append_right (by omega), hl, Nat.sub_self]
        rfl
      rw [e2]
      exact hrow
  · intro r hr
    rcases List.mem_append.mp hr with hr | hr
    · exact hf r hr
    · have : r = q := by simpa using hr
      rw [this]
      exact fresh_b e hb hq
  · rw [← List.cons_append]
    refine List.nodup_append.mpr ⟨hnd, by simp, ?_⟩
    intro a ha c hc
    have hc' : c = q := by simpa using hc
    rw [hc']
    intro z
    rcases List.mem_cons.mp ha with ha | ha
    · exact hqD (by rw [← z, ha])
    · obtain ⟨k, hk, ek⟩ := mem_getD ha
      have := hr.row k (by rw [← hr.len]; exact hk)
      rw [ek, z, hq] at this
      cases this
theorem dg_turn {Pr : Nat → List Int → Prop} {Dl : Addr} {i : Nat} {σ2 : L2.St} (hDb : Dl ≠ b) (hb0 : Bx H b) (p : Dg b H Pr Dl i H') (hi : i < 50000) (he : EvRB b te σ2 H (Pr i)) :
    tYes σ2 H' fun bb H3 => if bb = true then te σ2 H3 fun y H4 => ∃ acc, H4 Dl = some (.lst acc) ∧ acc.length < sizeLine ∧ Dg b H Pr Dl (i + 1) (L2.upd H4 Dl (.lst (acc ++ [y]))) else Dg b H Pr Dl (i + 1) H3 := by
  obtain ⟨hD, hb, e, rs, G, hl, h1, hr, hp, hf, hnd⟩ := p
  show te σ2 H' fun y H4 => ∃ acc, H4 Dl = some (.lst acc) ∧ acc.length < sizeLine ∧ Dg b H Pr Dl (i + 1) (L2.upd H4 Dl (.lst (acc ++ [y])))
  exact he H' e hb _ fun q row H4 hq e4 b4 h4 hrow => ⟨rs.map V.ref, e4 _ _ hDb h1, sz_lt (by rw [List.length_map, hr.len]; omega), dg_push hDb hD hb e hl h1 hr hp hf hnd hb0 hq e4 b4 h4 hrow⟩
theorem dg_start {Pr : Nat → List Int → Prop} {Dl : Addr} (hb : Bx H b) (hD : H Dl = none) : Dg b H Pr Dl 0 (L2.upd H Dl (.lst [])) := ⟨hD, hb.put2 (bx_ne hb hD), (ExB.refl H).mut hD, [], [], rfl, upd_same, ⟨rfl, fun k hk => absurd hk (Nat.not_lt_zero _)⟩, fun k hk => absurd hk (Nat.not_lt_zero _), by simp, by simp⟩
/-- what a drawn grid is -/
def RetGB (b : Addr) (H : Hp) (Pg : List (List Int) → Prop) (Q : VK) : Prop := ∀ p rs G H2, H p = none → ExB b H H2 → Bx H2 b → H2 p = some (.lst (rs.map V.ref)) → Rw .lst H2 rs G → (∀ r ∈ rs, H r = none) → (p :: rs).Nodup → Pg G → Q (.ref p) H2
def RetG (G : List (List Int)) (H : Hp) (Q : VK) : Prop := ∀ p rs H2, H p = none → Ex H H2 → H2 p = some (.lst (rs.map V.ref)) → Rw .lst H2 rs G → (∀ r ∈ rs, H r = none) → (p :: rs).Nodup → Q (.ref p) H2
/-- [row for x in a list], the rows drawn -/
theorem gb_L {Pr : Nat → List Int → Prop} {a : Addr} {xs : List V} {j : Nat} {vs : List Nat} {tl : TE} {Q : VK} (hb : Bx H b) (h : ∀ H1, Ex H H1 → Ev tl σ H1 (.ref a)) (hab : a ≠ b) (hx : SqL K H a xs) (hz : xs.length ≤ 40000) (hw : ∀ x, wipe ((wipe σ vs).set j (some x)) vs = wipe σ vs)
    (he : ∀ (i : Nat) x H1, Ex H H1 → xs[i]? = some x → EvRB b te ((wipe σ vs).set j (some x)) H1 (Pr i)) (q : RetGB b H (fun G => G.length = xs.length ∧ ∀ k, k < xs.length → Pr k (G.getD k [])) Q) : tLc (iList K tl) (gName j) tYes te vs σ H Q :=
  h H (Ex.refl H) H (Ex.refl H) _ fun H1 e1 => ⟨a, rfl, ⟨xs, ex_l e1 hx⟩, fun Dl hD =>
  lc_list (xs := xs) (Dg b H1 Pr Dl) (dg_start (hb.ex e1) hD) (fun i H' _ p => p.ex.seq hab (ex_l e1 hx)) (fun i x H' hi p => ⟨hw x, dg_turn (bx_ne (hb.ex e1) hD) (hb.ex e1) p (by have := (List.getElem?_eq_some_iff.mp hi).1; omega) (he i x H1 e1 hi)⟩) (fun H' p => by
    obtain ⟨c1, c2, c3, rs, G, c4, c5, c6, c7, c8, c9⟩ := p
    exact q Dl rs G H' (fresh_back e1 c1) ((ExB.of e1).trans c3) c2 c5 c6 (fun r hr => fresh_back e1 (c8 r hr)) c9 ⟨c4, c7⟩)⟩
end
end Lc
namespace Lc
open PySem PySem.Spec PyProof.Rows L2 Evl
section
variable {K : PySem.W.Frag} {H H' : Hp}
/-! ### rows of rows compared -/
theorem rw_dp {c : List V → HO} {d : List Int → PyData} (hd : ∀ r (row : List Int), H r = some (c (row.map V.int)) → Dp K H (.ref r) (d row)) : ∀ (G : List (List Int)) (rs : List Addr), Rw c H rs G → DpAll K H (rs.map V.ref) (G.map d)
  | [], [], _ => .nil
  | [], r :: rs, h => by cases h.len
  | row :: G, [], h => by cases h.len
  | row :: G, r :: rs, h => .cons (hd r row (h.row 0 (by simp))) (rw_dp hd G rs ⟨by have := h.len; simpa using this, fun k hk => h.row (k + 1) (by simp; omega)⟩)
def dRL (row : List Int) : PyData := .list (row.map PyData.int)
def dRT (row : List Int) : PyData := .tuple (row.map PyData.int)
theorem int_eqv (x y : Int) : PyData.eqv (.int x) (.int y) = decide (x = y) := by simp only [PyData.eqv]; rw [Bool.eq_iff_iff]; simp
theorem dRL_eqv (x y : List Int) : PyData.eqv (dRL x) (dRL y) = decide (x = y) := by
  unfold dRL
  simp only [PyData.eqv]
  exact eqvAll_of int_eqv x y
theorem dRT_eqv (x y : List Int) : PyData.eqv (dRT x) (dRT y) = decide (x = y) := by
  unfold dRT
  simp only [PyData.eqv]
  exact eqvAll_of int_eqv x y
theorem dRL_lay (x : List Int) : (dRL x).canLay0 = true := lay_of (d := PyData.int) (fun _ => rfl) x
theorem dRT_lay (x : List Int) : (dRT x).canLay0 = true := lay_of (d := PyData.int) (fun _ => rfl) x
theorem dRL_depth (x : List Int) : (dRL x).depth ≤ 2 := by
  have h := depth_of (d := PyData.int) (n := 1) (fun _ => by simp [PyData.depth]) x
  unfold dRL
  simp only [PyData.depth]
  omega
theorem dRT_depth (x : List Int) : (dRT x).depth ≤ 2 := by
  have h := depth_of (d := PyData.int) (n := 1) (fun _ => by simp [PyData.depth]) x
  unfold dRT
  simp only [PyData.depth]
  omega
theorem shapedL {d : List Int → PyData} (h1 : ∀ x, (d x).canLay0 = true) (h2 : ∀ x, (d x).depth ≤ 2) (l : List (List Int)) : SeqAt.shaped (.list (l.map d)) = true := by
  have h := depth_of h2 l
  unfold SeqAt.shaped
  rw [Bool.and_eq_true]
  refine ⟨lay_of h1 l, decide_eq_true ?_⟩
  simp only [PyData.depth]
  omega
theorem shapedT {d : List Int → PyData} (h1 : ∀ x, (d x).canLay0 = true) (h2 : ∀ x, (d x).depth ≤ 2) (l : List (List Int)) : SeqAt.shaped (.tuple (l.map d)) = true := by
  have h := depth_of h2 l
  unfold SeqAt.shaped
  rw [Bool.and_eq_true]
  refine ⟨lay_of h1 l, decide_eq_true ?_⟩
  simp only [PyData.depth]
  omega
theorem dpL {p : Addr} {rs : List Addr} {G : List (List Int)} (h : H p = some (.lst (rs.map V.ref))) (hr : Rw .lst H rs G) : Dp K H (.ref p) (.list (G.map dRL)) :=
  .lst (sq_of h) (rw_dp (fun r row hh => .lst (sq_of hh) (dpAll_of (fun x => .int x) row)) G rs hr)
theorem dpT {p : Addr} {rs : List Addr} {G : List (List Int)} (h : H p = some (.tup (rs.map V.ref))) (hr : Rw .tup H rs G) : Dp K H (.ref p) (.tuple (G.map dRT)) :=
  .tup (st_of h) (rw_dp (fun r row hh => .tup (st_of hh) (dpAll_of (fun x => .int x) row)) G rs hr)
theorem rv_eqGL {p q : Addr} {rs ss : List Addr} {F G : List (List Int)} (h : H p = some (.lst (rs.map V.ref))) (hr : Rw .lst H rs F) (h' : H q = some (.lst (ss.map V.ref))) (hr' : Rw .lst H ss G) : RV (rEqD K) (.ref p) (.ref q) H (.bl (decide (F = G))) := fun H1 e Q k => by
  refine ⟨_, _, dpL (e _ _ h) (hr.ex e), dpL (e _ _ h') (hr'.ex e), shapedL dRL_lay dRL_depth F, shapedL dRL_lay dRL_depth G, ?_⟩
  rw [show PyData.eqv (.list (F.map dRL)) (.list (G.map dRL)) = decide (F = G) by simp only [PyData.eqv]; exact eqvAll_of dRL_eqv F G]
  exact k H1 (Ex.refl H1)
theorem rv_neGL {p q : Addr} {rs ss : List Addr} {F G : List (List Int)} (h : H p = some (.lst (rs.map V.ref))) (hr : Rw .lst H rs F) (h' : H q = some (.lst (ss.map V.ref))) (hr' : Rw .lst H ss G) : RV (rNeD K) (.ref p) (.ref q) H (.bl (!decide (F = G))) := fun H1 e Q k => by
  refine ⟨_, _, dpL (e _ _ h) (hr.ex e), dpL (e _ _ h') (hr'.ex e), shapedL dRL_lay dRL_depth F, shapedL dRL_lay dRL_depth G, ?_⟩
  rw [show PyData.eqv (.list (F.map dRL)) (.list (G.map dRL)) = decide (F = G) by simp only [PyData.eqv]; exact eqvAll_of dRL_eqv F G]
  exact k H1 (Ex.refl H1)
theorem rv_eqGT {p q : Addr} {rs ss : List Addr} {F G : List (List Int)} (h : H p = some (.tup (rs.map V.ref))) (hr : Rw .tup H rs F) (h' : H q = some (.tup (ss.map V.ref))) (hr' : Rw .tup H ss G) : RV (rEqD K) (.ref p) (.ref q) H (.bl (decide (F = G))) := fun H1 e Q k => by
  refine ⟨_, _, dpT (e _ _ h) (hr.ex e), dpT (e _ _ h') (hr'.ex e), shapedT dRT_lay dRT_depth F, shapedT dRT_lay dRT_depth G, ?_⟩
  rw [show PyData.eqv (.tuple (F.map dRT)) (.tuple (G.map dRT)) = decide (F = G) by simp only [PyData.eqv]; exact eqvAll_of dRT_eqv F G]
  exact k H1 (Ex.refl H1)
end
end Lc
namespace Lc
open PySem PySem.Spec PyProof.Rows L2 Evl
section
variable {X : Cx} {tg : Expr}
/-! ### the walks within a comprehension: K told apart from the context -/
theorem pi_listK (K : PySem.W.Frag) (hK : X.K = K) {l : Expr} {tl : TE} (hl : PE X l tl) : PI X tg l (iList K tl) := by
  subst hK
  exact pi_list hl
theorem pi_tupK (K : PySem.W.Frag) (hK : X.K = K) {l : Expr} {tl : TE} (hl : PE X l tl) : PI X tg l (iTup K tl) := by
  subst hK
  exact pi_tup hl
theorem pi_seqK (K : PySem.W.Frag) (hK : X.K = K) {l : Expr} {tl : TE} (hl : PE X l tl) : PI X tg l (iSeq K tl) := by
  subst hK
  exact pi_seq hl
theorem pi_zipAK (K : PySem.W.Frag) (hK : X.K = K) {e e2 : Expr} {ta : TA} {p pos tpos : Pos} {elts : List Expr} {kk : Nat} (hg : Gl X "zip") (hm : X.mg "zip" = none) (ha : PA X [e, e2] ta)
    (hs : starEach [e, e2] X.env = (false, eval e X.env) :: starEach [e2] X.env := by rfl) (hpl : (backTo pos (starEach [e2] X.env)).any (·.1) = false := by rfl) :
    PI X (.Tuple elts kk tpos) (.Call (.Name "zip" p) [e, e2] [] pos) (RZ.iZipA K ta) := by
  subst hK
  exact RZ.pi_zipA hg hm ha hs hpl
end
end Lc
namespace Lc
open PySem PySem.Spec PyProof.Rows L2 Evl
section
variable {X : Cx} {CX : CXT} {k : Nat} {f C : Addr} {fd : FuncData} {ps : List Str} {sp : Sp} {dvs : List V} {ds : List Value} {E : L2.St → XK} {x m : Str} {p pos apos : Pos} {e o a b : Expr} {es : List Expr} {te ta tb : TE} {t : TA}
/-! ### in a try's body: what an exception may do hangs on the slots -/
theorem run_atS {σ : L2.St} {pins : List (Addr × Obj)} {H : Hp} {s : Shared} {E : XK} {us : List Value} {vs : List V} {Q : VK} (F : FnOk X.prog X.w X.K X.mg X.base CX k f fd ps sp) (hr : Room k X.A) (hb : Binds X.K fd ps []) (hx : PassesAt CX X σ E)
    (I : Inv X pins σ H s) (r : Vals vs us) (h : sp vs H Q E) : wpAny (model X.prog X.w) X.A (call (.ref f) us) (EP X pins σ Q) X.xe s := by
  have hl : us.length = ps.length := by rw [← r.length]; exact F.len _ _ _ _ h
  refine wpAny_call (codeAny_mono (F.run X.A X.stack s H ⟨us, []⟩ us vs Q E hr I.env0 (by
    have h2 := hb s us I.kIn (by simpa using hl)
    simpa using h2) r h) fun r s' hq => ?_)
  cases r with
  | error e => exact hx pins H s e s' I hq
  | ok fl =>
    cases fl with
    | ret u => exact I.after hq
    | next => exact False.elim hq
    | brk => exact False.elim hq
    | cont => exact False.elim hq
def tMakeS (C : Addr) (sp : Sp) (dvs : List V) (E : L2.St → XK) (t : TA) : TE := fun σ H Q => t σ H fun vs H1 => ∀ x dx, H1 x = none → H1 dx = none → dx ≠ x →
  sp (.ref x :: (vs ++ dvs)) (upd (upd H1 dx (.own x)) x (.ins C dx [])) (fun v H2 => v = .non ∧ Q (.ref x) H2) (E σ)
theorem run_makeS {pins : List (Addr × Obj)} {σ : L2.St} {H : Hp} {s : Shared} {Q : VK} {us : List Value} {vs : List V} {E : XK} (M : Mk X.K C f) (F : FnOk X.prog X.w X.K X.mg X.base CX k f fd ps sp) (hr : Room (k + 1) X.A) (hb : Binds X.K fd ps ds) (hd : Vals dvs ds)
    (hx : PassesAt CX X σ E) (I : Inv X pins σ H s) (r : Vals vs us)
    (h : ∀ x dx, H x = none → H dx = none → dx ≠ x → sp (.ref x :: (vs ++ dvs)) (upd (upd H dx (.own x)) x (.ins C dx [])) (fun v H2 => v = .non ∧ Q (.ref x) H2) E) :
    wpAny (model X.prog X.w) X.A (call (.ref C) us) (EP X pins σ Q) X.xe s := by
  have hq := h (s.heap.objs.size + 1) s.heap.objs.size (I.hok.fresh (Nat.le_succ _)) (I.hok.fresh (Nat.le_refl _)) (Nat.ne_of_lt (Nat.lt_succ_self _))
  have I2 := Inv.made (C := C) I
  have r2 : Vals (V.ref (s.heap.objs.size + 1) :: (vs ++ dvs)) (Value.ref (s.heap.objs.size + 1) :: (us ++ ds)) := .cons rfl (r.append hd)
  have hl : (Value.ref (s.heap.objs.size + 1) :: us ++ ds).length = ps.length := by
    have e := r2.length
    rw [F.len _ _ _ _ hq] at e
    exact e.symm
  refine wpAny_call (make_map (f := f) I.kIn M.makes M.init (beq_iff_eq.mp M.fn) (codeAny_mono (F.run _ X.stack _ _ ⟨Value.ref (s.heap.objs.size + 1) :: us, []⟩ (Value.ref (s.heap.objs.size + 1) :: (us ++ ds)) _ _ E (hr.make C us [])
    (I2.env0.make C us []) (hb _ (Value.ref (s.heap.objs.size + 1) :: us) I2.kIn hl) r2 hq) fun r s' hq' => ?_))
  cases r with
  | error e => exact hx pins _ _ e s' I2 hq'
  | ok fl =>
    cases fl with
    | ret u =>
      obtain ⟨v, H', I3, rv, ev, q3⟩ := I2.after hq'
      subst ev
      exact ⟨rv, ⟨V.ref (s.heap.objs.size + 1), H', I3, rfl, q3⟩⟩
    | next => exact False.elim hq'
    | brk => exact False.elim hq'
    | cont => exact False.elim hq'
theorem pe_makeS (M : Mk X.K C f) (F : FnOk X.prog X.w X.K X.mg X.base CX k f fd ps sp) (hr : Room (k + 1) X.A) (hg : Gl X x) (hm : X.mg x = some (.ref C)) (hb : Binds X.K fd ps ds) (hd : Vals dvs ds) (hx : ∀ σ, PassesAt CX X σ (E σ))
    (ha : PA X (e :: es) t) (hdb : (x == ("__debug__" : Str)) = false := by decide) (he : starEach (e :: es) X.env = (false, eval e X.env) :: starEach es X.env := by rfl) (hpl : (backTo pos (starEach es X.env)).any (·.1) = false := by rfl) :
    PE X (.Call (.Name x p) (e :: es) [] pos) (tMakeS C sp dvs E t) := by
  refine ⟨fun pins s σ H Q I h => ?_⟩
  refine wpAny_Call_Name_kw (ld_glob I hg hm ?_ hdb)
  refine PySem.W.callWith_K (h₀ := X.base) I.ok.mod.kin M.kp (thn (ha.run pos pins s σ H _ I h) fun us s1 ⟨vs, H1, I1, r, q⟩ => ⟨I1.kIn, ?_⟩) he hpl
  exact run_makeS M F hr hb hd (hx σ) I1 r q
def tMethSg (C : Addr) (m : Str) (sp : Sp) (E : L2.St → XK) (ta : TE) (t : TA) : TE := fun σ H Q => ta σ H fun x H1 => ∃ a dx fs, x = .ref a ∧ H1 a = some (.ins C dx fs) ∧ fs.lookup m = none ∧
  t σ H1 fun vs H2 => sp (x :: vs) H2 Q (E σ)
theorem pe_methSg {pl : Sem Bool} (he : PE X o ta) (c : Cls X.K C) (hm : Meth X.K C m f) (F : FnOk X.prog X.w X.K X.mg X.base CX k f fd ps sp) (hr : Room k X.A) (hb : Binds X.K fd ps []) (hx : ∀ σ, PassesAt CX X σ (E σ)) (ha : PA X (e :: es) t)
    (hst : starEach (e :: es) X.env = (false, eval e X.env) :: starEach es X.env := by rfl) (hpl : (backTo pos (starEach es X.env)).any (·.1) = false := by rfl)
    (ht : eval (.Call (.Attribute o m apos) (e :: es) [] pos) X.env = (do
      let ov ← eval o X.env
      standAt apos.atName
      let (f, first) ← holding [ov] (getMethod ov m pl)
      callWith pos f first (backTo pos (starEach (e :: es) X.env)) (backToKw pos (keywordEach [] X.env))) := by rfl) :
    PE X (.Call (.Attribute o m apos) (e :: es) [] pos) (tMethSg C m sp E ta t) := by
  refine ⟨fun pins s σ H Q I h => ?_⟩
  refine PySem.W.methodCall_KW (pl := pl) (thn (he.run pins s σ H _ I h) fun u s1 ⟨x, H1, I1, rx, a, dx, fs, ex, ea, l, q⟩ => ?_) ht
  subst ex
  obtain rfl : u = Value.ref a := rx
  refine getmeth_ok I1 ea c hm l ?_
  refine PySem.W.callWith_K (first := [.ref a]) (h₀ := X.base) I.ok.mod.kin hm.kp (thn (ha.run pos pins s1 σ H1 _ I1 q) fun us s2 ⟨vs, H2, I2, r, q2⟩ => ⟨I2.kIn, ?_⟩) hst hpl
  exact run_atS (us := .ref a :: us) (vs := .ref a :: vs) F hr hb (hx σ) I2 (.cons rfl r) q2
def tBinS (C : Addr) (sp : Sp) (E : L2.St → XK) (ta tb : TE) : TE := fun σ H Q => ta σ H fun x H1 => tb σ H1 fun y H2 => ∃ a dx fs b dy gs, x = .ref a ∧ H2 a = some (.ins C dx fs) ∧ y = .ref b ∧ H2 b = some (.ins C dy gs) ∧ sp [.ref a, .ref b] H2 (fun v H' => (∃ r, v = .ref r) ∧ Q v H') (E σ)
theorem pe_binS {op : Operator} (F : FnOk X.prog X.w X.K X.mg X.base CX k f fd ps sp) (hr : Room k X.A) (h1 : PySem.W.selfFirst X.K C = true) (hs : PySem.W.findIn X.K (.ref C) (PySem.dunder op.info.2) = some (some (.ref f))) (hf : PySem.W.isFn X.K (.ref f) = true) (hb : Binds X.K fd ps []) (hx : ∀ σ, PassesAt CX X σ (E σ)) (hea : PE X a ta) (heb : PE X b tb) :
    PE X (.BinOp a op b pos) (tBinS C sp E ta tb) := by
  refine ⟨fun pins s σ H Q I h => ?_⟩
  refine wpAny_BinOp (binT hea heb I h fun v u s2 x y H2 I2 rx ry q => ?_)
  obtain ⟨a, dx, fs, b, dy, gs, rfl, ha, rfl, hb', hsp⟩ := q
  obtain rfl : v = Value.ref a := rx
  obtain rfl : u = Value.ref b := ry
  obtain ⟨mA, J, _⟩ := ins_get I2.hok ha
  obtain ⟨mB, J', _⟩ := ins_get I2.hok hb'
  obtain ⟨od, J, _⟩ := J.look
  obtain ⟨od', J', _⟩ := J'.look
  obtain ⟨m, hF⟩ := I2.fr
  refine PySem.W.binop_K hF I2.ok.mod.kin J J'.type h1 hs hf (wpAny_mono (run_atS (vs := [.ref a, .ref b]) F hr hb (hx σ) I2 (.cons (show RelV (.ref a) (Value.ref a) from rfl) (.cons (show RelV (.ref b) (Value.ref b) from rfl) .nil)) hsp) (fun w s' hw => ?_) fun _ _ x => x)
  obtain ⟨v, H', I', rv, ⟨r, rfl⟩, q⟩ := hw
  cases rv
  exact ⟨.ref r, H', I', rfl, q⟩
end
end Lc
namespace Lc
open PySem PySem.Spec PyProof.Rows L2
/-! ### a class's own number -/
def cvI (K : PySem.W.Frag) (C : Addr) (f : Str) (n : Int) : Bool := match PySem.W.findCls K (.ref C) (.type "type") f with
  | some (.val (.int m _)) => decide (m = n)
  | _ => false
theorem cvI_ok {K : PySem.W.Frag} {C : Addr} {f : Str} {n : Int} (h : cvI K C f n = true) : ∃ u, ClX.CVal K C (.type "type") f (.int n) u := by
  unfold cvI at h
  split at h
  · rename_i m t e
    have e2 := of_decide_eq_true h
    subst e2
    exact ⟨_, e, ⟨t, rfl⟩⟩
  · cases h
end Lc
namespace Lc
open PySem PySem.Spec PyProof.Rows L2
/-! ### a module's own tuple of whole numbers -/
def intsB : List Value → List Int → Bool
  | [], [] => true
  | .int m _ :: vs, n :: ns => decide (m = n) && intsB vs ns
  | _, _ => false
theorem intsB_ok : ∀ {vs : List Value} {ns : List Int}, intsB vs ns = true → Vals (ns.map V.int) vs
  | [], [], _ => .nil
  | .int m t :: vs, n :: ns, h => by
    obtain ⟨h1, h2⟩ := Bool.and_eq_true_iff.mp (show (decide (m = n) && intsB vs ns) = true from h)
    have e := of_decide_eq_true h1
    subst e
    exact .cons ⟨t, rfl⟩ (intsB_ok h2)
def tupIB (K : PySem.W.Frag) (a : Addr) (ns : List Int) : Bool := match K.lookup a with
  | some o => (match o.data with
    | .seq its _ => decide (its.size ≤ 100) && intsB its.toList ns
    | _ => false) && (o.cls == .type "tuple")
  | none => false
theorem tupIB_ok {K : PySem.W.Frag} {a : Addr} {ns : List Int} (h : tupIB K a ns = true) (H : Hp) : SqT K H a (ns.map V.int) := by
  unfold tupIB at h
  split at h
  · rename_i o e
    obtain ⟨h1, h2⟩ := Bool.and_eq_true_iff.mp h
    split at h1
    · rename_i its n e2
      obtain ⟨h3, h4⟩ := Bool.and_eq_true_iff.mp h1
      exact .inr ⟨o, its, n, e, beq_iff_eq.mp h2, e2, Nat.le_trans (of_decide_eq_true h3) (by decide), intsB_ok h4⟩
    · cases h1
  · cases h
end Lc
namespace K49
open PySem PySem.Spec PyProof.Rows L2 Lc
abbrev R : PySem.W.OpenRow := PySem.W.OpenLaw.row PySem.Challenge.rw_leapcard_k49_pieces_cut_rows
def topS (i : Nat) : Stmt := PySem.Challenge.pw_leapcard_k49_pieces_cut_rows.main.body.getD i (.Pass ⟨0, 0, 0, 0⟩)
abbrev st_InvalidRow_init : Stmt := inClass (topS 3) 0
abbrev ps_InvalidRow_init : List Str := ["self", "row"]
abbrev ns_InvalidRow_init : List Str := ["self", "row"]
theorem sc_InvalidRow_init : FnScope ns_InvalidRow_init ps_InvalidRow_init (defScope st_InvalidRow_init) := ⟨rfl, rfl, rfl, by decide +kernel, rfl, by decide +kernel, by decide +kernel⟩
abbrev st_InvalidPlace_init : Stmt := inClass (topS 4) 0
abbrev ps_InvalidPlace_init : List Str := ["self", "place"]
abbrev ns_InvalidPlace_init : List Str := ["self", "place"]
theorem sc_InvalidPlace_init : FnScope ns_InvalidPlace_init ps_InvalidPlace_init (defScope st_InvalidPlace_init) := ⟨rfl, rfl, rfl, by decide +kernel, rfl, by decide +kernel, by decide +kernel⟩
abbrev st_InvalidMachine_init : Stmt := inClass (topS 5) 0
abbrev ps_InvalidMachine_init : List Str := ["self", "part"]
abbrev ns_InvalidMachine_init : List Str := ["self", "part"]
theorem sc_InvalidMachine_init : FnScope ns_InvalidMachine_init ps_InvalidMachine_init (defScope st_InvalidMachine_init) := ⟨rfl, rfl, rfl, by decide +kernel, rfl, by decide +kernel, by decide +kernel⟩
abbrev st_is_sign_string : Stmt := topS 9
abbrev ps_is_sign_string : List Str := ["signs"]
abbrev ns_is_sign_string : List Str := ["signs", "sign", "after"]
theorem sc_is_sign_string : FnScope ns_is_sign_string ps_is_sign_string (defScope st_is_sign_string) := ⟨rfl, rfl, rfl, by decide +kernel, rfl, by decide +kernel, by decide +kernel⟩
abbrev st_check_row : Stmt := topS 10
abbrev ps_check_row : List Str := ["row", "signs"]
abbrev ns_check_row : List Str := ["row", "signs", "sign"]
theorem sc_check_row : FnScope ns_check_row ps_check_row (defScope st_check_row) := ⟨rfl, rfl, rfl, by decide +kernel, rfl, by decide +kernel, by decide +kernel⟩
abbrev st_pieces : Stmt := topS 12
abbrev ps_pieces : List Str := ["row"]
abbrev ns_pieces : List Str := ["row"]
theorem sc_pieces : FnScope ns_pieces ps_pieces (defScope st_pieces) := ⟨rfl, rfl, rfl, by decide +kernel, rfl, by decide +kernel, by decide +kernel⟩
abbrev st_wall_put : Stmt := topS 13
abbrev ps_wall_put : List Str := ["row", "gap"]
abbrev ns_wall_put : List Str := ["row", "gap"]
theorem sc_wall_put : FnScope ns_wall_put ps_wall_put (defScope st_wall_put) := ⟨rfl, rfl, rfl, by decide +kernel, rfl, by decide +kernel, by decide +kernel⟩
abbrev st_walled : Stmt := topS 14
abbrev ps_walled : List Str := ["row", "gap"]
abbrev ns_walled : List Str := ["row", "gap"]
theorem sc_walled : FnScope ns_walled ps_walled (defScope st_walled) := ⟨rfl, rfl, rfl, by decide +kernel, rfl, by decide +kernel, by decide +kernel⟩
abbrev st_wall_effects : Stmt := topS 15
abbrev ps_wall_effects : List Str := ["machine", "row"]
abbrev ns_wall_effects : List Str := ["machine", "row", "gap"]
theorem sc_wall_effects : FnScope ns_wall_effects ps_wall_effects (defScope st_wall_effects) := ⟨rfl, rfl, rfl, by decide +kernel, rfl, by decide +kernel, by decide +kernel⟩
abbrev st_check_sign_string : Stmt := topS 17
abbrev ps_check_sign_string : List Str := ["signs"]
abbrev ns_check_sign_string : List Str := ["signs"]
theorem sc_check_sign_string : FnScope ns_check_sign_string ps_check_sign_string (defScope st_check_sign_string) := ⟨rfl, rfl, rfl, by decide +kernel, rfl, by decide +kernel, by decide +kernel⟩
abbrev st_check_arrows : Stmt := topS 34
abbrev ps_check_arrows : List Str := ["signs", "arrows"]
abbrev ns_check_arrows : List Str := ["signs", "arrows", "row", "to"]
theorem sc_check_arrows : FnScope ns_check_arrows ps_check_arrows (defScope st_check_arrows) := ⟨rfl, rfl, rfl, by decide +kernel, rfl, by decide +kernel, by decide +kernel⟩
abbrev st_state_behind : Stmt := topS 35
abbrev ps_state_behind : List Str := ["signs", "arrows", "row"]
abbrev ns_state_behind : List Str := ["signs", "arrows", "row", "columns", "state", "sign", "at"]
theorem sc_state_behind : FnScope ns_state_behind ps_state_behind (defScope st_state_behind) := ⟨rfl, rfl, rfl, by decide +kernel, rfl, by decide +kernel, by decide +kernel⟩
abbrev st_Machine_init : Stmt := inClass (topS 42) 0
abbrev ps_Machine_init : List Str := ["self", "signs", "arrows", "finals"]
abbrev ns_Machine_init : List Str := ["self", "signs", "arrows", "finals", "row", "state"]
theorem sc_Machine_init : FnScope ns_Machine_init ps_Machine_init (defScope st_Machine_init) := ⟨rfl, rfl, rfl, by decide +kernel, rfl, by decide +kernel, by decide +kernel⟩
abbrev st_Machine_state : Stmt := inClass (topS 42) 2
abbrev ps_Machine_state : List Str := ["self", "row"]
abbrev ns_Machine_state : List Str := ["self", "row"]
theorem sc_Machine_state : FnScope ns_Machine_state ps_Machine_state (defScope st_Machine_state) := ⟨rfl, rfl, rfl, by decide +kernel, rfl, by decide +kernel, by decide +kernel⟩
abbrev st_Machine_contains : Stmt := inClass (topS 42) 8
abbrev ps_Machine_contains : List Str := ["self", "row"]
abbrev ns_Machine_contains : List Str := ["self", "row"]
theorem sc_Machine_contains : FnScope ns_Machine_contains ps_Machine_contains (defScope st_Machine_contains) := ⟨rfl, rfl, rfl, by decide +kernel, rfl, by decide +kernel, by decide +kernel⟩
abbrev st_law_bag : Stmt := topS 44
abbrev ps_law_bag : List Str := ["script", "spot"]
abbrev ns_law_bag : List Str := ["script", "spot", "cell"]
theorem sc_law_bag : FnScope ns_law_bag ps_law_bag (defScope st_law_bag) := ⟨rfl, rfl, rfl, by decide +kernel, rfl, by decide +kernel, by decide +kernel⟩
abbrev st_law_draw : Stmt := topS 45
abbrev ps_law_draw : List Str := ["bag", "many"]
abbrev ns_law_draw : List Str := ["bag", "many", "mixed", "squared", "digit"]
theorem sc_law_draw : FnScope ns_law_draw ps_law_draw (defScope st_law_draw) := ⟨rfl, rfl, rfl, by decide +kernel, rfl, by decide +kernel, by decide +kernel⟩
abbrev st_law_sign : Stmt := topS 46
abbrev ps_law_sign : List Str := ["bag"]
abbrev ns_law_sign : List Str := ["bag"]
theorem sc_law_sign : FnScope ns_law_sign ps_law_sign (defScope st_law_sign) := ⟨rfl, rfl, rfl, by decide +kernel, rfl, by decide +kernel, by decide +kernel⟩
abbrev st_law_any_row : Stmt := topS 47
abbrev ps_law_any_row : List Str := ["bag"]
abbrev ns_law_any_row : List Str := ["bag", "size", "k"]
theorem sc_law_any_row : FnScope ns_law_any_row ps_law_any_row (defScope st_law_any_row) := ⟨rfl, rfl, rfl, by decide +kernel, rfl, by decide +kernel, by decide +kernel⟩
abbrev st_law_with_one : Stmt := topS 48
abbrev ps_law_with_one : List Str := ["bag", "row", "pool"]
abbrev ns_law_with_one : List Str := ["bag", "row", "pool", "sign", "place"]
theorem sc_law_with_one : FnScope ns_law_with_one ps_law_with_one (defScope st_law_with_one) := ⟨rfl, rfl, rfl, by decide +kernel, rfl, by decide +kernel, by decide +kernel⟩
abbrev st_law_some_signs : Stmt := topS 49
abbrev ps_law_some_signs : List Str := ["bag"]
abbrev ns_law_some_signs : List Str := ["bag", "way", "told", "sign"]
theorem sc_law_some_signs : FnScope ns_law_some_signs ps_law_some_signs (defScope st_law_some_signs) := ⟨rfl, rfl, rfl, by decide +kernel, rfl, by decide +kernel, by decide +kernel⟩
abbrev st_law_tables : Stmt := topS 50
abbrev ps_law_tables : List Str := ["bag", "signs"]
abbrev ns_law_tables : List Str := ["bag", "signs", "many", "arrows", "finals", "state", "sign"]
theorem sc_law_tables : FnScope ns_law_tables ps_law_tables (defScope st_law_tables) := ⟨rfl, rfl, rfl, by decide +kernel, rfl, by decide +kernel, by decide +kernel⟩
abbrev st_law_row : Stmt := topS 51
abbrev ps_law_row : List Str := ["bag", "signs"]
abbrev ns_law_row : List Str := ["bag", "signs", "size", "k"]
theorem sc_law_row : FnScope ns_law_row ps_law_row (defScope st_law_row) := ⟨rfl, rfl, rfl, by decide +kernel, rfl, by decide +kernel, by decide +kernel⟩
abbrev st_law_holds : Stmt := topS 52
abbrev ps_law_holds : List Str := ["tables", "row"]
abbrev ns_law_holds : List Str := ["tables", "row", "state", "sign"]
theorem sc_law_holds : FnScope ns_law_holds ps_law_holds (defScope st_law_holds) := ⟨rfl, rfl, rfl, by decide +kernel, rfl, by decide +kernel, by decide +kernel⟩
abbrev st_law_due_pieces : Stmt := topS 53
abbrev ps_law_due_pieces : List Str := ["row"]
abbrev ns_law_due_pieces : List Str := ["row", "told", "sign"]
theorem sc_law_due_pieces : FnScope ns_law_due_pieces ps_law_due_pieces (defScope st_law_due_pieces) := ⟨rfl, rfl, rfl, by decide +kernel, rfl, by decide +kernel, by decide +kernel⟩
abbrev st_law_is_pieces : Stmt := topS 54
abbrev ps_law_is_pieces : List Str := ["answer", "due"]
abbrev ns_law_is_pieces : List Str := ["answer", "due", "k"]
theorem sc_law_is_pieces : FnScope ns_law_is_pieces ps_law_is_pieces (defScope st_law_is_pieces) := ⟨rfl, rfl, rfl, by decide +kernel, rfl, by decide +kernel, by decide +kernel⟩
abbrev st_law_is_truths : Stmt := topS 55
abbrev ps_law_is_truths : List Str := ["answer", "due"]
abbrev ns_law_is_truths : List Str := ["answer", "due", "k"]
theorem sc_law_is_truths : FnScope ns_law_is_truths ps_law_is_truths (defScope st_law_is_truths) := ⟨rfl, rfl, rfl, by decide +kernel, rfl, by decide +kernel, by decide +kernel⟩
abbrev st_law_pieces_fault : Stmt := topS 56
abbrev ps_law_pieces_fault : List Str := ["row"]
abbrev ns_law_pieces_fault : List Str := ["row", "e", "pure"]
theorem sc_law_pieces_fault : FnScope ns_law_pieces_fault ps_law_pieces_fault (defScope st_law_pieces_fault) := ⟨rfl, rfl, rfl, by decide +kernel, rfl, by decide +kernel, by decide +kernel⟩
abbrev st_law_gap_fault : Stmt := topS 57
abbrev ps_law_gap_fault : List Str := ["row", "gap"]
abbrev ns_law_gap_fault : List Str := ["row", "gap", "e", "pure"]
theorem sc_law_gap_fault : FnScope ns_law_gap_fault ps_law_gap_fault (defScope st_law_gap_fault) := ⟨rfl, rfl, rfl, by decide +kernel, rfl, by decide +kernel, by decide +kernel⟩
abbrev st_law_effects_fault : Stmt := topS 58
abbrev ps_law_effects_fault : List Str := ["machine", "row"]
abbrev ns_law_effects_fault : List Str := ["machine", "row", "e", "pure"]
theorem sc_law_effects_fault : FnScope ns_law_effects_fault ps_law_effects_fault (defScope st_law_effects_fault) := ⟨rfl, rfl, rfl, by decide +kernel, rfl, by decide +kernel, by decide +kernel⟩
abbrev st_law_pieces_right : Stmt := topS 59
abbrev ps_law_pieces_right : List Str := ["row", "strange", "bads"]
abbrev ns_law_pieces_right : List Str := ["row", "strange", "bads", "due", "told", "gap", "text"]
theorem sc_law_pieces_right : FnScope ns_law_pieces_right ps_law_pieces_right (defScope st_law_pieces_right) := ⟨rfl, rfl, rfl, by decide +kernel, rfl, by decide +kernel, by decide +kernel⟩
abbrev st_law_effects_right : Stmt := topS 60
abbrev ps_law_effects_right : List Str := ["machine", "tables", "row", "strange"]
abbrev ns_law_effects_right : List Str := ["machine", "tables", "row", "strange", "due", "told", "text", "gap"]
theorem sc_law_effects_right : FnScope ns_law_effects_right ps_law_effects_right (defScope st_law_effects_right) := ⟨rfl, rfl, rfl, by decide +kernel, rfl, by decide +kernel, by decide +kernel⟩
abbrev st_law : Stmt := topS 61
abbrev ps_law : List Str := ["script"]
abbrev ns_law : List Str := ["script", "bag", "row", "strange", "bads", "signs", "tables", "machine", "pool", "sign", "line"]
theorem sc_law : FnScope ns_law ps_law (defScope st_law) := ⟨rfl, rfl, rfl, by decide +kernel, rfl, by decide +kernel, by decide +kernel⟩
def d_InvalidRow_init : He5.DefA := ⟨fun K => He.ma K (He.ga K "InvalidRow") "__init__", "__init__", "InvalidRow.__init__", defArgs st_InvalidRow_init, defBody st_InvalidRow_init, defScope st_InvalidRow_init, [], []⟩
def d_InvalidPlace_init : He5.DefA := ⟨fun K => He.ma K (He.ga K "InvalidPlace") "__init__", "__init__", "InvalidPlace.__init__", defArgs st_InvalidPlace_init, defBody st_InvalidPlace_init, defScope st_InvalidPlace_init, [], []⟩
def d_InvalidMachine_init : He5.DefA := ⟨fun K => He.ma K (He.ga K "InvalidMachine") "__init__", "__init__", "InvalidMachine.__init__", defArgs st_InvalidMachine_init, defBody st_InvalidMachine_init, defScope st_InvalidMachine_init, [], []⟩
def d_is_sign_string : He5.DefA := ⟨fun K => He.ga K "is_sign_string", "is_sign_string", "is_sign_string", defArgs st_is_sign_string, defBody st_is_sign_string, defScope st_is_sign_string, [], []⟩
def d_check_row : He5.DefA := ⟨fun K => He.ga K "check_row", "check_row", "check_row", defArgs st_check_row, defBody st_check_row, defScope st_check_row, [.str "#.:ABCDabcd"], []⟩
def d_pieces : He5.DefA := ⟨fun K => He.ga K "pieces", "pieces", "pieces", defArgs st_pieces, defBody st_pieces, defScope st_pieces, [], []⟩
def d_wall_put : He5.DefA := ⟨fun K => He.ga K "wall_put", "wall_put", "wall_put", defArgs st_wall_put, defBody st_wall_put, defScope st_wall_put, [], []⟩
def d_walled : He5.DefA := ⟨fun K => He.ga K "walled", "walled", "walled", defArgs st_walled, defBody st_walled, defScope st_walled, [], []⟩
def d_wall_effects : He5.DefA := ⟨fun K => He.ga K "wall_effects", "wall_effects", "wall_effects", defArgs st_wall_effects, defBody st_wall_effects, defScope st_wall_effects, [], []⟩
def d_check_sign_string : He5.DefA := ⟨fun K => He.ga K "check_sign_string", "check_sign_string", "check_sign_string", defArgs st_check_sign_string, defBody st_check_sign_string, defScope st_check_sign_string, [], []⟩
def d_check_arrows : He5.DefA := ⟨fun K => He.ga K "check_arrows", "check_arrows", "check_arrows", defArgs st_check_arrows, defBody st_check_arrows, defScope st_check_arrows, [], []⟩
def d_state_behind : He5.DefA := ⟨fun K => He.ga K "state_behind", "state_behind", "state_behind", defArgs st_state_behind, defBody st_state_behind, defScope st_state_behind, [], []⟩
def d_Machine_init : He5.DefA := ⟨fun K => He.ma K (He.ga K "Machine") "__init__", "__init__", "Machine.__init__", defArgs st_Machine_init, defBody st_Machine_init, defScope st_Machine_init, [], []⟩
def d_Machine_state : He5.DefA := ⟨fun K => He.ma K (He.ga K "Machine") "state", "state", "Machine.state", defArgs st_Machine_state, defBody st_Machine_state, defScope st_Machine_state, [], []⟩
def d_Machine_contains : He5.DefA := ⟨fun K => He.ma K (He.ga K "Machine") "__contains__", "__contains__", "Machine.__contains__", defArgs st_Machine_contains, defBody st_Machine_contains, defScope st_Machine_contains, [], []⟩
def d_law_bag : He5.DefA := ⟨fun K => He.ga K "_law_bag", "_law_bag", "_law_bag", defArgs st_law_bag, defBody st_law_bag, defScope st_law_bag, [], []⟩
def d_law_draw : He5.DefA := ⟨fun K => He.ga K "_law_draw", "_law_draw", "_law_draw", defArgs st_law_draw, defBody st_law_draw, defScope st_law_draw, [], []⟩
def d_law_sign : He5.DefA := ⟨fun K => He.ga K "_law_sign", "_law_sign", "_law_sign", defArgs st_law_sign, defBody st_law_sign, defScope st_law_sign, [], []⟩
def d_law_any_row : He5.DefA := ⟨fun K => He.ga K "_law_any_row", "_law_any_row", "_law_any_row", defArgs st_law_any_row, defBody st_law_any_row, defScope st_law_any_row, [], []⟩
def d_law_with_one : He5.DefA := ⟨fun K => He.ga K "_law_with_one", "_law_with_one", "_law_with_one", defArgs st_law_with_one, defBody st_law_with_one, defScope st_law_with_one, [], []⟩
def d_law_some_signs : He5.DefA := ⟨fun K => He.ga K "_law_some_signs", "_law_some_signs", "_law_some_signs", defArgs st_law_some_signs, defBody st_law_some_signs, defScope st_law_some_signs, [], []⟩
def d_law_tables : He5.DefA := ⟨fun K => He.ga K "_law_tables", "_law_tables", "_law_tables", defArgs st_law_tables, defBody st_law_tables, defScope st_law_tables, [], []⟩
def d_law_row : He5.DefA := ⟨fun K => He.ga K "_law_row", "_law_row", "_law_row", defArgs st_law_row, defBody st_law_row, defScope st_law_row, [], []⟩
def d_law_holds : He5.DefA := ⟨fun K => He.ga K "_law_holds", "_law_holds", "_law_holds", defArgs st_law_holds, defBody st_law_holds, defScope st_law_holds, [], []⟩
def d_law_due_pieces : He5.DefA := ⟨fun K => He.ga K "_law_due_pieces", "_law_due_pieces", "_law_due_pieces", defArgs st_law_due_pieces, defBody st_law_due_pieces, defScope st_law_due_pieces, [], []⟩
def d_law_is_pieces : He5.DefA := ⟨fun K => He.ga K "_law_is_pieces", "_law_is_pieces", "_law_is_pieces", defArgs st_law_is_pieces, defBody st_law_is_pieces, defScope st_law_is_pieces, [], []⟩
def d_law_is_truths : He5.DefA := ⟨fun K => He.ga K "_law_is_truths", "_law_is_truths", "_law_is_truths", defArgs st_law_is_truths, defBody st_law_is_truths, defScope st_law_is_truths, [], []⟩
def d_law_pieces_fault : He5.DefA := ⟨fun K => He.ga K "_law_pieces_fault", "_law_pieces_fault", "_law_pieces_fault", defArgs st_law_pieces_fault, defBody st_law_pieces_fault, defScope st_law_pieces_fault, [], []⟩
def d_law_gap_fault : He5.DefA := ⟨fun K => He.ga K "_law_gap_fault", "_law_gap_fault", "_law_gap_fault", defArgs st_law_gap_fault, defBody st_law_gap_fault, defScope st_law_gap_fault, [], []⟩
def d_law_effects_fault : He5.DefA := ⟨fun K => He.ga K "_law_effects_fault", "_law_effects_fault", "_law_effects_fault", defArgs st_law_effects_fault, defBody st_law_effects_fault, defScope st_law_effects_fault, [], []⟩
def d_law_pieces_right : He5.DefA := ⟨fun K => He.ga K "_law_pieces_right", "_law_pieces_right", "_law_pieces_right", defArgs st_law_pieces_right, defBody st_law_pieces_right, defScope st_law_pieces_right, [], []⟩
def d_law_effects_right : He5.DefA := ⟨fun K => He.ga K "_law_effects_right", "_law_effects_right", "_law_effects_right", defArgs st_law_effects_right, defBody st_law_effects_right, defScope st_law_effects_right, [], []⟩
def d_law : He5.DefA := ⟨fun K => He.ga K "law", "law", "law", defArgs st_law, defBody st_law, defScope st_law, [], []⟩
def fn : List He5.DefA := [d_InvalidRow_init, d_InvalidPlace_init, d_InvalidMachine_init, d_is_sign_string, d_check_row, d_pieces, d_wall_put, d_walled, d_wall_effects, d_check_sign_string, d_check_arrows, d_state_behind, d_Machine_init, d_Machine_state, d_Machine_contains, d_law_bag, d_law_draw, d_law_sign, d_law_any_row, d_law_with_one, d_law_some_signs, d_law_tables, d_law_row, d_law_holds, d_law_due_pieces, d_law_is_pieces, d_law_is_truths, d_law_pieces_fault, d_law_gap_fault, d_law_effects_fault, d_law_pieces_right, d_law_effects_right, d_law]
def fa : List He.Fa := [.glo "_wall", .glo "LeapError", .glo "InvalidRow", .glo "InvalidPlace", .glo "InvalidMachine", .glo "Unlike", .str "SIGNS" "#.:ABCDabcd", .glo "is_sign_string", .glo "check_row", .glo "pieces", .glo "wall_put", .glo "walled", .glo "wall_effects", .glo "check_sign_string", .glo "check_alike", .glo "numbered", .glo "sources", .glo "without_gaps", .glo "classes_of", .glo "least_form", .glo "paired", .glo "least_way", .glo "way_to", .str "DIGITS" "0123456789", .glo "IN_BOTH", .glo "IN_ANY", .glo "IN_FIRST_ONLY", .glo "IN_ONE", .glo "check_arrows", .glo "state_behind", .glo "final_flags", .glo "least_machine", .glo "least_row", .glo "read_both", .glo "combined", .glo "read_number", .glo "Machine", .glo "_law_bag", .glo "_law_draw", .glo "_law_sign", .glo "_law_any_row", .glo "_law_with_one", .glo "_law_some_signs", .glo "_law_tables", .glo "_law_row", .glo "_law_holds", .glo "_law_due_pieces", .glo "_law_is_pieces", .glo "_law_is_truths", .glo "_law_pieces_fault", .glo "_law_gap_fault", .glo "_law_effects_fault", .glo "_law_pieces_right", .glo "_law_effects_right", .glo "law", .cls "Machine", .mkr "Machine", .noat "Machine" "signs", .noat "Machine" "arrows", .noat "Machine" "finals", .meth "Machine" "state", .meth "Machine" "least", .meth "Machine" "first", .meth "Machine" "walk", .meth "Machine" "how_many", .meth "Machine" "is_endless", .meth "Machine" "__contains__", .meth "Machine" "__eq__", .meth "Machine" "__and__", .meth "Machine" "__or__", .meth "Machine" "__sub__", .meth "Machine" "__xor__", .meth "Machine" "__invert__", .meth "Machine" "__str__", .free "len", .free "range", .free "enumerate", .free "zip", .free "sum", .free "sorted", .free "int", .free "str", .free "bool", .free "list", .free "tuple", .free "set", .free "isinstance", .free "any", .free "all", .free "ValueError"]
def ts : List He.Tab := []
def exs (K : PySem.W.Frag) : List Bool := [topB K, errB K "InvalidRow" "row", errB K "InvalidPlace" "place", errB K "InvalidMachine" "part", errB K "Unlike" "signs", kitB K "InvalidRow" "InvalidRow" true, kitB K "InvalidRow" "InvalidPlace" false, kitB K "InvalidRow" "InvalidMachine" false, kitB K "InvalidRow" "Machine" false, kitB K "InvalidPlace" "InvalidRow" false, kitB K "InvalidPlace" "InvalidPlace" true, kitB K "InvalidPlace" "InvalidMachine" false, kitB K "InvalidPlace" "Machine" false, kitB K "InvalidMachine" "InvalidRow" false, kitB K "InvalidMachine" "InvalidPlace" false, kitB K "InvalidMachine" "InvalidMachine" true, kitB K "InvalidMachine" "Machine" false, kitB K "Unlike" "InvalidRow" false, kitB K "Unlike" "InvalidPlace" false, kitB K "Unlike" "InvalidMachine" false, kitB K "Unlike" "Machine" false, kitB K "Machine" "Machine" true, clsB K "Machine", excB K (He.ga K "InvalidRow"), excB K (He.ga K "InvalidMachine"), excB K (He.ga K "InvalidPlace"), decide (PySem.W.exmOne K (.ref (He.ga K "InvalidRow")) (.ref (He.ga K "InvalidRow")) = some true), decide (PySem.W.exmOne K (.ref (He.ga K "InvalidRow")) (.ref (He.ga K "InvalidMachine")) = some false), decide (PySem.W.exmOne K (.ref (He.ga K "InvalidRow")) (.ref (He.ga K "InvalidPlace")) = some false), decide (PySem.W.exmOne K (.ref (He.ga K "InvalidRow")) (.ref (He.ga K "LeapError")) = some true), decide (PySem.W.exmOne K (.ref (He.ga K "InvalidMachine")) (.ref (He.ga K "InvalidRow")) = some false), decide (PySem.W.exmOne K (.ref (He.ga K "InvalidMachine")) (.ref (He.ga K "InvalidMachine")) = some true), decide (PySem.W.exmOne K (.ref (He.ga K "InvalidMachine")) (.ref (He.ga K "InvalidPlace")) = some false), decide (PySem.W.exmOne K (.ref (He.ga K "InvalidMachine")) (.ref (He.ga K "LeapError")) = some true), decide (PySem.W.exmOne K (.ref (He.ga K "InvalidPlace")) (.ref (He.ga K "InvalidRow")) = some false), decide (PySem.W.exmOne K (.ref (He.ga K "InvalidPlace")) (.ref (He.ga K "InvalidMachine")) = some false), decide (PySem.W.exmOne K (.ref (He.ga K "InvalidPlace")) (.ref (He.ga K "InvalidPlace")) = some true), decide (PySem.W.exmOne K (.ref (He.ga K "InvalidPlace")) (.ref (He.ga K "LeapError")) = some true), decide (PySem.W.kitOne K (.ref (He.ga K "InvalidRow")) (.type "ValueError") = some true), decide (PySem.W.kitOne K (.ref (He.ga K "InvalidMachine")) (.type "ValueError") = some true), decide (PySem.W.kitOne K (.ref (He.ga K "InvalidPlace")) (.type "ValueError") = some true), kitB K "InvalidRow" "LeapError" true, kitB K "InvalidMachine" "LeapError" true, kitB K "InvalidPlace" "LeapError" true]
def ex (K : PySem.W.Frag) : Bool := (exs K).all id
def names0 : List PySem.Str := ["_wall", "LeapError", "InvalidRow", "InvalidPlace", "InvalidMachine", "Unlike", "SIGNS", "is_sign_string", "check_row", "pieces", "wall_put", "walled", "wall_effects", "check_sign_string"]
def names1 : List PySem.Str := ["check_alike", "numbered", "sources", "without_gaps", "classes_of", "least_form", "paired", "least_way", "way_to", "DIGITS", "IN_BOTH", "IN_ANY", "IN_FIRST_ONLY", "IN_ONE"]
def names2 : List PySem.Str := ["check_arrows", "state_behind", "final_flags", "least_machine", "least_row", "read_both", "combined", "read_number", "Machine", "_law_bag", "_law_draw", "_law_sign", "_law_any_row", "_law_with_one"]
def names3 : List PySem.Str := ["_law_some_signs", "_law_tables", "_law_row", "_law_holds", "_law_due_pieces", "_law_is_pieces", "_law_is_truths", "_law_pieces_fault", "_law_gap_fault", "_law_effects_fault", "_law_pieces_right", "_law_effects_right"]
def names : List PySem.Str := names0 ++ names1 ++ names2 ++ names3

end K49
namespace K49
open PySem PySem.Spec PyProof.Rows L2 Lc
structure Tx (K : PySem.W.Frag) (mg : Str → Option Value) (w : World) : Prop where
  mk ::
  h : ∃ hp : Heap, K.In hp ∧ hp.Ns mainGlobals mg
  c : SaysM fa fn ts ex w K
section
variable {K : PySem.W.Frag} {mg : Str → Option Value} {w : World}
theorem m_wall (T : Tx K mg w) : mg "_wall" = some (.ref (He.ga K "_wall")) := by obtain ⟨⟨hp, X, G⟩, c⟩ := T; exact He.glo_ok X G (c.a.fact 0 (f := .glo "_wall") rfl)
theorem m_LeapError (T : Tx K mg w) : mg "LeapError" = some (.ref (He.ga K "LeapError")) := by obtain ⟨⟨hp, X, G⟩, c⟩ := T; exact He.glo_ok X G (c.a.fact 1 (f := .glo "LeapError") rfl)
theorem m_InvalidRow (T : Tx K mg w) : mg "InvalidRow" = some (.ref (He.ga K "InvalidRow")) := by obtain ⟨⟨hp, X, G⟩, c⟩ := T; exact He.glo_ok X G (c.a.fact 2 (f := .glo "InvalidRow") rfl)
theorem m_InvalidPlace (T : Tx K mg w) : mg "InvalidPlace" = some (.ref (He.ga K "InvalidPlace")) := by obtain ⟨⟨hp, X, G⟩, c⟩ := T; exact He.glo_ok X G (c.a.fact 3 (f := .glo "InvalidPlace") rfl)
theorem m_InvalidMachine (T : Tx K mg w) : mg "InvalidMachine" = some (.ref (He.ga K "InvalidMachine")) := by obtain ⟨⟨hp, X, G⟩, c⟩ := T; exact He.glo_ok X G (c.a.fact 4 (f := .glo "InvalidMachine") rfl)
theorem m_Unlike (T : Tx K mg w) : mg "Unlike" = some (.ref (He.ga K "Unlike")) := by obtain ⟨⟨hp, X, G⟩, c⟩ := T; exact He.glo_ok X G (c.a.fact 5 (f := .glo "Unlike") rfl)
theorem m_SIGNS (T : Tx K mg w) : ∃ t, mg "SIGNS" = some (.str "#.:ABCDabcd" t) := by obtain ⟨⟨hp, X, G⟩, c⟩ := T; exact He.str_ok X G (c.a.fact 6 (f := .str "SIGNS" "#.:ABCDabcd") rfl)
theorem m_is_sign_string (T : Tx K mg w) : mg "is_sign_string" = some (.ref (He.ga K "is_sign_string")) := by obtain ⟨⟨hp, X, G⟩, c⟩ := T; exact He.glo_ok X G (c.a.fact 7 (f := .glo "is_sign_string") rfl)
theorem m_check_row (T : Tx K mg w) : mg "check_row" = some (.ref (He.ga K "check_row")) := by obtain ⟨⟨hp, X, G⟩, c⟩ := T; exact He.glo_ok X G (c.a.fact 8 (f := .glo "check_row") rfl)
theorem m_pieces (T : Tx K mg w) : mg "pieces" = some (.ref (He.ga K "pieces")) := by obtain ⟨⟨hp, X, G⟩, c⟩ := T; exact He.glo_ok X G (c.a.fact 9 (f := .glo "pieces") rfl)
theorem m_wall_put (T : Tx K mg w) : mg "wall_put" = some (.ref (He.ga K "wall_put")) := by obtain ⟨⟨hp, X, G⟩, c⟩ := T; exact He.glo_ok X G (c.a.fact 10 (f := .glo "wall_put") rfl)
theorem m_walled (T : Tx K mg w) : mg "walled" = some (.ref (He.ga K "walled")) := by obtain ⟨⟨hp, X, G⟩, c⟩ := T; exact He.glo_ok X G (c.a.fact 11 (f := .glo "walled") rfl)
theorem m_wall_effects (T : Tx K mg w) : mg "wall_effects" = some (.ref (He.ga K "wall_effects")) := by obtain ⟨⟨hp, X, G⟩, c⟩ := T; exact He.glo_ok X G (c.a.fact 12 (f := .glo "wall_effects") rfl)
theorem m_check_sign_string (T : Tx K mg w) : mg "check_sign_string" = some (.ref (He.ga K "check_sign_string")) := by obtain ⟨⟨hp, X, G⟩, c⟩ := T; exact He.glo_ok X G (c.a.fact 13 (f := .glo "check_sign_string") rfl)
theorem m_check_alike (T : Tx K mg w) : mg "check_alike" = some (.ref (He.ga K "check_alike")) := by obtain ⟨⟨hp, X, G⟩, c⟩ := T; exact He.glo_ok X G (c.a.fact 14 (f := .glo "check_alike") rfl)
theorem m_numbered (T : Tx K mg w) : mg "numbered" = some (.ref (He.ga K "numbered")) := by obtain ⟨⟨hp, X, G⟩, c⟩ := T; exact He.glo_ok X G (c.a.fact 15 (f := .glo "numbered") rfl)
theorem m_sources (T : Tx K mg w) : mg "sources" = some (.ref (He.ga K "sources")) := by obtain ⟨⟨hp, X, G⟩, c⟩ := T; exact He.glo_ok X G (c.a.fact 16 (f := .glo "sources") rfl)
theorem m_without_gaps (T : Tx K mg w) : mg "without_gaps" = some (.ref (He.ga K "without_gaps")) := by obtain ⟨⟨hp, X, G⟩, c⟩ := T; exact He.glo_ok X G (c.a.fact 17 (f := .glo "without_gaps") rfl)
theorem m_classes_of (T : Tx K mg w) : mg "classes_of" = some (.ref (He.ga K "classes_of")) := by obtain ⟨⟨hp, X, G⟩, c⟩ := T; exact He.glo_ok X G (c.a.fact 18 (f := .glo "classes_of") rfl)
theorem m_least_form (T : Tx K mg w) : mg "least_form" = some (.ref (He.ga K "least_form")) := by obtain ⟨⟨hp, X, G⟩, c⟩ := T; exact He.glo_ok X G (c.a.fact 19 (f := .glo "least_form") rfl)
theorem m_paired (T : Tx K mg w) : mg "paired" = some (.ref (He.ga K "paired")) := by obtain ⟨⟨hp, X, G⟩, c⟩ := T; exact He.glo_ok X G (c.a.fact 20 (f := .glo "paired") rfl)
theorem m_least_way (T : Tx K mg w) : mg "least_way" = some (.ref (He.ga K "least_way")) := by obtain ⟨⟨hp, X, G⟩, c⟩ := T; exact He.glo_ok X G (c.a.fact 21 (f := .glo "least_way") rfl)
theorem m_way_to (T : Tx K mg w) : mg "way_to" = some (.ref (He.ga K "way_to")) := by obtain ⟨⟨hp, X, G⟩, c⟩ := T; exact He.glo_ok X G (c.a.fact 22 (f := .glo "way_to") rfl)
theorem m_DIGITS (T : Tx K mg w) : ∃ t, mg "DIGITS" = some (.str "0123456789" t) := by obtain ⟨⟨hp, X, G⟩, c⟩ := T; exact He.str_ok X G (c.a.fact 23 (f := .str "DIGITS" "0123456789") rfl)
theorem m_IN_BOTH (T : Tx K mg w) : mg "IN_BOTH" = some (.ref (He.ga K "IN_BOTH")) := by obtain ⟨⟨hp, X, G⟩, c⟩ := T; exact He.glo_ok X G (c.a.fact 24 (f := .glo "IN_BOTH") rfl)
theorem m_IN_ANY (T : Tx K mg w) : mg "IN_ANY" = some (.ref (He.ga K "IN_ANY")) := by obtain ⟨⟨hp, X, G⟩, c⟩ := T; exact He.glo_ok X G (c.a.fact 25 (f := .glo "IN_ANY") rfl)
theorem m_IN_FIRST_ONLY (T : Tx K mg w) : mg "IN_FIRST_ONLY" = some (.ref (He.ga K "IN_FIRST_ONLY")) := by obtain ⟨⟨hp, X, G⟩, c⟩ := T; exact He.glo_ok X G (c.a.fact 26 (f := .glo "IN_FIRST_ONLY") rfl)
theorem m_IN_ONE (T : Tx K mg w) : mg "IN_ONE" = some (.ref (He.ga K "IN_ONE")) := by obtain ⟨⟨hp, X, G⟩, c⟩ := T; exact He.glo_ok X G (c.a.fact 27 (f := .glo "IN_ONE") rfl)
theorem m_check_arrows (T : Tx K mg w) : mg "check_arrows" = some (.ref (He.ga K "check_arrows")) := by obtain ⟨⟨hp, X, G⟩, c⟩ := T; exact He.glo_ok X G (c.a.fact 28 (f := .glo "check_arrows") rfl)
theorem m_state_behind (T : Tx K mg w) : mg "state_behind" = some (.ref (He.ga K "state_behind")) := by obtain ⟨⟨hp, X, G⟩, c⟩ := T; exact He.glo_ok X G (c.a.fact 29 (f := .glo "state_behind") rfl)
theorem m_final_flags (T : Tx K mg w) : mg "final_flags" = some (.ref (He.ga K "final_flags")) := by obtain ⟨⟨hp, X, G⟩, c⟩ := T; exact He.glo_ok X G (c.a.fact 30 (f := .glo "final_flags") rfl)
theorem m_least_machine (T : Tx K mg w) : mg "least_machine" = some (.ref (He.ga K "least_machine")) := by obtain ⟨⟨hp, X, G⟩, c⟩ := T; exact He.glo_ok X G (c.a.fact 31 (f := .glo "least_machine") rfl)
theorem m_least_row (T : Tx K mg w) : mg "least_row" = some (.ref (He.ga K "least_row")) := by obtain ⟨⟨hp, X, G⟩, c⟩ := T; exact He.glo_ok X G (c.a.fact 32 (f := .glo "least_row") rfl)
theorem m_read_both (T : Tx K mg w) : mg "read_both" = some (.ref (He.ga K "read_both")) := by obtain ⟨⟨hp, X, G⟩, c⟩ := T; exact He.glo_ok X G (c.a.fact 33 (f := .glo "read_both") rfl)
theorem m_combined (T : Tx K mg w) : mg "combined" = some (.ref (He.ga K "combined")) := by obtain ⟨⟨hp, X, G⟩, c⟩ := T; exact He.glo_ok X G (c.a.fact 34 (f := .glo "combined") rfl)
theorem m_read_number (T : Tx K mg w) : mg "read_number" = some (.ref (He.ga K "read_number")) := by obtain ⟨⟨hp, X, G⟩, c⟩ := T; exact He.glo_ok X G (c.a.fact 35 (f := .glo "read_number") rfl)
theorem m_Machine (T : Tx K mg w) : mg "Machine" = some (.ref (He.ga K "Machine")) := by obtain ⟨⟨hp, X, G⟩, c⟩ := T; exact He.glo_ok X G (c.a.fact 36 (f := .glo "Machine") rfl)
theorem m_law_bag (T : Tx K mg w) : mg "_law_bag" = some (.ref (He.ga K "_law_bag")) := by obtain ⟨⟨hp, X, G⟩, c⟩ := T; exact He.glo_ok X G (c.a.fact 37 (f := .glo "_law_bag") rfl)
theorem m_law_draw (T : Tx K mg w) : mg "_law_draw" = some (.ref (He.ga K "_law_draw")) := by obtain ⟨⟨hp, X, G⟩, c⟩ := T; exact He.glo_ok X G (c.a.fact 38 (f := .glo "_law_draw") rfl)
theorem m_law_sign (T : Tx K mg w) : mg "_law_sign" = some (.ref (He.ga K "_law_sign")) := by obtain ⟨⟨hp, X, G⟩, c⟩ := T; exact He.glo_ok X G (c.a.fact 39 (f := .glo "_law_sign") rfl)
theorem m_law_any_row (T : Tx K mg w) : mg "_law_any_row" = some (.ref (He.ga K "_law_any_row")) := by obtain ⟨⟨hp, X, G⟩, c⟩ := T; exact He.glo_ok X G (c.a.fact 40 (f := .glo "_law_any_row") rfl)
theorem m_law_with_one (T : Tx K mg w) : mg "_law_with_one" = some (.ref (He.ga K "_law_with_one")) := by obtain ⟨⟨hp, X, G⟩, c⟩ := T; exact He.glo_ok X G (c.a.fact 41 (f := .glo "_law_with_one") rfl)
theorem m_law_some_signs (T : Tx K mg w) : mg "_law_some_signs" = some (.ref (He.ga K "_law_some_signs")) := by obtain ⟨⟨hp, X, G⟩, c⟩ := T; exact He.glo_ok X G (c.a.fact 42 (f := .glo "_law_some_signs") rfl)
theorem m_law_tables (T : Tx K mg w) : mg "_law_tables" = some (.ref (He.ga K "_law_tables")) := by obtain ⟨⟨hp, X, G⟩, c⟩ := T; exact He.glo_ok X G (c.a.fact 43 (f := .glo "_law_tables") rfl)
theorem m_law_row (T : Tx K mg w) : mg "_law_row" = some (.ref (He.ga K "_law_row")) := by obtain ⟨⟨hp, X, G⟩, c⟩ := T; exact He.glo_ok X G (c.a.fact 44 (f := .glo "_law_row") rfl)
theorem m_law_holds (T : Tx K mg w) : mg "_law_holds" = some (.ref (He.ga K "_law_holds")) := by obtain ⟨⟨hp, X, G⟩, c⟩ := T; exact He.glo_ok X G (c.a.fact 45 (f := .glo "_law_holds") rfl)
theorem m_law_due_pieces (T : Tx K mg w) : mg "_law_due_pieces" = some (.ref (He.ga K "_law_due_pieces")) := by obtain ⟨⟨hp, X, G⟩, c⟩ := T; exact He.glo_ok X G (c.a.fact 46 (f := .glo "_law_due_pieces") rfl)
theorem m_law_is_pieces (T : Tx K mg w) : mg "_law_is_pieces" = some (.ref (He.ga K "_law_is_pieces")) := by obtain ⟨⟨hp, X, G⟩, c⟩ := T; exact He.glo_ok X G (c.a.fact 47 (f := .glo "_law_is_pieces") rfl)
theorem m_law_is_truths (T : Tx K mg w) : mg "_law_is_truths" = some (.ref (He.ga K "_law_is_truths")) := by obtain ⟨⟨hp, X, G⟩, c⟩ := T; exact He.glo_ok X G (c.a.fact 48 (f := .glo "_law_is_truths") rfl)
theorem m_law_pieces_fault (T : Tx K mg w) : mg "_law_pieces_fault" = some (.ref (He.ga K "_law_pieces_fault")) := by obtain ⟨⟨hp, X, G⟩, c⟩ := T; exact He.glo_ok X G (c.a.fact 49 (f := .glo "_law_pieces_fault") rfl)
theorem m_law_gap_fault (T : Tx K mg w) : mg "_law_gap_fault" = some (.ref (He.ga K "_law_gap_fault")) := by obtain ⟨⟨hp, X, G⟩, c⟩ := T; exact He.glo_ok X G (c.a.fact 50 (f := .glo "_law_gap_fault") rfl)
theorem m_law_effects_fault (T : Tx K mg w) : mg "_law_effects_fault" = some (.ref (He.ga K "_law_effects_fault")) := by obtain ⟨⟨hp, X, G⟩, c⟩ := T; exact He.glo_ok X G (c.a.fact 51 (f := .glo "_law_effects_fault") rfl)
theorem m_law_pieces_right (T : Tx K mg w) : mg "_law_pieces_right" = some (.ref (He.ga K "_law_pieces_right")) := by obtain ⟨⟨hp, X, G⟩, c⟩ := T; exact He.glo_ok X G (c.a.fact 52 (f := .glo "_law_pieces_right") rfl)
theorem m_law_effects_right (T : Tx K mg w) : mg "_law_effects_right" = some (.ref (He.ga K "_law_effects_right")) := by obtain ⟨⟨hp, X, G⟩, c⟩ := T; exact He.glo_ok X G (c.a.fact 53 (f := .glo "_law_effects_right") rfl)
theorem m_law (T : Tx K mg w) : mg "law" = some (.ref (He.ga K "law")) := by obtain ⟨⟨hp, X, G⟩, c⟩ := T; exact He.glo_ok X G (c.a.fact 54 (f := .glo "law") rfl)
theorem c_Machine (T : Tx K mg w) : Cls K (He.ga K "Machine") := He.cls_ok (T.c.a.fact 55 (f := .cls "Machine") rfl)
theorem mk_Machine (T : Tx K mg w) : Mk K (He.ga K "Machine") (He.ma K (He.ga K "Machine") "__init__") := He.mkr_ok (T.c.a.fact 56 (f := .mkr "Machine") rfl)
theorem n_Machine_signs (T : Tx K mg w) : NoAttr K (He.ga K "Machine") "signs" := He.noat_ok (T.c.a.fact 57 (f := .noat "Machine" "signs") rfl)
theorem n_Machine_arrows (T : Tx K mg w) : NoAttr K (He.ga K "Machine") "arrows" := He.noat_ok (T.c.a.fact 58 (f := .noat "Machine" "arrows") rfl)
theorem n_Machine_finals (T : Tx K mg w) : NoAttr K (He.ga K "Machine") "finals" := He.noat_ok (T.c.a.fact 59 (f := .noat "Machine" "finals") rfl)
theorem me_Machine_state (T : Tx K mg w) : Meth K (He.ga K "Machine") "state" (He.ma K (He.ga K "Machine") "state") := He.meth_ok (T.c.a.fact 60 (f := .meth "Machine" "state") rfl)
theorem me_Machine_least (T : Tx K mg w) : Meth K (He.ga K "Machine") "least" (He.ma K (He.ga K "Machine") "least") := He.meth_ok (T.c.a.fact 61 (f := .meth "Machine" "least") rfl)
theorem me_Machine_first (T : Tx K mg w) : Meth K (He.ga K "Machine") "first" (He.ma K (He.ga K "Machine") "first") := He.meth_ok (T.c.a.fact 62 (f := .meth "Machine" "first") rfl)
theorem me_Machine_walk (T : Tx K mg w) : Meth K (He.ga K "Machine") "walk" (He.ma K (He.ga K "Machine") "walk") := He.meth_ok (T.c.a.fact 63 (f := .meth "Machine" "walk") rfl)
theorem me_Machine_how_many (T : Tx K mg w) : Meth K (He.ga K "Machine") "how_many" (He.ma K (He.ga K "Machine") "how_many") := He.meth_ok (T.c.a.fact 64 (f := .meth "Machine" "how_many") rfl)
theorem me_Machine_is_endless (T : Tx K mg w) : Meth K (He.ga K "Machine") "is_endless" (He.ma K (He.ga K "Machine") "is_endless") := He.meth_ok (T.c.a.fact 65 (f := .meth "Machine" "is_endless") rfl)
theorem me_Machine_contains (T : Tx K mg w) : Meth K (He.ga K "Machine") "__contains__" (He.ma K (He.ga K "Machine") "__contains__") := He.meth_ok (T.c.a.fact 66 (f := .meth "Machine" "__contains__") rfl)
theorem me_Machine_eq (T : Tx K mg w) : Meth K (He.ga K "Machine") "__eq__" (He.ma K (He.ga K "Machine") "__eq__") := He.meth_ok (T.c.a.fact 67 (f := .meth "Machine" "__eq__") rfl)
theorem me_Machine_and (T : Tx K mg w) : Meth K (He.ga K "Machine") "__and__" (He.ma K (He.ga K "Machine") "__and__") := He.meth_ok (T.c.a.fact 68 (f := .meth "Machine" "__and__") rfl)
theorem me_Machine_or (T : Tx K mg w) : Meth K (He.ga K "Machine") "__or__" (He.ma K (He.ga K "Machine") "__or__") := He.meth_ok (T.c.a.fact 69 (f := .meth "Machine" "__or__") rfl)
theorem me_Machine_sub (T : Tx K mg w) : Meth K (He.ga K "Machine") "__sub__" (He.ma K (He.ga K "Machine") "__sub__") := He.meth_ok (T.c.a.fact 70 (f := .meth "Machine" "__sub__") rfl)
theorem me_Machine_xor (T : Tx K mg w) : Meth K (He.ga K "Machine") "__xor__" (He.ma K (He.ga K "Machine") "__xor__") := He.meth_ok (T.c.a.fact 71 (f := .meth "Machine" "__xor__") rfl)
theorem me_Machine_invert (T : Tx K mg w) : Meth K (He.ga K "Machine") "__invert__" (He.ma K (He.ga K "Machine") "__invert__") := He.meth_ok (T.c.a.fact 72 (f := .meth "Machine" "__invert__") rfl)
theorem me_Machine_str (T : Tx K mg w) : Meth K (He.ga K "Machine") "__str__" (He.ma K (He.ga K "Machine") "__str__") := He.meth_ok (T.c.a.fact 73 (f := .meth "Machine" "__str__") rfl)
theorem m_len (T : Tx K mg w) : mg "len" = none := by obtain ⟨⟨hp, X, G⟩, c⟩ := T; exact He.free_ok X G (c.a.fact 74 (f := .free "len") rfl)
theorem m_range (T : Tx K mg w) : mg "range" = none := by obtain ⟨⟨hp, X, G⟩, c⟩ := T; exact He.free_ok X G (c.a.fact 75 (f := .free "range") rfl)
theorem m_enumerate (T : Tx K mg w) : mg "enumerate" = none := by obtain ⟨⟨hp, X, G⟩, c⟩ := T; exact He.free_ok X G (c.a.fact 76 (f := .free "enumerate") rfl)
theorem m_zip (T : Tx K mg w) : mg "zip" = none := by obtain ⟨⟨hp, X, G⟩, c⟩ := T; exact He.free_ok X G (c.a.fact 77 (f := .free "zip") rfl)
theorem m_sum (T : Tx K mg w) : mg "sum" = none := by obtain ⟨⟨hp, X, G⟩, c⟩ := T; exact He.free_ok X G (c.a.fact 78 (f := .free "sum") rfl)
theorem m_sorted (T : Tx K mg w) : mg "sorted" = none := by obtain ⟨⟨hp, X, G⟩, c⟩ := T; exact He.free_ok X G (c.a.fact 79 (f := .free "sorted") rfl)
theorem m_int (T : Tx K mg w) : mg "int" = none := by obtain ⟨⟨hp, X, G⟩, c⟩ := T; exact He.free_ok X G (c.a.fact 80 (f := .free "int") rfl)
theorem m_str (T : Tx K mg w) : mg "str" = none := by obtain ⟨⟨hp, X, G⟩, c⟩ := T; exact He.free_ok X G (c.a.fact 81 (f := .free "str") rfl)
theorem m_bool (T : Tx K mg w) : mg "bool" = none := by obtain ⟨⟨hp, X, G⟩, c⟩ := T; exact He.free_ok X G (c.a.fact 82 (f := .free "bool") rfl)
theorem m_list (T : Tx K mg w) : mg "list" = none := by obtain ⟨⟨hp, X, G⟩, c⟩ := T; exact He.free_ok X G (c.a.fact 83 (f := .free "list") rfl)
theorem m_tuple (T : Tx K mg w) : mg "tuple" = none := by obtain ⟨⟨hp, X, G⟩, c⟩ := T; exact He.free_ok X G (c.a.fact 84 (f := .free "tuple") rfl)
theorem m_set (T : Tx K mg w) : mg "set" = none := by obtain ⟨⟨hp, X, G⟩, c⟩ := T; exact He.free_ok X G (c.a.fact 85 (f := .free "set") rfl)
theorem m_isinstance (T : Tx K mg w) : mg "isinstance" = none := by obtain ⟨⟨hp, X, G⟩, c⟩ := T; exact He.free_ok X G (c.a.fact 86 (f := .free "isinstance") rfl)
theorem m_any (T : Tx K mg w) : mg "any" = none := by obtain ⟨⟨hp, X, G⟩, c⟩ := T; exact He.free_ok X G (c.a.fact 87 (f := .free "any") rfl)
theorem m_all (T : Tx K mg w) : mg "all" = none := by obtain ⟨⟨hp, X, G⟩, c⟩ := T; exact He.free_ok X G (c.a.fact 88 (f := .free "all") rfl)
theorem m_ValueError (T : Tx K mg w) : mg "ValueError" = none := by obtain ⟨⟨hp, X, G⟩, c⟩ := T; exact He.free_ok X G (c.a.fact 89 (f := .free "ValueError") rfl)
theorem exAt (T : Tx K mg w) (i : Nat) {b : Bool} (h : (exs K)[i]? = some b) : b = true := List.all_eq_true.mp T.c.e b (List.mem_of_getElem? h)
theorem x_InvalidRow (T : Tx K mg w) : XF K "InvalidRow" "row" := errB_ok (exAt T 0 rfl) (exAt T 1 rfl)
theorem x_InvalidPlace (T : Tx K mg w) : XF K "InvalidPlace" "place" := errB_ok (exAt T 0 rfl) (exAt T 2 rfl)
theorem x_InvalidMachine (T : Tx K mg w) : XF K "InvalidMachine" "part" := errB_ok (exAt T 0 rfl) (exAt T 3 rfl)
theorem x_Unlike (T : Tx K mg w) : XF K "Unlike" "signs" := errB_ok (exAt T 0 rfl) (exAt T 4 rfl)
theorem kit_InvalidRow_InvalidRow (T : Tx K mg w) : PySem.W.kitOne K (.ref (He.ga K "InvalidRow")) (.ref (He.ga K "InvalidRow")) = some true := kitB_ok (exAt T 5 rfl)
theorem kit_InvalidRow_InvalidPlace (T : Tx K mg w) : PySem.W.kitOne K (.ref (He.ga K "InvalidRow")) (.ref (He.ga K "InvalidPlace")) = some false := kitB_ok (exAt T 6 rfl)
theorem kit_InvalidRow_InvalidMachine (T : Tx K mg w) : PySem.W.kitOne K (.ref (He.ga K "InvalidRow")) (.ref (He.ga K "InvalidMachine")) = some false := kitB_ok (exAt T 7 rfl)
theorem kit_InvalidRow_Machine (T : Tx K mg w) : PySem.W.kitOne K (.ref (He.ga K "InvalidRow")) (.ref (He.ga K "Machine")) = some false := kitB_ok (exAt T 8 rfl)
theorem kit_InvalidPlace_InvalidRow (T : Tx K mg w) : PySem.W.kitOne K (.ref (He.ga K "InvalidPlace")) (.ref (He.ga K "InvalidRow")) = some false := kitB_ok (exAt T 9 rfl)
theorem kit_InvalidPlace_InvalidPlace (T : Tx K mg w) : PySem.W.kitOne K (.ref (He.ga K "InvalidPlace")) (.ref (He.ga K "InvalidPlace")) = some true := kitB_ok (exAt T 10 rfl)
theorem kit_InvalidPlace_InvalidMachine (T : Tx K mg w) : PySem.W.kitOne K (.ref (He.ga K "InvalidPlace")) (.ref (He.ga K "InvalidMachine")) = some false := kitB_ok (exAt T 11 rfl)
theorem kit_InvalidPlace_Machine (T : Tx K mg w) : PySem.W.kitOne K (.ref (He.ga K "InvalidPlace")) (.ref (He.ga K "Machine")) = some false := kitB_ok (exAt T 12 rfl)
theorem kit_InvalidMachine_InvalidRow (T : Tx K mg w) : PySem.W.kitOne K (.ref (He.ga K "InvalidMachine")) (.ref (He.ga K "InvalidRow")) = some false := kitB_ok (exAt T 13 rfl)
theorem kit_InvalidMachine_InvalidPlace (T : Tx K mg w) : PySem.W.kitOne K (.ref (He.ga K "InvalidMachine")) (.ref (He.ga K "InvalidPlace")) = some false := kitB_ok (exAt T 14 rfl)
theorem kit_InvalidMachine_InvalidMachine (T : Tx K mg w) : PySem.W.kitOne K (.ref (He.ga K "InvalidMachine")) (.ref (He.ga K "InvalidMachine")) = some true := kitB_ok (exAt T 15 rfl)
theorem kit_InvalidMachine_Machine (T : Tx K mg w) : PySem.W.kitOne K (.ref (He.ga K "InvalidMachine")) (.ref (He.ga K "Machine")) = some false := kitB_ok (exAt T 16 rfl)
theorem kit_Unlike_InvalidRow (T : Tx K mg w) : PySem.W.kitOne K (.ref (He.ga K "Unlike")) (.ref (He.ga K "InvalidRow")) = some false := kitB_ok (exAt T 17 rfl)
theorem kit_Unlike_InvalidPlace (T : Tx K mg w) : PySem.W.kitOne K (.ref (He.ga K "Unlike")) (.ref (He.ga K "InvalidPlace")) = some false := kitB_ok (exAt T 18 rfl)
theorem kit_Unlike_InvalidMachine (T : Tx K mg w) : PySem.W.kitOne K (.ref (He.ga K "Unlike")) (.ref (He.ga K "InvalidMachine")) = some false := kitB_ok (exAt T 19 rfl)
theorem kit_Unlike_Machine (T : Tx K mg w) : PySem.W.kitOne K (.ref (He.ga K "Unlike")) (.ref (He.ga K "Machine")) = some false := kitB_ok (exAt T 20 rfl)
theorem kit_Machine_Machine (T : Tx K mg w) : PySem.W.kitOne K (.ref (He.ga K "Machine")) (.ref (He.ga K "Machine")) = some true := kitB_ok (exAt T 21 rfl)
theorem cr_Machine (T : Tx K mg w) : ClX.CRead K (He.ga K "Machine") (.type "type") := clsB_ok (exAt T 22 rfl)
theorem kit_InvalidRow_LeapError (T : Tx K mg w) : PySem.W.kitOne K (.ref (He.ga K "InvalidRow")) (.ref (He.ga K "LeapError")) = some true := kitB_ok (exAt T 41 rfl)
theorem kit_InvalidMachine_LeapError (T : Tx K mg w) : PySem.W.kitOne K (.ref (He.ga K "InvalidMachine")) (.ref (He.ga K "LeapError")) = some true := kitB_ok (exAt T 42 rfl)
theorem kit_InvalidPlace_LeapError (T : Tx K mg w) : PySem.W.kitOne K (.ref (He.ga K "InvalidPlace")) (.ref (He.ga K "LeapError")) = some true := kitB_ok (exAt T 43 rfl)
theorem h_InvalidRow_init (T : Tx K mg w) : HasD K d_InvalidRow_init := has_of T.c.a 0 rfl
theorem k_InvalidRow_init (T : Tx K mg w) : PySem.W.keepIn K (.ref (d_InvalidRow_init.at_ K)) = true := (h_InvalidRow_init T).kp
theorem b_InvalidRow_init (T : Tx K mg w) : Binds K (fdOf K (d_InvalidRow_init.at_ K)) ps_InvalidRow_init [] := FunD.bindsN (ps := ps_InvalidRow_init) (h_InvalidRow_init T) fun _ _ _ _ _ _ us hl => match us, hl with | [_, _], _ => rfl
theorem h_InvalidPlace_init (T : Tx K mg w) : HasD K d_InvalidPlace_init := has_of T.c.a 1 rfl
theorem k_InvalidPlace_init (T : Tx K mg w) : PySem.W.keepIn K (.ref (d_InvalidPlace_init.at_ K)) = true := (h_InvalidPlace_init T).kp
theorem b_InvalidPlace_init (T : Tx K mg w) : Binds K (fdOf K (d_InvalidPlace_init.at_ K)) ps_InvalidPlace_init [] := FunD.bindsN (ps := ps_InvalidPlace_init) (h_InvalidPlace_init T) fun _ _ _ _ _ _ us hl => match us, hl with | [_, _], _ => rfl
theorem h_InvalidMachine_init (T : Tx K mg w) : HasD K d_InvalidMachine_init := has_of T.c.a 2 rfl
theorem k_InvalidMachine_init (T : Tx K mg w) : PySem.W.keepIn K (.ref (d_InvalidMachine_init.at_ K)) = true := (h_InvalidMachine_init T).kp
theorem b_InvalidMachine_init (T : Tx K mg w) : Binds K (fdOf K (d_InvalidMachine_init.at_ K)) ps_InvalidMachine_init [] := FunD.bindsN (ps := ps_InvalidMachine_init) (h_InvalidMachine_init T) fun _ _ _ _ _ _ us hl => match us, hl with | [_, _], _ => rfl
theorem h_is_sign_string (T : Tx K mg w) : HasD K d_is_sign_string := has_of T.c.a 3 rfl
theorem k_is_sign_string (T : Tx K mg w) : PySem.W.keepIn K (.ref (d_is_sign_string.at_ K)) = true := (h_is_sign_string T).kp
theorem b_is_sign_string (T : Tx K mg w) : Binds K (fdOf K (d_is_sign_string.at_ K)) ps_is_sign_string [] := FunD.bindsN (ps := ps_is_sign_string) (h_is_sign_string T) fun _ _ _ _ _ _ us hl => match us, hl with | [_], _ => rfl
theorem h_check_row (T : Tx K mg w) : HasD K d_check_row := has_of T.c.a 4 rfl
theorem k_check_row (T : Tx K mg w) : PySem.W.keepIn K (.ref (d_check_row.at_ K)) = true := (h_check_row T).kp
-- b_check_row: by hand
theorem h_pieces (T : Tx K mg w) : HasD K d_pieces := has_of T.c.a 5 rfl
theorem k_pieces (T : Tx K mg w) : PySem.W.keepIn K (.ref (d_pieces.at_ K)) = true := (h_pieces T).kp
theorem b_pieces (T : Tx K mg w) : Binds K (fdOf K (d_pieces.at_ K)) ps_pieces [] := FunD.bindsN (ps := ps_pieces) (h_pieces T) fun _ _ _ _ _ _ us hl => match us, hl with | [_], _ => rfl
theorem h_wall_put (T : Tx K mg w) : HasD K d_wall_put := has_of T.c.a 6 rfl
theorem k_wall_put (T : Tx K mg w) : PySem.W.keepIn K (.ref (d_wall_put.at_ K)) = true := (h_wall_put T).kp
theorem b_wall_put (T : Tx K mg w) : Binds K (fdOf K (d_wall_put.at_ K)) ps_wall_put [] := FunD.bindsN (ps := ps_wall_put) (h_wall_put T) fun _ _ _ _ _ _ us hl => match us, hl with | [_, _], _ => rfl
theorem h_walled (T : Tx K mg w) : HasD K d_walled := has_of T.c.a 7 rfl
theorem k_walled (T : Tx K mg w) : PySem.W.keepIn K (.ref (d_walled.at_ K)) = true := (h_walled T).kp
theorem b_walled (T : Tx K mg w) : Binds K (fdOf K (d_walled.at_ K)) ps_walled [] := FunD.bindsN (ps := ps_walled) (h_walled T) fun _ _ _ _ _ _ us hl => match us, hl with | [_, _], _ => rfl
theorem h_wall_effects (T : Tx K mg w) : HasD K d_wall_effects := has_of T.c.a 8 rfl
theorem k_wall_effects (T : Tx K mg w) : PySem.W.keepIn K (.ref (d_wall_effects.at_ K)) = true := (h_wall_effects T).kp
theorem b_wall_effects (T : Tx K mg w) : Binds K (fdOf K (d_wall_effects.at_ K)) ps_wall_effects [] := FunD.bindsN (ps := ps_wall_effects) (h_wall_effects T) fun _ _ _ _ _ _ us hl => match us, hl with | [_, _], _ => rfl
theorem h_check_sign_string (T : Tx K mg w) : HasD K d_check_sign_string := has_of T.c.a 9 rfl
theorem k_check_sign_string (T : Tx K mg w) : PySem.W.keepIn K (.ref (d_check_sign_string.at_ K)) = true := (h_check_sign_string T).kp
theorem b_check_sign_string (T : Tx K mg w) : Binds K (fdOf K (d_check_sign_string.at_ K)) ps_check_sign_string [] := FunD.bindsN (ps := ps_check_sign_string) (h_check_sign_string T) fun _ _ _ _ _ _ us hl => match us, hl with | [_], _ => rfl
theorem h_check_arrows (T : Tx K mg w) : HasD K d_check_arrows := has_of T.c.a 10 rfl
theorem k_check_arrows (T : Tx K mg w) : PySem.W.keepIn K (.ref (d_check_arrows.at_ K)) = true := (h_check_arrows T).kp
theorem b_check_arrows (T : Tx K mg w) : Binds K (fdOf K (d_check_arrows.at_ K)) ps_check_arrows [] := FunD.bindsN (ps := ps_check_arrows) (h_check_arrows T) fun _ _ _ _ _ _ us hl => match us, hl with | [_, _], _ => rfl
theorem h_state_behind (T : Tx K mg w) : HasD K d_state_behind := has_of T.c.a 11 rfl
theorem k_state_behind (T : Tx K mg w) : PySem.W.keepIn K (.ref (d_state_behind.at_ K)) = true := (h_state_behind T).kp
theorem b_state_behind (T : Tx K mg w) : Binds K (fdOf K (d_state_behind.at_ K)) ps_state_behind [] := FunD.bindsN (ps := ps_state_behind) (h_state_behind T) fun _ _ _ _ _ _ us hl => match us, hl with | [_, _, _], _ => rfl
theorem h_Machine_init (T : Tx K mg w) : HasD K d_Machine_init := has_of T.c.a 12 rfl
theorem k_Machine_init (T : Tx K mg w) : PySem.W.keepIn K (.ref (d_Machine_init.at_ K)) = true := (h_Machine_init T).kp
theorem b_Machine_init (T : Tx K mg w) : Binds K (fdOf K (d_Machine_init.at_ K)) ps_Machine_init [] := FunD.bindsN (ps := ps_Machine_init) (h_Machine_init T) fun _ _ _ _ _ _ us hl => match us, hl with | [_, _, _, _], _ => rfl
theorem h_Machine_state (T : Tx K mg w) : HasD K d_Machine_state := has_of T.c.a 13 rfl
theorem k_Machine_state (T : Tx K mg w) : PySem.W.keepIn K (.ref (d_Machine_state.at_ K)) = true := (h_Machine_state T).kp
theorem b_Machine_state (T : Tx K mg w) : Binds K (fdOf K (d_Machine_state.at_ K)) ps_Machine_state [] := FunD.bindsN (ps := ps_Machine_state) (h_Machine_state T) fun _ _ _ _ _ _ us hl => match us, hl with | [_, _], _ => rfl
theorem h_Machine_contains (T : Tx K mg w) : HasD K d_Machine_contains := has_of T.c.a 14 rfl
theorem k_Machine_contains (T : Tx K mg w) : PySem.W.keepIn K (.ref (d_Machine_contains.at_ K)) = true := (h_Machine_contains T).kp
theorem b_Machine_contains (T : Tx K mg w) : Binds K (fdOf K (d_Machine_contains.at_ K)) ps_Machine_contains [] := FunD.bindsN (ps := ps_Machine_contains) (h_Machine_contains T) fun _ _ _ _ _ _ us hl => match us, hl with | [_, _], _ => rfl
theorem h_law_bag (T : Tx K mg w) : HasD K d_law_bag := has_of T.c.a 15 rfl
theorem k_law_bag (T : Tx K mg w) : PySem.W.keepIn K (.ref (d_law_bag.at_ K)) = true := (h_law_bag T).kp
theorem b_law_bag (T : Tx K mg w) : Binds K (fdOf K (d_law_bag.at_ K)) ps_law_bag [] := FunD.bindsN (ps := ps_law_bag) (h_law_bag T) fun _ _ _ _ _ _ us hl => match us, hl with | [_, _], _ => rfl
theorem h_law_draw (T : Tx K mg w) : HasD K d_law_draw := has_of T.c.a 16 rfl
theorem k_law_draw (T : Tx K mg w) : PySem.W.keepIn K (.ref (d_law_draw.at_ K)) = true := (h_law_draw T).kp
theorem b_law_draw (T : Tx K mg w) : Binds K (fdOf K (d_law_draw.at_ K)) ps_law_draw [] := FunD.bindsN (ps := ps_law_draw) (h_law_draw T) fun _ _ _ _ _ _ us hl => match us, hl with | [_, _], _ => rfl
theorem h_law_sign (T : Tx K mg w) : HasD K d_law_sign := has_of T.c.a 17 rfl
theorem k_law_sign (T : Tx K mg w) : PySem.W.keepIn K (.ref (d_law_sign.at_ K)) = true := (h_law_sign T).kp
theorem b_law_sign (T : Tx K mg w) : Binds K (fdOf K (d_law_sign.at_ K)) ps_law_sign [] := FunD.bindsN (ps := ps_law_sign) (h_law_sign T) fun _ _ _ _ _ _ us hl => match us, hl with | [_], _ => rfl
theorem h_law_any_row (T : Tx K mg w) : HasD K d_law_any_row := has_of T.c.a 18 rfl
theorem k_law_any_row (T : Tx K mg w) : PySem.W.keepIn K (.ref (d_law_any_row.at_ K)) = true := (h_law_any_row T).kp
theorem b_law_any_row (T : Tx K mg w) : Binds K (fdOf K (d_law_any_row.at_ K)) ps_law_any_row [] := FunD.bindsN (ps := ps_law_any_row) (h_law_any_row T) fun _ _ _ _ _ _ us hl => match us, hl with | [_], _ => rfl
theorem h_law_with_one (T : Tx K mg w) : HasD K d_law_with_one := has_of T.c.a 19 rfl
theorem k_law_with_one (T : Tx K mg w) : PySem.W.keepIn K (.ref (d_law_with_one.at_ K)) = true := (h_law_with_one T).kp
theorem b_law_with_one (T : Tx K mg w) : Binds K (fdOf K (d_law_with_one.at_ K)) ps_law_with_one [] := FunD.bindsN (ps := ps_law_with_one) (h_law_with_one T) fun _ _ _ _ _ _ us hl => match us, hl with | [_, _, _], _ => rfl
theorem h_law_some_signs (T : Tx K mg w) : HasD K d_law_some_signs := has_of T.c.a 20 rfl
theorem k_law_some_signs (T : Tx K mg w) : PySem.W.keepIn K (.ref (d_law_some_signs.at_ K)) = true := (h_law_some_signs T).kp
theorem b_law_some_signs (T : Tx K mg w) : Binds K (fdOf K (d_law_some_signs.at_ K)) ps_law_some_signs [] := FunD.bindsN (ps := ps_law_some_signs) (h_law_some_signs T) fun _ _ _ _ _ _ us hl => match us, hl with | [_], _ => rfl
theorem h_law_tables (T : Tx K mg w) : HasD K d_law_tables := has_of T.c.a 21 rfl
theorem k_law_tables (T : Tx K mg w) : PySem.W.keepIn K (.ref (d_law_tables.at_ K)) = true := (h_law_tables T).kp
theorem b_law_tables (T : Tx K mg w) : Binds K (fdOf K (d_law_tables.at_ K)) ps_law_tables [] := FunD.bindsN (ps := ps_law_tables) (h_law_tables T) fun _ _ _ _ _ _ us hl => match us, hl with | [_, _], _ => rfl
theorem h_law_row (T : Tx K mg w) : HasD K d_law_row := has_of T.c.a 22 rfl
theorem k_law_row (T : Tx K mg w) : PySem.W.keepIn K (.ref (d_law_row.at_ K)) = true := (h_law_row T).kp
theorem b_law_row (T : Tx K mg w) : Binds K (fdOf K (d_law_row.at_ K)) ps_law_row [] := FunD.bindsN (ps := ps_law_row) (h_law_row T) fun _ _ _ _ _ _ us hl => match us, hl with | [_, _], _ => rfl
theorem h_law_holds (T : Tx K mg w) : HasD K d_law_holds := has_of T.c.a 23 rfl
theorem k_law_holds (T : Tx K mg w) : PySem.W.keepIn K (.ref (d_law_holds.at_ K)) = true := (h_law_holds T).kp
theorem b_law_holds (T : Tx K mg w) : Binds K (fdOf K (d_law_holds.at_ K)) ps_law_holds [] := FunD.bindsN (ps := ps_law_holds) (h_law_holds T) fun _ _ _ _ _ _ us hl => match us, hl with | [_, _], _ => rfl
theorem h_law_due_pieces (T : Tx K mg w) : HasD K d_law_due_pieces := has_of T.c.a 24 rfl
theorem k_law_due_pieces (T : Tx K mg w) : PySem.W.keepIn K (.ref (d_law_due_pieces.at_ K)) = true := (h_law_due_pieces T).kp
theorem b_law_due_pieces (T : Tx K mg w) : Binds K (fdOf K (d_law_due_pieces.at_ K)) ps_law_due_pieces [] := FunD.bindsN (ps := ps_law_due_pieces) (h_law_due_pieces T) fun _ _ _ _ _ _ us hl => match us, hl with | [_], _ => rfl
theorem h_law_is_pieces (T : Tx K mg w) : HasD K d_law_is_pieces := has_of T.c.a 25 rfl
theorem k_law_is_pieces (T : Tx K mg w) : PySem.W.keepIn K (.ref (d_law_is_pieces.at_ K)) = true := (h_law_is_pieces T).kp
theorem b_law_is_pieces (T : Tx K mg w) : Binds K (fdOf K (d_law_is_pieces.at_ K)) ps_law_is_pieces [] := FunD.bindsN (ps := ps_law_is_pieces) (h_law_is_pieces T) fun _ _ _ _ _ _ us hl => match us, hl with | [_, _], _ => rfl
theorem h_law_is_truths (T : Tx K mg w) : HasD K d_law_is_truths := has_of T.c.a 26 rfl
theorem k_law_is_truths (T : Tx K mg w) : PySem.W.keepIn K (.ref (d_law_is_truths.at_ K)) = true := (h_law_is_truths T).kp
theorem b_law_is_truths (T : Tx K mg w) : Binds K (fdOf K (d_law_is_truths.at_ K)) ps_law_is_truths [] := FunD.bindsN (ps := ps_law_is_truths) (h_law_is_truths T) fun _ _ _ _ _ _ us hl => match us, hl with | [_, _], _ => rfl
theorem h_law_pieces_fault (T : Tx K mg w) : HasD K d_law_pieces_fault := has_of T.c.a 27 rfl
theorem k_law_pieces_fault (T : Tx K mg w) : PySem.W.keepIn K (.ref (d_law_pieces_fault.at_ K)) = true := (h_law_pieces_fault T).kp
theorem b_law_pieces_fault (T : Tx K mg w) : Binds K (fdOf K (d_law_pieces_fault.at_ K)) ps_law_pieces_fault [] := FunD.bindsN (ps := ps_law_pieces_fault) (h_law_pieces_fault T) fun _ _ _ _ _ _ us hl => match us, hl with | [_], _ => rfl
theorem h_law_gap_fault (T : Tx K mg w) : HasD K d_law_gap_fault := has_of T.c.a 28 rfl
theorem k_law_gap_fault (T : Tx K mg w) : PySem.W.keepIn K (.ref (d_law_gap_fault.at_ K)) = true := (h_law_gap_fault T).kp
theorem b_law_gap_fault (T : Tx K mg w) : Binds K (fdOf K (d_law_gap_fault.at_ K)) ps_law_gap_fault [] := FunD.bindsN (ps := ps_law_gap_fault) (h_law_gap_fault T) fun _ _ _ _ _ _ us hl => match us, hl with | [_, _], _ => rfl
theorem h_law_effects_fault (T : Tx K mg w) : HasD K d_law_effects_fault := has_of T.c.a 29 rfl
theorem k_law_effects_fault (T : Tx K mg w) : PySem.W.keepIn K (.ref (d_law_effects_fault.at_ K)) = true := (h_law_effects_fault T).kp
theorem b_law_effects_fault (T : Tx K mg w) : Binds K (fdOf K (d_law_effects_fault.at_ K)) ps_law_effects_fault [] := FunD.bindsN (ps := ps_law_effects_fault) (h_law_effects_fault T) fun _ _ _ _ _ _ us hl => match us, hl with | [_, _], _ => rfl
theorem h_law_pieces_right (T : Tx K mg w) : HasD K d_law_pieces_right := has_of T.c.a 30 rfl
theorem k_law_pieces_right (T : Tx K mg w) : PySem.W.keepIn K (.ref (d_law_pieces_right.at_ K)) = true := (h_law_pieces_right T).kp
theorem b_law_pieces_right (T : Tx K mg w) : Binds K (fdOf K (d_law_pieces_right.at_ K)) ps_law_pieces_right [] := FunD.bindsN (ps := ps_law_pieces_right) (h_law_pieces_right T) fun _ _ _ _ _ _ us hl => match us, hl with | [_, _, _], _ => rfl
theorem h_law_effects_right (T : Tx K mg w) : HasD K d_law_effects_right := has_of T.c.a 31 rfl
theorem k_law_effects_right (T : Tx K mg w) : PySem.W.keepIn K (.ref (d_law_effects_right.at_ K)) = true := (h_law_effects_right T).kp
theorem b_law_effects_right (T : Tx K mg w) : Binds K (fdOf K (d_law_effects_right.at_ K)) ps_law_effects_right [] := FunD.bindsN (ps := ps_law_effects_right) (h_law_effects_right T) fun _ _ _ _ _ _ us hl => match us, hl with | [_, _, _, _], _ => rfl
theorem h_law (T : Tx K mg w) : HasD K d_law := has_of T.c.a 32 rfl
theorem k_law (T : Tx K mg w) : PySem.W.keepIn K (.ref (d_law.at_ K)) = true := (h_law T).kp
theorem b_law (T : Tx K mg w) : Binds K (fdOf K (d_law.at_ K)) ps_law [] := FunD.bindsN (ps := ps_law) (h_law T) fun _ _ _ _ _ _ us hl => match us, hl with | [_], _ => rfl
theorem exc_InvalidRow (T : Tx K mg w) : ExcC K (He.ga K "InvalidRow") := excB_ok (x_InvalidRow T).xf (exAt T 23 rfl)
theorem exc_InvalidMachine (T : Tx K mg w) : ExcC K (He.ga K "InvalidMachine") := excB_ok (x_InvalidMachine T).xf (exAt T 24 rfl)
theorem exc_InvalidPlace (T : Tx K mg w) : ExcC K (He.ga K "InvalidPlace") := excB_ok (x_InvalidPlace T).xf (exAt T 25 rfl)
theorem exm_InvalidRow_InvalidRow (T : Tx K mg w) : PySem.W.exmOne K (.ref (He.ga K "InvalidRow")) (.ref (He.ga K "InvalidRow")) = some true := of_decide_eq_true (exAt T 26 rfl)
theorem exm_InvalidRow_InvalidMachine (T : Tx K mg w) : PySem.W.exmOne K (.ref (He.ga K "InvalidRow")) (.ref (He.ga K "InvalidMachine")) = some false := of_decide_eq_true (exAt T 27 rfl)
theorem exm_InvalidRow_InvalidPlace (T : Tx K mg w) : PySem.W.exmOne K (.ref (He.ga K "InvalidRow")) (.ref (He.ga K "InvalidPlace")) = some false := of_decide_eq_true (exAt T 28 rfl)
theorem exm_InvalidRow_LeapError (T : Tx K mg w) : PySem.W.exmOne K (.ref (He.ga K "InvalidRow")) (.ref (He.ga K "LeapError")) = some true := of_decide_eq_true (exAt T 29 rfl)
theorem exm_InvalidMachine_InvalidRow (T : Tx K mg w) : PySem.W.exmOne K (.ref (He.ga K "InvalidMachine")) (.ref (He.ga K "InvalidRow")) = some false := of_decide_eq_true (exAt T 30 rfl)
theorem exm_InvalidMachine_InvalidMachine (T : Tx K mg w) : PySem.W.exmOne K (.ref (He.ga K "InvalidMachine")) (.ref (He.ga K "InvalidMachine")) = some true := of_decide_eq_true (exAt T 31 rfl)
theorem exm_InvalidMachine_InvalidPlace (T : Tx K mg w) : PySem.W.exmOne K (.ref (He.ga K "InvalidMachine")) (.ref (He.ga K "InvalidPlace")) = some false := of_decide_eq_true (exAt T 32 rfl)
theorem exm_InvalidMachine_LeapError (T : Tx K mg w) : PySem.W.exmOne K (.ref (He.ga K "InvalidMachine")) (.ref (He.ga K "LeapError")) = some true := of_decide_eq_true (exAt T 33 rfl)
theorem exm_InvalidPlace_InvalidRow (T : Tx K mg w) : PySem.W.exmOne K (.ref (He.ga K "InvalidPlace")) (.ref (He.ga K "InvalidRow")) = some false := of_decide_eq_true (exAt T 34 rfl)
theorem exm_InvalidPlace_InvalidMachine (T : Tx K mg w) : PySem.W.exmOne K (.ref (He.ga K "InvalidPlace")) (.ref (He.ga K "InvalidMachine")) = some false := of_decide_eq_true (exAt T 35 rfl)
theorem exm_InvalidPlace_InvalidPlace (T : Tx K mg w) : PySem.W.exmOne K (.ref (He.ga K "InvalidPlace")) (.ref (He.ga K "InvalidPlace")) = some true := of_decide_eq_true (exAt T 36 rfl)
theorem exm_InvalidPlace_LeapError (T : Tx K mg w) : PySem.W.exmOne K (.ref (He.ga K "InvalidPlace")) (.ref (He.ga K "LeapError")) = some true := of_decide_eq_true (exAt T 37 rfl)
theorem kitV_InvalidRow (T : Tx K mg w) : PySem.W.kitOne K (.ref (He.ga K "InvalidRow")) (.type "ValueError") = some true := of_decide_eq_true (exAt T 38 rfl)
theorem kitV_InvalidMachine (T : Tx K mg w) : PySem.W.kitOne K (.ref (He.ga K "InvalidMachine")) (.type "ValueError") = some true := of_decide_eq_true (exAt T 39 rfl)
theorem kitV_InvalidPlace (T : Tx K mg w) : PySem.W.kitOne K (.ref (He.ga K "InvalidPlace")) (.type "ValueError") = some true := of_decide_eq_true (exAt T 40 rfl)

end
theorem kc_2 : Str.ofString "#.:ABCDabcd" = S [35, 46, 58, 65, 66, 67, 68, 97, 98, 99, 100] := by decide +kernel
theorem kc_7 : Str.ofString "0123456789" = S [48, 49, 50, 51, 52, 53, 54, 55, 56, 57] := by decide +kernel
theorem kc_9 : Str.ofString "" = S [] := by decide +kernel
theorem kc_10 : Str.ofString "#" = S [35] := by decide +kernel
theorem kc_11 : Str.ofString "." = S [46] := by decide +kernel
theorem kc_12 : Str.ofString "e" = S [101] := by decide +kernel
theorem kc_13 : Str.ofString "eExX ;0-_@/$Ff*" = S [101, 69, 120, 88, 32, 59, 48, 45, 95, 64, 47, 36, 70, 102, 42] := by decide +kernel
theorem kc_14 : Str.ofString "signs" = S [115, 105, 103, 110, 115] := by decide +kernel
theorem kc_15 : Str.ofString "arrows" = S [97, 114, 114, 111, 119, 115] := by decide +kernel
theorem kc_16 : Str.ofString "|" = S [124] := by decide +kernel
theorem kc_17 : Str.ofString "row" = S [114, 111, 119] := by decide +kernel
theorem kc_18 : Str.ofString "#.:ABCDabcdeEx ;0-" = S [35, 46, 58, 65, 66, 67, 68, 97, 98, 99, 100, 101, 69, 120, 32, 59, 48, 45] := by decide +kernel
theorem kc_19 : Str.ofString "a sign is not allowed in this row: " = S [97, 32, 115, 105, 103, 110, 32, 105, 115, 32, 110, 111, 116, 32, 97, 108, 108, 111, 119, 101, 100, 32, 105, 110, 32, 116, 104, 105, 115, 32, 114, 111, 119, 58, 32] := by decide +kernel
theorem kc_20 : Str.ofString "no such place: " = S [110, 111, 32, 115, 117, 99, 104, 32, 112, 108, 97, 99, 101, 58, 32] := by decide +kernel
theorem kc_21 : Str.ofString "wrong part of a machine: " = S [119, 114, 111, 110, 103, 32, 112, 97, 114, 116, 32, 111, 102, 32, 97, 32, 109, 97, 99, 104, 105, 110, 101, 58, 32] := by decide +kernel
theorem kc_22 : Str.ofString "signs that do not go together: " = S [115, 105, 103, 110, 115, 32, 116, 104, 97, 116, 32, 100, 111, 32, 110, 111, 116, 32, 103, 111, 32, 116, 111, 103, 101, 116, 104, 101, 114, 58, 32] := by decide +kernel
theorem kc_23 : Str.ofString "0" = S [48] := by decide +kernel
theorem kc_24 : Str.ofString "finals" = S [102, 105, 110, 97, 108, 115] := by decide +kernel
theorem kc_25 : Str.ofString "!" = S [33] := by decide +kernel
theorem kc_26 : Str.ofString "#.a" = S [35, 46, 97] := by decide +kernel
theorem kc_27 : Str.ofString "#.:Aa" = S [35, 46, 58, 65, 97] := by decide +kernel
theorem kc_28 : Str.ofString "place" = S [112, 108, 97, 99, 101] := by decide +kernel
theorem kc_29 : Str.ofString "machine" = S [109, 97, 99, 104, 105, 110, 101] := by decide +kernel
theorem kc_30 : Str.ofString "," = S [44] := by decide +kernel
theorem kc_31 : Str.ofString "text" = S [116, 101, 120, 116] := by decide +kernel
end K49
namespace Lc
open PySem PySem.Spec PyProof.Rows L2 Evl
/-! ### a sign replaced, lower and upper case, over lists of signs below 128 -/
theorem repl1 (a b : Nat) : ∀ l : List Nat, StrLaws.replL [a] [b] l = l.map fun c => if c = a then b else c
  | [] => StrLaws.replL_nil
  | c :: r => by
    by_cases h : c = a
    · rw [StrLaws.replL_hit (by simp) (by simp [h]), List.map_cons, if_pos h]
      show [b] ++ StrLaws.replL [a] [b] r = _
      rw [repl1 a b r]
      rfl
    · rw [StrLaws.replL_miss (by simpa using h), List.map_cons, if_neg h, repl1 a b r]
theorem replace_S (a b : Nat) (l : List Nat) : Txt.replace (S l) (S [a]) (S [b]) = S (l.map fun c => if c = a then b else c) := by
  rw [← S_tl (Txt.replace _ _ _)]
  refine congrArg S ?_
  rw [StrLaws.replace_list (by rw [S_len]; simp)]
  exact repl1 a b l
theorem lower_S {l : List Nat} (h : ∀ c ∈ l, c < 128) : Txt.lower (S l) = S (l.map lo1) := by
  rw [lower_ascii (x := S l) h]
  exact congrArg Str.mk (by simp [S])
theorem upper_S {l : List Nat} (h : ∀ c ∈ l, c < 128) : Txt.upper (S l) = S (l.map up1) := by
  rw [upper_ascii (x := S l) h]
  exact congrArg Str.mk (by simp [S])
def um (c : Nat) : Nat := lo1 (if c = 58 then 46 else c)
def am (c : Nat) : Nat := up1 (if c = 46 then 58 else c)
theorem ev_unm {σ : L2.St} {H : Hp} {te : TE} {l : List Nat} (h : Ev te σ H (.str (S l))) (hl : l.length ≤ 1000) (hc : ∀ c ∈ l, c < 128) :
    Ev (tM0 (fun x xs H Q => ∃ a, x = .str a ∧ xs = [] ∧ a.length ≤ 5592405 ∧ Q (.str (Txt.lower a)) H) (CwR.tReplC te (S [58]) (S [46]))) σ H (.str (S (l.map um))) := fun H1 e Q q =>
  h H1 e _ fun H2 e2 => ⟨S l, rfl, by rw [S_len, S_len]; simp; omega, ⟨_, rfl⟩, _, rfl, rfl, by rw [replace_S, S_len, List.length_map]; omega, by
    rw [replace_S, lower_S (fun c hc' => ?_), List.map_map]
    · exact q H2 e2
    · obtain ⟨x, hx, rfl⟩ := List.mem_map.mp hc'
      split
      · decide
      · exact hc x hx⟩
theorem ev_alm {σ : L2.St} {H : Hp} {te : TE} {l : List Nat} (h : Ev te σ H (.str (S l))) (hl : l.length ≤ 1000) (hc : ∀ c ∈ l, c < 128) :
    Ev (tM0 (fun x xs H Q => ∃ a, x = .str a ∧ xs = [] ∧ a.length ≤ 5592405 ∧ Q (.str (Txt.upper a)) H) (CwR.tReplC te (S [46]) (S [58]))) σ H (.str (S (l.map am))) := fun H1 e Q q =>
  h H1 e _ fun H2 e2 => ⟨S l, rfl, by rw [S_len, S_len]; simp; omega, ⟨_, rfl⟩, _, rfl, rfl, by rw [replace_S, S_len, List.length_map]; omega, by
    rw [replace_S, upper_S (fun c hc' => ?_), List.map_map]
    · exact q H2 e2
    · obtain ⟨x, hx, rfl⟩ := List.mem_map.mp hc'
      split
      · decide
      · exact hc x hx⟩
/-! ### the signs of a text, sorted -/
theorem rising_pw : ∀ (r : List Nat) (p : Nat), risingS (S [p]) (r.map fun c => S [c]) = true → (∀ c ∈ r, p ≤ c) ∧ r.Pairwise (· ≤ ·)
  | [], _, _ => ⟨by simp, .nil⟩
  | c :: r, p, h => by
    have h' : (!ltCps (S [c]).cps.toList (S [p]).cps.toList && risingS (S [c]) (r.map fun c => S [c])) = true := h
    obtain ⟨h1, h2⟩ := Bool.and_eq_true_iff.mp h'
    obtain ⟨q1, q2⟩ := rising_pw r c h2
    have hpc : p ≤ c := by
      rw [ltCps_eq] at h1
      simp only [Bool.not_eq_true', decide_eq_false_iff_not] at h1
      apply Nat.le_of_not_lt
      intro hlt
      exact h1 (List.Lex.rel hlt)
    refine ⟨fun x hx => ?_, List.pairwise_cons.mpr ⟨q1, q2⟩⟩
    rcases List.mem_cons.mp hx with rfl | hx
    · exact hpc
    · exact Nat.le_trans hpc (q1 x hx)
theorem sorted_signs {ys : List Str} {l m : List Nat} (hp : ys.Perm (l.map fun c => S [c])) (hs : sortedS ys = true) (hm : m.Perm l) (hmp : m.Pairwise (· ≤ ·)) : ys = m.map fun c => S [c] := by
  have hh : ∀ y ∈ ys, S [y.cps.getD 0 0] = y := fun y hy => by
    obtain ⟨c, _, rfl⟩ := List.mem_map.mp (hp.mem_iff.mp hy)
    rfl
  have e : ys = (ys.map fun y => y.cps.getD 0 0).map fun c => S [c] := by
    rw [List.map_map]
    conv => lhs; rw [← List.map_id ys]
    exact List.map_congr_left fun y hy => (hh y hy).symm
  have hp2 : (ys.map fun y => y.cps.getD 0 0).Perm l := by
    have q := hp.map (fun y : Str => y.cps.getD 0 0)
    rw [List.map_map] at q
    have e2 : l.map ((fun y : Str => y.cps.getD 0 0) ∘ fun c => S [c]) = l := by
      conv => rhs; rw [← List.map_id l]
      exact List.map_congr_left fun c _ => rfl
    rw [e2] at q
    exact q
  generalize hcs : (ys.map fun y => y.cps.getD 0 0) = cs at e hp2
  have hpw : cs.Pairwise (· ≤ ·) := by
    rw [e] at hs
    cases cs with
    | nil => exact .nil
    | cons c r =>
      obtain ⟨q1, q2⟩ := rising_pw r c hs
      exact List.pairwise_cons.mpr ⟨q1, q2⟩
  rw [e, List.Perm.eq_of_pairwise (le := (· ≤ ·)) (fun a b _ _ h1 h2 => Nat.le_antisymm h1 h2) hpw hmp (hp2.trans hm.symm)]
end Lc
namespace Lc
open PySem PySem.Spec PyProof.Rows L2 Evl
/-! ### zip of a text and a list or a tuple -/
def Sq (K : PySem.W.Frag) (t : Bool) (H : Hp) (b : Addr) (ys : List V) : Prop := if t then SqT K H b ys else SqL K H b ys
theorem Sq.l {K : PySem.W.Frag} {H : Hp} {b : Addr} {ys : List V} (h : SqL K H b ys) : Sq K false H b ys := h
theorem Sq.t {K : PySem.W.Frag} {H : Hp} {b : Addr} {ys : List V} (h : SqT K H b ys) : Sq K true H b ys := h
theorem Sq.ex {K : PySem.W.Frag} {t : Bool} {H H' : Hp} {b : Addr} {ys : List V} (h : Sq K t H b ys) (e : Ex H H') : Sq K t H' b ys := by
  cases t
  · exact ex_l (K := K) e h
  · exact ex_t (K := K) e h
theorem Sq.any {K : PySem.W.Frag} {t : Bool} {H : Hp} {b : Addr} {ys : List V} (h : Sq K t H b ys) : SqL K H b ys ∨ SqT K H b ys := by
  cases t
  · exact .inl h
  · exact .inr h
theorem Sq.of {K : PySem.W.Frag} {H : Hp} {b : Addr} {ys : List V} (h : SqL K H b ys ∨ SqT K H b ys) : ∃ t, Sq K t H b ys := h.elim (fun h => ⟨false, h⟩) fun h => ⟨true, h⟩
theorem Sq.inj {X : Cx} {pins : List (Addr × Obj)} {σ : L2.St} {H : Hp} {s : Shared} {t : Bool} {b : Addr} {xs ys : List V} (I : Inv X pins σ H s) (h : Sq X.K t H b xs) (h' : Sq X.K t H b ys) : xs = ys := by
  cases t
  · exact I.list_inj h h'
  · exact I.tuple_inj h h'
def Itzs (K : PySem.W.Frag) (t : Bool) (z : Str) (b : Addr) : It :=
  ⟨fun i H => ∃ (ys : List V) (c : Nat) (y : V), Sq K t H b ys ∧ z.cps[i]? = some c ∧ ys[i]? = some y,
    fun i H v H' => ∃ T c y, v = .ref T ∧ H T = none ∧ H' = upd H T (.tup [.str ⟨#[c]⟩, y]) ∧ z.cps[i]? = some c ∧ ∀ ys, Sq K t H b ys → ys[i]? = some y,
    fun i H => ∃ ys : List V, Sq K t H b ys ∧ i ≤ z.cps.size ∧ i ≤ ys.length ∧ (i = z.cps.size ∨ i = ys.length)⟩
/-- the iterator of the second -/
def ItS (t : Bool) (it b : Addr) (i : Nat) (h : Heap) : Prop := if t then h.IsTupleIter it b i else h.IsListIter it b i
def SqO (t : Bool) (b : Addr) (its : Array Value) (h : Heap) : Prop := if t then h.IsTuple b its else h.IsList b its
theorem ItS.at {t : Bool} {it b : Addr} {i : Nat} {h h' : Heap} (x : ItS t it b i h) (k : ∀ o, h.get? it = some o → h'.get? it = some o) : ItS t it b i h' := by
  cases t
  · exact Heap.IsListIter.at x k
  · exact Heap.IsTupleIter.at x k
theorem ItS.live {t : Bool} {it b : Addr} {i : Nat} {h : Heap} (x : ItS t it b i h) : ∃ o, h.get? it = some o ∧ ∃ v k, o.data = .fields #[v, k] := by
  cases t
  · obtain ⟨o, e, _, d⟩ := (show h.IsListIter it b i from x)
    exact ⟨o, e, _, _, d⟩
  · obtain ⟨o, e, _, d⟩ := (show h.IsTupleIter it b i from x)
    exact ⟨o, e, _, _, d⟩
theorem drawsS {prog : Program} {w : World} {A : Around} (hh : A.handled = none) (t : Bool) (it b : Addr) (hne : b ≠ it) (its : Array Value) :
    Draws prog w A it [it, b] its.size (fun i v => its[i]? = some v) (fun i h => ItS t it b i h ∧ SqO t b its h) := by
  cases t
  · exact Draws.list hh it b hne its
  · exact Draws.tuple hh it b hne its
theorem turn_zipS {P : Program} {w : World} {K : PySem.W.Frag} {elts : List Expr} {kk : Nat} {tpos : Pos} {t : Bool} {x : Str} {u0 : Tok} {b z TI TO i1 i2 : Addr} (S : ZipSep2 z TI TO i1 i2 [i1] [i2, b]) (hb2 : b ≠ i2) :
    Turn P w K (.Tuple elts kk tpos) (Itzs K t x b) [z, TI, TO, i1, i2] z (fun i h => IsZip h z TI TO .none ∧ IsTupOf2 h TI (.ref i1) (.ref i2) ∧ (∃ a1 a2, IsTupOf2 h TO a1 a2) ∧ h.IsStrIter i1 (strIterType x) x u0 i ∧ ItS t i2 b i h) where
  mem := by simp
  obj := fun i h st c hc => by
    obtain ⟨hz, hTI, ⟨a1, a2, hTO⟩, ⟨o1, e1, _, d1⟩, h2⟩ := st
    obtain ⟨o2, e2, v2, k2, d2⟩ := h2.live
    have e' : c = z ∨ c = TI ∨ c = TO ∨ c = i1 ∨ c = i2 := by simpa using hc
    rcases e' with q | q | q | q | q
    · rw [q]; exact ⟨_, hz, fun v q => nomatch q⟩
    · rw [q]; exact ⟨_, hTI, fun v q => nomatch q⟩
    · rw [q]; exact ⟨_, hTO, fun v q => nomatch q⟩
    · rw [q]; exact ⟨o1, e1, fun v q => by rw [d1] at q; cases q⟩
    · rw [q]; exact ⟨o2, e2, fun v q => by rw [d2] at q; cases q⟩
  keep := fun i h h' st k => by
    obtain ⟨hz, hTI, ⟨x, y, hTO⟩, ⟨o1, e1, r1⟩, h2⟩ := st
    exact ⟨k z (by simp) _ hz, k TI (by simp) _ hTI, ⟨x, y, k TO (by simp) _ hTO⟩, ⟨o1, k i1 (by simp) _ e1, r1⟩, h2.at fun o q => k i2 (by simp) o q⟩
  item := by
    intro X hP hw hK hc i pins s σ H E I hf st hg
    subst hP hw hK
    obtain ⟨hz, hTI, ⟨x0, y0, hTO⟩, h1, h2⟩ := st
    obtain ⟨ys, c, y, hqy, hcx, hy⟩ := hg
    obtain ⟨its, rv, p⟩ : ∃ its, Vals ys its ∧ SqO t b its.toArray s.heap := by
      cases t
      · obtain ⟨its, rv, p, _⟩ := I.list hqy
        exact ⟨its, rv, p.isList⟩
      · obtain ⟨its, rv, p, _⟩ := I.tuple hqy
        exact ⟨its, rv, p⟩
    have hzl : z < s.heap.objs.size := Heap.lt_size hz
    have hcl : i < x.cps.size := by
      have := Array.getElem?_eq_some_iff.mp hcx
      exact this.1
    have hyl : i < its.toArray.size := by
      have h := List.getElem?_eq_some_iff.mp hy
      rw [List.size_toArray, ← rv.length]
      exact h.1
    have D2 := drawsS (prog := X.prog) (w := X.w) (A := X.A.in1) (I.ok.hd hc) t i2 b hb2 its.toArray
    refine wpAny_pyNext_zipD2_item S (Draws.text (prog := X.prog) (w := X.w) (A := X.A.in1) (I.ok.hd hc) i1 x u0) D2 hz hTI hTO h1 ⟨h2, p⟩ hcl hyl fun v1 v2 h' tk y1 y2 z' TO' st1 st2 hT hsz hk => ?_
    obtain ⟨c', u, hc', rfl⟩ := y1
    rw [hcx] at hc'
    cases hc'
    obtain ⟨u2, hu2, ru2⟩ := rv.get hy
    have y2' : its[i]? = some v2 := by simpa using y2
    have y3 := hu2.symm.trans y2'
    cases y3
    refine ⟨_, rfl, wpAny_letOwnedTupleGo_zip (s := { s with heap := h', toks := tk }) z' fun h'' z'' sb => ?_⟩
    have hT2 : h''.get? s.heap.objs.size = some { cls := .type "tuple", data := .seq #[.str ⟨#[c]⟩ u, v2] } := (sb.2 _ (Nat.ne_of_gt hzl)).trans hT
    have new : ObjOk X.prog X.w (upd H s.heap.objs.size (.tup [.str ⟨#[c]⟩, y])) h'' s.heap.objs.size (.tup [.str ⟨#[c]⟩, y]) :=
      ⟨by show 2 ≤ sizeLine; decide, [.str ⟨#[c]⟩ u, v2], .cons ⟨_, rfl⟩ (.cons ru2 .nil), ⟨_, hT2, rfl, _, rfl⟩⟩
    have I1 : Inv X pins σ (upd H s.heap.objs.size (.tup [.str ⟨#[c]⟩, y])) { s with heap := h'', toks := tk } :=
      I.turnedNew (t' := tk) (ch := [z, TI, TO, i1, i2]) (fun c o hb q => (sb.2 c (fun q' => hb (by simp [q']))).trans (hk c o (fun q' => hb (by simp [q'])) (fun q' => hb (by simp [q'])) (fun q' => hb (by simp [q'])) (fun q' => hb (by simp [q'])) q)) hf (Nat.le_refl _) new
    refine ⟨.ref s.heap.objs.size, _, I1, rfl, ⟨_, c, y, rfl, I.hok.fresh (Nat.le_refl _), rfl, hcx, fun l hl => by rw [Sq.inj I hl hqy]; exact hy⟩, ⟨z'', ?_, ⟨.str ⟨#[c]⟩ u, v2, ?_⟩, ?_, ?_⟩, fun c hcm => ?_⟩
    · exact (sb.2 _ S.TIz).trans (hk _ _ S.TIz S.TITO S.TIi1 S.TIi2 hTI)
    · exact (sb.2 _ S.TOz).trans TO'
    · obtain ⟨o1, e1, r1⟩ := st1
      exact ⟨o1, (sb.2 _ S.zi1.symm).trans e1, r1⟩
    · exact st2.1.at fun o q => (sb.2 _ S.zi2.symm).trans q
    · have hlt : c < s.heap.objs.size := by
        have e' : c = z ∨ c = TI ∨ c = TO ∨ c = i1 ∨ c = i2 := by simpa using hcm
        rcases e' with q | q | q | q | q
        · rw [q]; exact hzl
        · rw [q]; exact Heap.lt_size hTI
        · rw [q]; exact Heap.lt_size hTO
        · rw [q]; obtain ⟨_, e1, _⟩ := h1; exact Heap.lt_size e1
        · rw [q]; obtain ⟨_, e2, _⟩ := h2.live; exact Heap.lt_size e2
      rw [upd_ne (Nat.ne_of_lt hlt)]
      exact (hf c hcm).1
  done := by
    intro X hP hw hK hc i pins s σ H E I hf st hg
    subst hP hw hK
    obtain ⟨hz, hTI, ⟨x0, y0, hTO⟩, h1, h2⟩ := st
    obtain ⟨ys, hqy, l1, l2, hend⟩ := hg
    obtain ⟨its, rv, p⟩ : ∃ its, Vals ys its ∧ SqO t b its.toArray s.heap := by
      cases t
      · obtain ⟨its, rv, p, _⟩ := I.list hqy
        exact ⟨its, rv, p.isList⟩
      · obtain ⟨its, rv, p, _⟩ := I.tuple hqy
        exact ⟨its, rv, p⟩
    have hl := rv.length
    have D2 := drawsS (prog := X.prog) (w := X.w) (A := X.A.in1) (I.ok.hd hc) t i2 b hb2 its.toArray
    have D1 := Draws.text (prog := X.prog) (w := X.w) (A := X.A.in1) (I.ok.hd hc) i1 x u0
    exact wpAny_pyNext_zipD2_end S D1 D2 hz hTI hTO h1 ⟨h2, p⟩ l1 (by rw [List.size_toArray]; omega) (hend.imp id fun q => by rw [List.size_toArray]; omega) fun h' tk hk => ⟨rfl, I.turnedL (t' := tk) (ch := [z, TI, TO, i1, i2]) (fun c o hb q =>
      hk c o (fun q' => hb (by simp [q'])) (fun q' => hb (by simp [q'])) (fun q' => hb (by simp [q'])) (fun q' => hb (by simp [q'])) q) hf⟩
  self := fun A i s Q E st h => wpAny_pyIter_zip st.1 h
theorem aN (n : Nat) {a b : Nat} (h : a ≠ b) : @Ne Addr (n + a) (n + b) := fun e => h (Nat.add_left_cancel e)
theorem bN {n b : Addr} (k : Nat) (h : Nat.lt b n) : @Ne Addr b (Nat.add n k) := fun e => by
  have h1 : (b : Nat) < (n : Nat) := h
  have h2 : (b : Nat) = (n : Nat) + k := e
  exact absurd h1 (by rw [h2]; exact Nat.not_lt.mpr (Nat.le_add_right _ _))
def iZipS (K : PySem.W.Frag) (ta : TA) : TI := fun σ H R => ta σ H fun vs H1 => ∃ (t : Bool) (z : Str) (b : Addr) (ys : List V), vs = [.str z, .ref b] ∧ Sq K t H1 b ys ∧ R (Itzs K t z b) H1
theorem pi_zipS (K : PySem.W.Frag) {X : Cx} {e e2 : Expr} {ta : TA} {p pos tpos : Pos} {elts : List Expr} {kk : Nat} (hK : X.K = K) (hg : Gl X "zip") (hm : X.mg "zip" = none) (ha : PA X [e, e2] ta)
    (hs : starEach [e, e2] X.env = (false, eval e X.env) :: starEach [e2] X.env := by rfl) (hpl : (backTo pos (starEach [e2] X.env)).any (·.1) = false := by rfl) :
    PI X (.Tuple elts kk tpos) (.Call (.Name "zip" p) [e, e2] [] pos) (iZipS K ta) := by
  subst hK
  refine ⟨fun pins s σ H R I h => ?_⟩
  refine Call_ (ld_blt I hg hm PyProof.Rows.boot_zip (PyProof.Rows.callWith_type1 (thn (ha.run pos pins s σ H _ I h) fun us s1 ⟨vs, H1, I1, r1, q1⟩ => ?_) hs hpl))
  obtain ⟨t, z, b, ys, ex, hq, q⟩ := q1
  subst ex
  cases r1 with
  | cons r rr =>
    cases rr with
    | cons r' rr =>
      cases rr
      obtain ⟨u, rfl⟩ := r
      cases r'
      have fresh5 : ∀ c, c ∈ [s1.heap.objs.size + 4, s1.heap.objs.size + 2, s1.heap.objs.size + 3, s1.heap.objs.size, s1.heap.objs.size + 1] → FpOk X pins H1 c := fun c hcm => by
        have e' : c = s1.heap.objs.size + 4 ∨ c = s1.heap.objs.size + 2 ∨ c = s1.heap.objs.size + 3 ∨ c = s1.heap.objs.size ∨ c = s1.heap.objs.size + 1 := by simpa using hcm
        have hle : s1.heap.objs.size ≤ c := by
          rcases e' with z | z | z | z | z
          · rw [z]; exact Nat.le_add_right _ _
          · rw [z]; exact Nat.le_add_right _ _
          · rw [z]; exact Nat.le_add_right _ _
          · rw [z]; exact Nat.le_refl _
          · rw [z]; exact Nat.le_add_right _ _
        exact I1.fpOk hle (I1.hok.fresh hle)
      obtain ⟨its, rv, p⟩ : ∃ its, Vals ys its ∧ SqO t b its.toArray s1.heap := by
        cases t
        · obtain ⟨its, rv, p, _⟩ := I1.list hq
          exact ⟨its, rv, p.isList⟩
        · obtain ⟨its, rv, p, _⟩ := I1.tuple hq
          exact ⟨its, rv, p⟩
      have hbl : b < s1.heap.objs.size := by
        cases t
        · obtain ⟨o, ho, _⟩ := (show s1.heap.IsList b its.toArray from p)
          exact Heap.lt_size ho
        · obtain ⟨o, ho, _⟩ := (show s1.heap.IsTuple b its.toArray from p)
          exact Heap.lt_size ho
      have B2 : Begins (.ref b) { cls := .type (if t then "tuple_iterator" else "list_iterator"), data := .fields #[.ref b, .int 0 0] } (SqO t b its.toArray) := by
        cases t
        · exact begins_list b its.toArray
        · exact begins_tuple b its.toArray
      refine zip_begins2 (begins_text z u) B2 trivial p fun h' hz hTI hTO h1 h2 hsz hk => wpAny_pyIter_zip hz ?_
      have I2 : Inv X pins σ H1 { s1 with heap := h' } := I1.kept (t' := s1.toks) hk
      have S2 : ZipSep2 (s1.heap.objs.size + 4) (s1.heap.objs.size + 2) (s1.heap.objs.size + 3) s1.heap.objs.size (s1.heap.objs.size + 1) [s1.heap.objs.size] [s1.heap.objs.size + 1, b] :=
        ⟨aN _ (by decide : 2 ≠ 4), aN _ (by decide : 3 ≠ 4), aN _ (by decide : 2 ≠ 3), aN _ (by decide : 2 ≠ 0), by simp, fun h => aN _ (by decide : 4 ≠ 0) (List.mem_singleton.mp h), fun h => aN _ (by decide : 3 ≠ 0) (List.mem_singleton.mp h), aN _ (by decide : 2 ≠ 1), by simp,
          fun h => (List.mem_cons.mp h).elim (aN _ (by decide : 4 ≠ 1)) fun h => bN 4 hbl (List.mem_singleton.mp h).symm, fun h => (List.mem_cons.mp h).elim (aN _ (by decide : 3 ≠ 1)) fun h => bN 3 hbl (List.mem_singleton.mp h).symm, fun h => (List.mem_cons.mp h).elim (aN _ (by decide : 0 ≠ 1)) fun h => bN 0 hbl (List.mem_singleton.mp h).symm, fun h => aN _ (by decide : 1 ≠ 0) (List.mem_singleton.mp h)⟩
      refine ⟨s1.heap.objs.size + 4, [s1.heap.objs.size + 4, s1.heap.objs.size + 2, s1.heap.objs.size + 3, s1.heap.objs.size, s1.heap.objs.size + 1], _, _, H1, rfl, I2, turn_zipS (u0 := u) S2 (bN 1 hbl), ⟨hz, hTI, ⟨_, _, hTO⟩, ⟨_, h1, rfl, rfl⟩, ?_⟩, fresh5, q⟩
      cases t
      · exact ⟨_, h2, rfl, rfl⟩
      · exact ⟨_, h2, rfl, rfl⟩
theorem walk_zipS {K : PySem.W.Frag} {t : Bool} {z : Str} {b : Addr} {ys : List V} {n : Nat} (hn : n = min z.cps.size ys.length) :
    Walk (Itzs K t z b) n (fun H => Sq K t H b ys) (fun i H v H' => ∃ T c y, v = .ref T ∧ H T = none ∧ H' = upd H T (.tup [.str ⟨#[c]⟩, y]) ∧ z.cps[i]? = some c ∧ ys[i]? = some y) := by
  subst hn
  refine ⟨fun i H hi h => ?_, fun H h => ⟨ys, h, by omega, by omega, by omega⟩, fun i H v H' hi h y => ?_⟩
  · have h1 : i < z.cps.size := by omega
    have h2 : i < ys.length := by omega
    exact ⟨ys, z.cps[i], ys[i], h, by simp [h1], by simp [h2]⟩
  · obtain ⟨T, c, y, e1, e2, e3, e4, e5⟩ := y
    exact ⟨T, c, y, e1, e2, e3, e4, e5 ys h⟩
section
variable {J : It} {n : Nat} {G : Hp → Prop} {Y : Nat → Hp → V → Hp → Prop}
/-- a dict's comprehension over it -/
theorem dc_it (w : Walk J n G Y) {g : TG} {tt : TT} {tk tv : TE} {vs : List Nat} {σ : L2.St} {H1 : Hp} {D : Addr} {Qd : Hp → Prop} (Pv : Nat → Hp → Prop) (h0 : Pv 0 (upd H1 D (.dK []))) (hG : ∀ i H, i ≤ n → Pv i H → G H)
    (hs : ∀ i x H H', i < n → Pv i H → Y i H x H' → g x (wipe σ vs) H' fun σ2 H2 => wipe σ2 vs = wipe σ vs ∧ tt σ2 H2 fun b H3 =>
      if b = true then tk σ2 H3 fun y H4 => tv σ2 H4 fun z H5 => ∃ kvs k, y = kV k ∧ H5 D = some (.dK kvs) ∧ kvs.length < sizeLine ∧ Pv (i + 1) (upd H5 D (.dK (putK kvs k z))) else Pv (i + 1) H3) (hd : ∀ H, Pv n H → Qd H) :
    ∃ W : Nat → Nat → Hp → Prop, (∃ m, W 0 m (upd H1 D (.dK []))) ∧ ∀ i m H, W i m H →
      (J.stop i H ∧ Qd H) ∨ (J.go i H ∧ ∃ Nx : Hp → Prop, (∀ H', Nx H' → ∃ m', m' < m ∧ W (i + 1) m' H') ∧ ∀ x H', J.yld i H x H' → g x (wipe σ vs) H' fun σ2 H2 => wipe σ2 vs = wipe σ vs ∧ tt σ2 H2 fun b H3 =>
        if b = true then tk σ2 H3 fun y H4 => tv σ2 H4 fun z H5 => ∃ kvs k, y = kV k ∧ H5 D = some (.dK kvs) ∧ kvs.length < sizeLine ∧ Nx (upd H5 D (.dK (putK kvs k z))) else Nx H3) := by
  refine ⟨fun i m H => m = n - i ∧ i ≤ n ∧ Pv i H, ⟨n, by simp, Nat.zero_le _, h0⟩, ?_⟩
  rintro i m H ⟨rfl, hi, p⟩
  have q := hG i H hi p
  by_cases hlt : i < n
  · refine .inr ⟨w.goes i H hlt q, Pv (i + 1), fun H' p' => ⟨n - (i + 1), by omega, rfl, hlt, p'⟩, fun x H' y => hs i x H H' hlt p (w.yields i H x H' hlt q y)⟩
  · have e : i = n := by omega
    subst e
    exact .inl ⟨w.stops H q, hd H p⟩
end
end Lc
namespace Lc
open PySem PySem.Spec PyProof.Rows L2 Evl
/-! ### zip of two texts -/
def Itzt (x y : Str) : It :=
  ⟨fun i _ => ∃ (c d : Nat), x.cps[i]? = some c ∧ y.cps[i]? = some d,
    fun i H v H' => ∃ T c d, v = .ref T ∧ H T = none ∧ H' = upd H T (.tup [.str ⟨#[c]⟩, .str ⟨#[d]⟩]) ∧ x.cps[i]? = some c ∧ y.cps[i]? = some d,
    fun i _ => i ≤ x.cps.size ∧ i ≤ y.cps.size ∧ (i = x.cps.size ∨ i = y.cps.size)⟩
theorem turn_zipT {P : Program} {w : World} {K : PySem.W.Frag} {elts : List Expr} {kk : Nat} {tpos : Pos} {x y : Str} {u0 u1 : Tok} {z TI TO i1 i2 : Addr} (S : ZipSep2 z TI TO i1 i2 [i1] [i2]) :
    Turn P w K (.Tuple elts kk tpos) (Itzt x y) [z, TI, TO, i1, i2] z (fun i h => IsZip h z TI TO .none ∧ IsTupOf2 h TI (.ref i1) (.ref i2) ∧ (∃ a1 a2, IsTupOf2 h TO a1 a2) ∧ h.IsStrIter i1 (strIterType x) x u0 i ∧ h.IsStrIter i2 (strIterType y) y u1 i) where
  mem := by simp
  obj := fun i h st c hc => by
    obtain ⟨hz, hTI, ⟨a1, a2, hTO⟩, ⟨o1, e1, _, d1⟩, ⟨o2, e2, _, d2⟩⟩ := st
    have e' : c = z ∨ c = TI ∨ c = TO ∨ c = i1 ∨ c = i2 := by simpa using hc
    rcases e' with q | q | q | q | q
    · rw [q]; exact ⟨_, hz, fun v q => nomatch q⟩
    · rw [q]; exact ⟨_, hTI, fun v q => nomatch q⟩
    · rw [q]; exact ⟨_, hTO, fun v q => nomatch q⟩
    · rw [q]; exact ⟨o1, e1, fun v q => by rw [d1] at q; cases q⟩
    · rw [q]; exact ⟨o2, e2, fun v q => by rw [d2] at q; cases q⟩
  keep := fun i h h' st k => by
    obtain ⟨hz, hTI, ⟨x, y, hTO⟩, ⟨o1, e1, r1⟩, ⟨o2, e2, r2⟩⟩ := st
    exact ⟨k z (by simp) _ hz, k TI (by simp) _ hTI, ⟨x, y, k TO (by simp) _ hTO⟩, ⟨o1, k i1 (by simp) _ e1, r1⟩, ⟨o2, k i2 (by simp) _ e2, r2⟩⟩
  item := by
    intro X hP hw hK hc i pins s σ H E I hf st hg
    subst hP hw hK
    obtain ⟨hz, hTI, ⟨x0, y0, hTO⟩, h1, h2⟩ := st
    obtain ⟨c, d, hcx, hdy⟩ := hg
    have hzl : z < s.heap.objs.size := Heap.lt_size hz
    have hcl : i < x.cps.size := (Array.getElem?_eq_some_iff.mp hcx).1
    have hyl : i < y.cps.size := (Array.getElem?_eq_some_iff.mp hdy).1
    refine wpAny_pyNext_zipD2_item S (Draws.text (prog := X.prog) (w := X.w) (A := X.A.in1) (I.ok.hd hc) i1 x u0) (Draws.text (prog := X.prog) (w := X.w) (A := X.A.in1) (I.ok.hd hc) i2 y u1) hz hTI hTO h1 h2 hcl hyl fun v1 v2 h' tk y1 y2 z' TO' st1 st2 hT hsz hk => ?_
    obtain ⟨c', u, hc', rfl⟩ := y1
    rw [hcx] at hc'
    cases hc'
    obtain ⟨d', u2, hd', rfl⟩ := y2
    rw [hdy] at hd'
    cases hd'
    refine ⟨_, rfl, wpAny_letOwnedTupleGo_zip (s := { s with heap := h', toks := tk }) z' fun h'' z'' sb => ?_⟩
    have hT2 : h''.get? s.heap.objs.size = some { cls := .type "tuple", data := .seq #[.str ⟨#[c]⟩ u, .str ⟨#[d]⟩ u2] } := (sb.2 _ (Nat.ne_of_gt hzl)).trans hT
    have new : ObjOk X.prog X.w (upd H s.heap.objs.size (.tup [.str ⟨#[c]⟩, .str ⟨#[d]⟩])) h'' s.heap.objs.size (.tup [.str ⟨#[c]⟩, .str ⟨#[d]⟩]) :=
      ⟨by show 2 ≤ sizeLine; decide, [.str ⟨#[c]⟩ u, .str ⟨#[d]⟩ u2], .cons ⟨_, rfl⟩ (.cons ⟨_, rfl⟩ .nil), ⟨_, hT2, rfl, _, rfl⟩⟩
    have I1 : Inv X pins σ (upd H s.heap.objs.size (.tup [.str ⟨#[c]⟩, .str ⟨#[d]⟩])) { s with heap := h'', toks := tk } :=
      I.turnedNew (t' := tk) (ch := [z, TI, TO, i1, i2]) (fun c o hb q => (sb.2 c (fun q' => hb (by simp [q']))).trans (hk c o (fun q' => hb (by simp [q'])) (fun q' => hb (by simp [q'])) (fun q' => hb (by simp [q'])) (fun q' => hb (by simp [q'])) q)) hf (Nat.le_refl _) new
    refine ⟨.ref s.heap.objs.size, _, I1, rfl, ⟨_, c, d, rfl, I.hok.fresh (Nat.le_refl _), rfl, hcx, hdy⟩, ⟨z'', ?_, ⟨.str ⟨#[c]⟩ u, .str ⟨#[d]⟩ u2, ?_⟩, ?_, ?_⟩, fun c hcm => ?_⟩
    · exact (sb.2 _ S.TIz).trans (hk _ _ S.TIz S.TITO S.TIi1 S.TIi2 hTI)
    · exact (sb.2 _ S.TOz).trans TO'
    · obtain ⟨o1, e1, r1⟩ := st1
      exact ⟨o1, (sb.2 _ S.zi1.symm).trans e1, r1⟩
    · obtain ⟨o2, e2, r2⟩ := st2
      exact ⟨o2, (sb.2 _ S.zi2.symm).trans e2, r2⟩
    · have hlt : c < s.heap.objs.size := by
        have e' : c = z ∨ c = TI ∨ c = TO ∨ c = i1 ∨ c = i2 := by simpa using hcm
        rcases e' with q | q | q | q | q
        · rw [q]; exact hzl
        · rw [q]; exact Heap.lt_size hTI
        · rw [q]; exact Heap.lt_size hTO
        · rw [q]; obtain ⟨_, e1, _⟩ := h1; exact Heap.lt_size e1
        · rw [q]; obtain ⟨_, e2, _⟩ := h2; exact Heap.lt_size e2
      rw [upd_ne (Nat.ne_of_lt hlt)]
      exact (hf c hcm).1
  done := by
    intro X hP hw hK hc i pins s σ H E I hf st hg
    subst hP hw hK
    obtain ⟨hz, hTI, ⟨x0, y0, hTO⟩, h1, h2⟩ := st
    obtain ⟨l1, l2, hend⟩ := hg
    have D1 := Draws.text (prog := X.prog) (w := X.w) (A := X.A.in1) (I.ok.hd hc) i1 x u0
    have D2 := Draws.text (prog := X.prog) (w := X.w) (A := X.A.in1) (I.ok.hd hc) i2 y u1
    exact wpAny_pyNext_zipD2_end S D1 D2 hz hTI hTO h1 h2 l1 l2 hend fun h' tk hk => ⟨rfl, I.turnedL (t' := tk) (ch := [z, TI, TO, i1, i2]) (fun c o hb q =>
      hk c o (fun q' => hb (by simp [q'])) (fun q' => hb (by simp [q'])) (fun q' => hb (by simp [q'])) (fun q' => hb (by simp [q'])) q) hf⟩
  self := fun A i s Q E st h => wpAny_pyIter_zip st.1 h
def iZipT (ta : TA) : TI := fun σ H R => ta σ H fun vs H1 => ∃ (x y : Str), vs = [.str x, .str y] ∧ R (Itzt x y) H1
theorem pi_zipT {X : Cx} {e e2 : Expr} {ta : TA} {p pos tpos : Pos} {elts : List Expr} {kk : Nat} (hg : Gl X "zip") (hm : X.mg "zip" = none) (ha : PA X [e, e2] ta)
    (hs : starEach [e, e2] X.env = (false, eval e X.env) :: starEach [e2] X.env := by rfl) (hpl : (backTo pos (starEach [e2] X.env)).any (·.1) = false := by rfl) :
    PI X (.Tuple elts kk tpos) (.Call (.Name "zip" p) [e, e2] [] pos) (iZipT ta) := by
  refine ⟨fun pins s σ H R I h => ?_⟩
  refine Call_ (ld_blt I hg hm PyProof.Rows.boot_zip (PyProof.Rows.callWith_type1 (thn (ha.run pos pins s σ H _ I h) fun us s1 ⟨vs, H1, I1, r1, q1⟩ => ?_) hs hpl))
  obtain ⟨x, y, ex, q⟩ := q1
  subst ex
  cases r1 with
  | cons r rr =>
    cases rr with
    | cons r' rr =>
      cases rr
      obtain ⟨u, rfl⟩ := r
      obtain ⟨u', rfl⟩ := r'
      have fresh5 : ∀ c, c ∈ [s1.heap.objs.size + 4, s1.heap.objs.size + 2, s1.heap.objs.size + 3, s1.heap.objs.size, s1.heap.objs.size + 1] → FpOk X pins H1 c := fun c hcm => by
        have e' : c = s1.heap.objs.size + 4 ∨ c = s1.heap.objs.size + 2 ∨ c = s1.heap.objs.size + 3 ∨ c = s1.heap.objs.size ∨ c = s1.heap.objs.size + 1 := by simpa using hcm
        have hle : s1.heap.objs.size ≤ c := by
          rcases e' with z | z | z | z | z
          · rw [z]; exact Nat.le_add_right _ _
          · rw [z]; exact Nat.le_add_right _ _
          · rw [z]; exact Nat.le_add_right _ _
          · rw [z]; exact Nat.le_refl _
          · rw [z]; exact Nat.le_add_right _ _
        exact I1.fpOk hle (I1.hok.fresh hle)
      refine zip_begins2 (begins_text x u) (begins_text y u') trivial trivial fun h' hz hTI hTO h1 h2 hsz hk => wpAny_pyIter_zip hz ?_
      have I2 : Inv X pins σ H1 { s1 with heap := h' } := I1.kept (t' := s1.toks) hk
      have S2 : ZipSep2 (s1.heap.objs.size + 4) (s1.heap.objs.size + 2) (s1.heap.objs.size + 3) s1.heap.objs.size (s1.heap.objs.size + 1) [s1.heap.objs.size] [s1.heap.objs.size + 1] :=
        ⟨aN _ (by decide : 2 ≠ 4), aN _ (by decide : 3 ≠ 4), aN _ (by decide : 2 ≠ 3), aN _ (by decide : 2 ≠ 0), by simp, fun h => aN _ (by decide : 4 ≠ 0) (List.mem_singleton.mp h), fun h => aN _ (by decide : 3 ≠ 0) (List.mem_singleton.mp h), aN _ (by decide : 2 ≠ 1), by simp,
          fun h => aN _ (by decide : 4 ≠ 1) (List.mem_singleton.mp h), fun h => aN _ (by decide : 3 ≠ 1) (List.mem_singleton.mp h), fun h => aN _ (by decide : 0 ≠ 1) (List.mem_singleton.mp h), fun h => aN _ (by decide : 1 ≠ 0) (List.mem_singleton.mp h)⟩
      exact ⟨s1.heap.objs.size + 4, [s1.heap.objs.size + 4, s1.heap.objs.size + 2, s1.heap.objs.size + 3, s1.heap.objs.size, s1.heap.objs.size + 1], _, _, H1, rfl, I2, turn_zipT (u0 := u) (u1 := u') S2, ⟨hz, hTI, ⟨_, _, hTO⟩, ⟨_, h1, rfl, rfl⟩, ⟨_, h2, rfl, rfl⟩⟩, fresh5, q⟩
theorem walk_zipT {x y : Str} {n : Nat} (hn : n = min x.cps.size y.cps.size) :
    Walk (Itzt x y) n (fun _ => True) (fun i H v H' => ∃ T c d, v = .ref T ∧ H T = none ∧ H' = upd H T (.tup [.str ⟨#[c]⟩, .str ⟨#[d]⟩]) ∧ x.cps[i]? = some c ∧ y.cps[i]? = some d) := by
  subst hn
  refine ⟨fun i H hi h => ?_, fun H h => ⟨by omega, by omega, by omega⟩, fun i H v H' hi h y => y⟩
  have h1 : i < x.cps.size := by omega
  have h2 : i < y.cps.size := by omega
  exact ⟨x.cps[i], y.cps[i], by simp [h1], by simp [h2]⟩
theorem walk_enumS {z : Str} : Walk (Itn z) z.cps.size (fun _ => True) (fun i H v H' => ∃ T c, v = .ref T ∧ H T = none ∧ H' = upd H T (.tup [.int (i : Nat), .str ⟨#[c]⟩]) ∧ z.cps[i]? = some c) :=
  ⟨fun i H hi _ => hi, fun H _ => Nat.le_refl _, fun i H v H' hi h y => y⟩
end Lc
namespace Lc
open PySem PySem.Spec PyProof.Rows L2 Evl
section
variable {K : PySem.W.Frag} {σ : L2.St} {H H' : Hp} {ta tb te : TE} {t : TT} {x y z v : V} {tA : TA}
theorem el_lcZT {a b : List Nat} {p q n : Nat} {vs : List Nat} (f : Nat → Bool) (v : Nat → V) (hn : n = min a.length b.length) (h : EvA tA σ H [.str (S a), .str (S b)]) (hz : n ≤ 40000) (hw : ∀ x y, wipe (((wipe σ vs).set p (some x)).set q (some y)) vs = wipe σ vs)
    (ht : ∀ (i c d : Nat) H1, Ex H H1 → a[i]? = some c → b[i]? = some d → EvT t (((wipe σ vs).set p (some (.str (S [c])))).set q (some (.str (S [d])))) H1 (f i))
    (he : ∀ (i c d : Nat) H1, Ex H H1 → a[i]? = some c → b[i]? = some d → f i = true → Ev te (((wipe σ vs).set p (some (.str (S [c])))).set q (some (.str (S [d])))) H1 (v i)) :
    EvL (tLc (iZipT tA) (gTup K 2 (gCons (gName p) (gCons (gName q) gNil))) t te vs) σ H (given n f v) := fun H0 e Q qq => h H0 e _ fun H1 e1 => ⟨S a, S b, rfl, fun Dl hD => by
  refine lc_it (walk_zipT (x := S a) (y := S b) (n := n) (by rw [its_sz, its_sz]; exact hn)) (Cw H1 f v Dl) ⟨hD, Ex.new hD, upd_same⟩ (fun _ _ _ _ => trivial) ?_ (fun H' pc => qq Dl H' (fresh_back e1 pc.1) (e1.trans pc.2.1) pc.2.2)
  rintro i x H2 H3 hi pc ⟨T, c, d, rfl, hT, rfl, hc, hd⟩
  refine gpair upd_same ⟨hw _ _, ?_⟩
  have pc2 : Cw H1 f v Dl i (upd H2 T (.tup [.str (S [c]), .str (S [d])])) := ⟨pc.1, pc.2.1.trans (Ex.new hT), (Ex.new hT) _ _ pc.2.2⟩
  exact cw_turn pc2 (by omega) (ht i c d H1 (e.trans e1) (its_at hc) (its_at hd)) (fun hf => he i c d H1 (e.trans e1) (its_at hc) (its_at hd) hf)⟩
/-! ### the places of signs in a text, as a dict -/
def col (l : List Nat) (i : Nat) : List (Key × V) := (List.range i).map fun k => (Sum.inr (S [l.getD k 0]), V.int (k : Int))
theorem S_inj1 {a b : Nat} (h : S [a] = S [b]) : a = b := by
  have := congrArg (fun z : Str => z.cps.toList) h
  have h2 : [a] = [b] := this
  exact (List.cons.inj h2).1
theorem col_none {l : List Nat} {i c : Nat} (h : ∀ k, k < i → l.getD k 0 ≠ c) : valV (col l i) (Sum.inr (S [c])) = none := by
  unfold valV col
  rw [Option.map_eq_none_iff, List.find?_eq_none]
  rintro ⟨k, v⟩ hm
  obtain ⟨j, hj, e⟩ := List.mem_map.mp hm
  cases e
  simp only [decide_eq_true_eq]
  intro z
  exact h j (List.mem_range.mp hj) (S_inj1 (Sum.inr.inj z))
theorem col_succ (l : List Nat) (i : Nat) : col l (i + 1) = col l i ++ [(Sum.inr (S [l.getD i 0]), V.int (i : Int))] := by
  unfold col
  rw [List.range_succ, List.map_append]
  rfl
theorem nd_getD {l : List Nat} (h : l.Nodup) {i j : Nat} (hi : i < l.length) (hj : j < l.length) (e : l.getD i 0 = l.getD j 0) : i = j := by
  rw [List.getD_eq_getElem?_getD, List.getElem?_eq_getElem hi, List.getD_eq_getElem?_getD, List.getElem?_eq_getElem hj] at e
  exact (List.getElem_inj h).mp e
theorem col_put {l : List Nat} (h : l.Nodup) {i : Nat} (hi : i < l.length) : putK (col l i) (Sum.inr (S [l.getD i 0])) (.int (i : Int)) = col l (i + 1) := by
  rw [putK_new _ (col_none fun k hk e => by have := nd_getD h (by omega) hi e; omega), col_succ]
theorem col_at {l : List Nat} (h : l.Nodup) : ∀ n, n ≤ l.length → ∀ k, k < n → valV (col l n) (Sum.inr (S [l.getD k 0])) = some (V.int (k : Int))
  | 0, _, k, hk => absurd hk (Nat.not_lt_zero _)
  | n + 1, hn, k, hk => by
    rw [col_succ, valV_snoc _ _ _ _ (col_none fun j hj e => by have := nd_getD h (by omega) (by omega) e; omega)]
    by_cases e : k = n
    · subst e
      rw [if_pos rfl]
    · rw [if_neg (fun z => e (nd_getD h (by omega) (by omega) (S_inj1 (Sum.inr.inj z))))]
      exact col_at h n (by omega) k (by omega)
theorem col_val {l : List Nat} (h : l.Nodup) (c : Nat) : valV (col l l.length) (Sum.inr (S [c])) = if c ∈ l then some (V.int (l.idxOf c : Nat)) else none := by
  by_cases hc : c ∈ l
  · rw [if_pos hc]
    have hi := List.idxOf_lt_length_of_mem hc
    have e : l.getD (l.idxOf c) 0 = c := by
      rw [List.getD_eq_getElem?_getD, List.getElem?_eq_getElem hi]
      exact List.getElem_idxOf hi
    have h2 := col_at h l.length (Nat.le_refl _) (l.idxOf c) hi
    rwa [e] at h2
  · rw [if_neg hc]
    refine col_none fun k hk e => hc ?_
    rw [← e, List.getD_eq_getElem?_getD, List.getElem?_eq_getElem hk]
    exact List.getElem_mem hk
/-- {sign: at for at, sign in enumerate(text)} -/
theorem q_asgCol {l : List Nat} {p q i : Nat} {vs : List Nat} {tz : TS} {Dn : Ends} (h : EvA tA σ H [.str (S l)]) (hnd : l.Nodup) (hl : l.length ≤ 1000) (hw : ∀ x y, wipe (((wipe σ vs).set p (some x)).set q (some y)) vs = wipe σ vs) (hq : ∀ x y, (((wipe σ vs).set p (some x)).set q (some y))[q]? = some (some y) ∧ (((wipe σ vs).set p (some x)).set q (some y))[p]? = some (some x))
    (k : ∀ D H1, H D = none → Ex H H1 → H1 D = some (.dK (col l l.length)) → tz Dn (σ.set i (some (.ref D))) H1) : tSeq (tAsg (tDc (iEnumS tA) (gTup K 2 (gCons (gName p) (gCons (gName q) gNil))) tYes (tVar q) (tVar p) vs) (gName i)) tz Dn σ H := by
  refine Lc.q_first ?_
  refine h H (Ex.refl H) _ fun H1 e1 => ⟨S l, rfl, fun D hD => ?_⟩
  refine dc_it (walk_enumS (z := S l)) (fun i H' => Ex H1 H' ∧ H' D = some (.dK (col l i))) ⟨Ex.new hD, upd_same⟩ (fun _ _ _ _ => trivial) ?_ ?_
  · rintro i x H2 H3 hi ⟨e2, hd2⟩ ⟨T, c, rfl, hT, rfl, hc⟩
    have hi2 : i < l.length := by rw [its_sz] at hi; exact hi
    have hc2 := its_at hc
    have ec : c = l.getD i 0 := by rw [List.getD_eq_getElem?_getD, hc2]; rfl
    have hDT : D ≠ T := fun z => by rw [z, hT] at hd2; cases hd2
    refine gpair upd_same ⟨hw _ _, ?_⟩
    unfold tYes
    dsimp only
    rw [if_pos rfl]
    refine ⟨_, (hq _ _).1, _, (hq _ _).2, col l i, Sum.inr (S [l.getD i 0]), by rw [ec]; rfl, by rw [upd_ne hDT]; exact hd2, Nat.lt_of_le_of_lt (show (col l i).length ≤ 1000 by unfold col; rw [List.length_map, List.length_range]; omega) (by decide), Ex.mut (e2.trans (Ex.new hT)) hD, ?_⟩
    rw [upd_same, col_put hnd hi2]
  · rintro H2 ⟨e2, hd2⟩
    rw [its_sz] at hd2
    exact k D H2 (fresh_back e1 hD) (e1.trans e2) hd2
theorem ev_din' {ty td : TE} {a : Addr} {kv : List (Key × V)} {n : Str} (h1 : Ev ty σ H (.str n)) (h2 : Ev td σ H (.ref a)) (ha : H a = some (.dK kv)) : Ev (tDIn ty td) σ H (.bl (valV kv (Sum.inr n)).isSome) := fun H1 e Q q =>
  h1 H1 e _ fun H2 e2 => h2 H2 (e.trans e2) _ fun H3 e3 => ⟨a, _, rfl, DGet.k (k := Sum.inr n) (((e.trans e2).trans e3) _ _ ha), q H3 (e2.trans e3)⟩
theorem ev_dget' {ty td : TE} {a : Addr} {kv : List (Key × V)} {n : Str} {v : V} (h2 : Ev td σ H (.ref a)) (h1 : Ev ty σ H (.str n)) (ha : H a = some (.dK kv)) (hv : valV kv (Sum.inr n) = some v) : Ev (tDGet td ty) σ H v := fun H1 e Q q =>
  h2 H1 e _ fun H2 e2 => h1 H2 (e.trans e2) _ fun H3 e3 => ⟨a, v, rfl, by rw [← hv]; exact DGet.k (k := Sum.inr n) (((e.trans e2).trans e3) _ _ ha), q H3 (e2.trans e3)⟩
end
end Lc
namespace K49
open PySem PySem.Spec PyProof.Rows L2 Lc Evl
section
variable {P : Program} {w : World} {K : PySem.W.Frag} {mg : Str → Option Value} {base : Heap}
theorem getD_lt {l : List Nat} {i c : Nat} (h : l[i]? = some c) : l.getD i 0 = c ∧ c ∈ l ∧ i < l.length := by
  refine ⟨?_, List.mem_of_getElem? h, ?_⟩
  · rw [List.getD_eq_getElem?_getD, h]
    rfl
  · by_cases hh : i < l.length
    · exact hh
    · rw [List.getElem?_eq_none (by omega)] at h
      cases h
theorem rc_any {H : Hp} {p : Addr} {bs : List Bool} (h : SqL K H p (bs.map V.bl)) : RC (rAny K) [.ref p] H (.bl (bs.any id)) := fun H1 e _ q => ⟨p, bs, rfl, ex_l e h, q H1 (Ex.refl H1)⟩
theorem rc_all {H : Hp} {p : Addr} {bs : List Bool} (h : SqL K H p (bs.map V.bl)) : RC (rAll K) [.ref p] H (.bl (bs.all id)) := fun H1 e _ q => ⟨p, bs, rfl, ex_l e h, q H1 (Ex.refl H1)⟩
theorem ev_any {σ : L2.St} {H : Hp} {te : TE} {bs : List Bool} (h : EvL te σ H (bs.map V.bl)) : Ev (tCB (rAny K) (tCons te tNil)) σ H (.bl (bs.any id)) := ev_cbL h fun p H1 hp e => rc_any (sq_of hp)
theorem ev_all {σ : L2.St} {H : Hp} {te : TE} {bs : List Bool} (h : EvL te σ H (bs.map V.bl)) : Ev (tCB (rAll K) (tCons te tNil)) σ H (.bl (bs.all id)) := ev_cbL h fun p H1 hp e => rc_all (sq_of hp)
theorem el_mapS {σ : L2.St} {H : Hp} {tl te : TE} {l : List Nat} {j : Nat} {vs : List Nat} (f : Nat → Bool) (h : Ev tl σ H (.str (S l))) (hz : l.length ≤ 40000) (hw : ∀ x, wipe ((wipe σ vs).set j (some x)) vs = wipe σ vs)
    (he : ∀ (c : Nat) H1, Ex H H1 → c ∈ l → Ev te ((wipe σ vs).set j (some (.str (S [c])))) H1 (.bl (f c))) : EvL (tLc (iStr tl) (gName j) tYes te vs) σ H ((l.map f).map V.bl) := by
  have h2 := el_lcS (t := tYes) (te := te) (j := j) (vs := vs) (fun _ => true) (fun i => V.bl (f (l.getD i 0))) h hz hw (fun i c H1 _ _ => et_yes) (fun i c H1 e hi _ => by
    have e0 : l.getD i 0 = c := by
      rw [List.getD_eq_getElem?_getD, hi]
      rfl
    rw [e0]
    exact he c H1 e (List.mem_of_getElem? hi))
  rw [given_all] at h2
  have e1 : (l.map f).map V.bl = (List.range l.length).map fun i => V.bl (f (l.getD i 0)) := by
    apply List.ext_getElem
    · simp
    · intro i h1 h2
      simp at h1
      simp [h1]
  rw [e1]
  exact h2
/-! ### the errors -/
abbrev cL (K : PySem.W.Frag) : Addr := He.ga K "LeapError"
theorem reprS_len {l : List Nat} (h : l.length ≤ 1000) (hc : ∀ c ∈ l, c < 128) : (reprText (S l)).length ≤ 20000 := by
  have h1 := PySem.StrLaws.reprText_len (S l) fun c hm => Nat.lt_trans (hc c hm) (by decide)
  rw [S_len] at h1
  omega
theorem len_app (a b : Str) : (a ++ b).length = a.length + b.length := by
  rw [TL.len_tl, TL.len_tl, TL.len_tl, TL.tl_append, List.length_append]
/-- what an error's __init__ leaves behind -/
def Made (K : PySem.W.Frag) (c f : Str) (H : Hp) (a : Addr) (x : V) (Q : VK) : Prop := H a = some (exo a (He.ga K c) none) ∧ ∀ dx, H dx = none → dx ≠ a → Q .non (upd (upd H dx (exd dx [(f, x)])) a (exo a (He.ga K c) (some dx)))
/-- the values that an error keeps -/
def KS (x : V) : Prop := ∃ l : List Nat, x = .str (S l) ∧ l.length ≤ 1000 ∧ ∀ c ∈ l, c < 128
def KI (x : V) : Prop := ∃ i : Int, x = .int i ∧ i.natAbs.log2 < 1900
def KT_ (H : Hp) (x : V) : Prop := ∃ (t : Addr) (l : List Nat), x = .ref t ∧ H t = some (.tup [.str "stuck", .str (S l)]) ∧ l.length ≤ 1000 ∧ ∀ c ∈ l, c < 128
theorem int_len {i : Int} (h : i.natAbs.log2 < 1900) : (Str.ofString (toString i)).length ≤ 1901 := by
  have e := PySem.int_text_length_le (k := 1900) (by decide) h
  rw [PySem.ofString_length]
  exact e

def sp_InvalidRow_init (K : PySem.W.Frag) : Sp := fun vs H Q _ => ∃ (a : Addr) (x : V), vs = [.ref a, x] ∧ KS x ∧ Made K "InvalidRow" "row" H a x Q
theorem ok_InvalidRow_init (T : Tx K mg w) : OkD P w K mg base 1 d_InvalidRow_init ps_InvalidRow_init (sp_InvalidRow_init K) := by
  refine (h_InvalidRow_init T).ok sc_InvalidRow_init (fun vs H Q E h => ?_) (fun cdv A outer s H vs Q E hr h => ⟨_,
      (pss_cons (ps_expr (pe_ownInit (CL := cL K) (by rfl) (m_LeapError T) (by decide) (x_InvalidRow T).sp (x_InvalidRow T).rd (x_InvalidRow T).vV (pa_cons (pv 0) (pa_cons (pe_joined (.cons pe_str (.cons (pe_fmtR (pv 1)) .nil))) pa_nil))))
      (pss_one (ps_ost (pv 0) (pv 1)))), ?_⟩)
  · obtain ⟨a, x, rfl, _⟩ := h
    rfl
  · obtain ⟨a, x, rfl, ⟨l, rfl, hl, hc⟩, ha, q⟩ := h
    have hrp := reprS_len hl hc
    refine ⟨_, rfl, ?_⟩
    refine ⟨_, rfl, by decide +kernel, ?_⟩
    refine ⟨_, rfl, .inl ⟨_, rfl, sz_of (by omega), ?_⟩⟩
    refine ⟨_, rfl, ?_, ?_⟩
    · rw [len_app, len_app]
      have h1 : (Str.empty).length = 0 := by decide +kernel
      have h2 : (Str.ofString "a sign is not allowed in this row: ").length ≤ 100 := by decide +kernel
      exact sz_of (by omega)
    refine ⟨a, He.ga K "InvalidRow", _, rfl, by simp, (x_InvalidRow T).oex, ha, ?_⟩
    exact ⟨_, rfl, _, rfl, a, He.ga K "InvalidRow", rfl, (x_InvalidRow T).oex, (x_InvalidRow T).no, .inl ⟨ha, fun dx hd hda => q dx hd hda⟩⟩

def sp_InvalidMachine_init (K : PySem.W.Frag) : Sp := fun vs H Q _ => ∃ (a : Addr) (x : V), vs = [.ref a, x] ∧ KS x ∧ Made K "InvalidMachine" "part" H a x Q
theorem ok_InvalidMachine_init (T : Tx K mg w) : OkD P w K mg base 1 d_InvalidMachine_init ps_InvalidMachine_init (sp_InvalidMachine_init K) := by
  refine (h_InvalidMachine_init T).ok sc_InvalidMachine_init (fun vs H Q E h => ?_) (fun cdv A outer s H vs Q E hr h => ⟨_,
      (pss_cons (ps_expr (pe_ownInit (CL := cL K) (by rfl) (m_LeapError T) (by decide) (x_InvalidMachine T).sp (x_InvalidMachine T).rd (x_InvalidMachine T).vV (pa_cons (pv 0) (pa_cons (pe_joined (.cons pe_str (.cons (pe_fmtR (pv 1)) .nil))) pa_nil))))
      (pss_one (ps_ost (pv 0) (pv 1)))), ?_⟩)
  · obtain ⟨a, x, rfl, _⟩ := h
    rfl
  · obtain ⟨a, x, rfl, ⟨l, rfl, hl, hc⟩, ha, q⟩ := h
    have hrp := reprS_len hl hc
    refine ⟨_, rfl, ?_⟩
    refine ⟨_, rfl, by decide +kernel, ?_⟩
    refine ⟨_, rfl, .inl ⟨_, rfl, sz_of (by omega), ?_⟩⟩
    refine ⟨_, rfl, ?_, ?_⟩
    · rw [len_app, len_app]
      have h1 : (Str.empty).length = 0 := by decide +kernel
      have h2 : (Str.ofString "wrong part of a machine: ").length ≤ 100 := by decide +kernel
      exact sz_of (by omega)
    refine ⟨a, He.ga K "InvalidMachine", _, rfl, by simp, (x_InvalidMachine T).oex, ha, ?_⟩
    exact ⟨_, rfl, _, rfl, a, He.ga K "InvalidMachine", rfl, (x_InvalidMachine T).oex, (x_InvalidMachine T).no, .inl ⟨ha, fun dx hd hda => q dx hd hda⟩⟩

def sp_InvalidPlace_init (K : PySem.W.Frag) : Sp := fun vs H Q _ => ∃ (a : Addr) (x : V), vs = [.ref a, x] ∧ KI x ∧ Made K "InvalidPlace" "place" H a x Q
theorem ok_InvalidPlace_init (T : Tx K mg w) : OkD P w K mg base 1 d_InvalidPlace_init ps_InvalidPlace_init (sp_InvalidPlace_init K) := by
  refine (h_InvalidPlace_init T).ok sc_InvalidPlace_init (fun vs H Q E h => ?_) (fun cdv A outer s H vs Q E hr h => ⟨_,
      (pss_cons (ps_expr (pe_ownInit (CL := cL K) (by rfl) (m_LeapError T) (by decide) (x_InvalidPlace T).sp (x_InvalidPlace T).rd (x_InvalidPlace T).vV (pa_cons (pv 0) (pa_cons (pe_joined (.cons pe_str (.cons (pe_fmtR (pv 1)) .nil))) pa_nil))))
      (pss_one (ps_ost (pv 0) (pv 1)))), ?_⟩)
  · obtain ⟨a, x, rfl, _⟩ := h
    rfl
  · obtain ⟨a, x, rfl, ⟨i, rfl, hi⟩, ha, q⟩ := h
    refine ⟨_, rfl, ?_⟩
    refine ⟨_, rfl, by decide +kernel, ?_⟩
    refine ⟨_, rfl, .inr ⟨_, rfl, Nat.lt_trans hi (by decide), ?_⟩⟩
    refine ⟨_, rfl, ?_, ?_⟩
    · rw [len_app, len_app]
      have h1 : (Str.empty).length = 0 := by decide +kernel
      have h2 : (Str.ofString "no such place: ").length ≤ 100 := by decide +kernel
      have h3 := int_len hi
      exact sz_of (by omega)
    refine ⟨a, He.ga K "InvalidPlace", _, rfl, by simp, (x_InvalidPlace T).oex, ha, ?_⟩
    exact ⟨_, rfl, _, rfl, a, He.ga K "InvalidPlace", rfl, (x_InvalidPlace T).oex, (x_InvalidPlace T).no, .inl ⟨ha, fun dx hd hda => q dx hd hda⟩⟩
/-! ### what is raised -/
def Bad (K : PySem.W.Frag) (c f : Str) (H : Hp) (E : XK) (x : V) : Prop := ∀ d H', H d = none → Ex H H' → H' d = some (.xd [(f, x)]) → E (.ref (He.ga K c)) (some d) H'
theorem Bad.ex {c f : Str} {H H' : Hp} {E : XK} {x : V} (h : Bad K c f H E x) (e : Ex H H') : Bad K c f H' E x := fun d H2 hd e2 hx => h d H2 (fresh_back e hd) (e.trans e2) hx
/-- raise C(x) -/
theorem bad_go {c f : Str} {H : Hp} {E : XK} {x : V} {a dx : Addr} {o1 : HO} (q : Bad K c f H E x) (ha : H a = none) (hd : upd H a o1 dx = none) (hda : dx ≠ a) (u v : HO) :
    E (.ref (He.ga K c)) (some dx) (upd (del (upd (upd (upd H a o1) dx u) a v) a) dx (.xd [(f, x)])) := by
  rw [upd_ne hda] at hd
  refine q dx _ hd ?_ upd_same
  intro b o hb
  have n1 : b ≠ dx := fun z => by rw [z, hd] at hb; cases hb
  have n2 : b ≠ a := fun z => by rw [z, ha] at hb; cases hb
  rw [upd_ne n1, del_ne n2, upd_ne n2, upd_ne n1, upd_ne n2]
  exact hb
theorem mk_go {c f : Str} {H : Hp} {E : XK} {x : V} {a : Addr} (q : Bad K c f H E x) (ha : H a = none) :
    Made K c f (upd H a (exo a (He.ga K c) none)) a x fun v H2 => v = .non ∧ ∃ (d : Addr) (fs : List (Str × V)), H2 a = some (exo a (He.ga K c) (some d)) ∧ H2 d = some (exd d fs) ∧ H d = none ∧ E (.ref (He.ga K c)) (some d) (upd (del H2 a) d (.xd fs)) := by
  refine ⟨upd_same, fun dx hd hda => ⟨rfl, dx, _, upd_same, by rw [upd_ne hda, upd_same], ?_, bad_go q ha hd hda _ _⟩⟩
  rw [upd_ne hda] at hd
  exact hd
theorem b_check_row (T : Tx K mg w) : ∃ ds, Vals [V.str "#.:ABCDabcd"] ds ∧ Binds K (fdOf K (d_check_row.at_ K)) ps_check_row ds :=
  FunD.binds1 (ps := ps_check_row) (h_check_row T) 1 0 (by simp [He5.DefA.dvs, d_check_row]) rfl fun T kV doc pm an cdv ct us its hu hi => match us, its, hu, hi with
    | [_], [_], _, _ => ⟨_, rfl, rfl⟩
def sp_check_row (K : PySem.W.Frag) : Sp := fun vs H Q E => ∃ (l g : List Nat), vs = [.str (S l), .str (S g)] ∧ l.length ≤ 1000 ∧ g.length ≤ 1000 ∧ (∀ c ∈ l, c < 128) ∧ ((∀ c ∈ l, c ∈ g) → RetV .non H Q) ∧ ((¬ ∀ c ∈ l, c ∈ g) → Bad K "InvalidRow" "row" H E (.str (S l)))
theorem ok_check_row (T : Tx K mg w) : OkD P w K mg base 3 d_check_row ps_check_row (sp_check_row K) := by
  refine (h_check_row T).ok sc_check_row (fun vs H Q E h => ?_) (fun cdv A outer s H vs Q E hr h => ⟨_,
      (pss_one (ps_for (passes_of rfl) rfl (pi_str (pv 0)) (pg_name (i := 2) sc_check_row.nd rfl (Or.inl rfl)) (pss_one (ps_if (pt_cmpR op_notIn_sign (pv 2) (pv 1) (by rfl)) (pss_one (L2N.ps_raise rfl (L2N.takes_of rfl rfl rfl rfl) (pmkN_oex (x_InvalidRow T).oex (x_InvalidRow T).iC (x_InvalidRow T).tI (ok_InvalidRow_init (P := P) (w := w) (base := base) T) (hr.mono (by decide)) (b_InvalidRow_init T) .nil passN (by rfl) (m_InvalidRow T) (pa_cons (pv 0) pa_nil)))) pss_nil)))), ?_⟩)
  · obtain ⟨l, g, rfl, _⟩ := h
    rfl
  · obtain ⟨l, g, rfl, hl, hg, hc, q1, q2⟩ := h
    refine s_forS (l := l) (by repeat' (first | ((with_reducible refine ev_pow10 ?_ ?_ ?_) <;> first | rfl | decide) | (with_reducible refine fun (_ : _ = true) => ?_) | (with_reducible refine fun (_ : _ = false) => ?_) | (with_reducible exact ev_c) | ((with_reducible apply ev_var); rfl) | (with_reducible apply ev_op) | (with_reducible apply ev_un) | (with_reducible apply ev_cb) | (with_reducible apply ea_cons) | (with_reducible apply ev_andV) | (with_reducible apply ev_orV) | (with_reducible apply ev_notV) | (with_reducible apply ev_if) | (with_reducible apply eo_some) | (with_reducible apply el_lst) | (with_reducible exact ea_nil) | (with_reducible exact rv_I0) | (with_reducible exact ru_neg) | (with_reducible exact rv_ltS) | (with_reducible exact rv_inC) | (with_reducible exact rv_notInC) | (with_reducible exact rc_intI) | (with_reducible exact rc_intB) | (with_reducible exact rc_min2) | (with_reducible exact rc_isStr) | (with_reducible exact eo_none) | (with_reducible exact rv_inSS) | (with_reducible exact rv_notInSS) | (with_reducible exact rv_ltSS) | (with_reducible exact rv_eqSS) | (with_reducible exact rv_eqII) | (with_reducible exact rv_neII) | (with_reducible exact rv_neSS) | ((with_reducible refine rc_lenSS ?_); (first | assumption | omega | decide | (simp only [S_len] at *; omega))) | ((with_reducible refine rc_lenStr ?_); (first | assumption | omega | decide | (simp only [S_len] at *; omega))) | ((with_reducible refine rv_catSS ?_); (first | assumption | omega | decide | (simp only [S_len] at *; omega))) | (with_reducible exact rv_eq rfl) | (with_reducible exact rv_ne rfl) | ((with_reducible refine rc_lenS ?_); (first | assumption | omega | decide | (simp only [S_len] at *; omega))) | ((with_reducible refine rc_lenL ?_); assumption) | ((with_reducible apply rv_ixL); assumption; rfl) | ((with_reducible refine rv_catS ?_); (first | assumption | omega | decide | (simp only [S_len] at *; omega))) | ((with_reducible refine rv_I ?_); (first | (show (0 : Int) < _; (first | assumption | omega | decide | (simp only [S_len] at *; omega))) | exact .inr ⟨by decide, by decide⟩ | exact .inl ⟨by (first | assumption | omega | decide | (simp only [S_len] at *; omega)), by (first | assumption | omega | decide | (simp only [S_len] at *; omega))⟩ | exact .inr ⟨by (first | assumption | omega | decide | (simp only [S_len] at *; omega)), by (first | assumption | omega | decide | (simp only [S_len] at *; omega))⟩ | exact ⟨by decide, by decide, by decide⟩ | exact wide_div (b := 128) (by (first | assumption | omega | decide | (simp only [S_len] at *; omega))) (by (first | assumption | omega | decide | (simp only [S_len] at *; omega))) (by decide) (by decide))))) (fun i σ' H' => Ex H H' ∧ (∀ c ∈ l.take i, c ∈ g) ∧ ∃ kv, σ' = [some (.str (S l)), some (.str (S g)), kv]) (fun H1 e1 => ⟨e1, by simp, none, rfl⟩) ?_ ?_
    · rintro i c σ' H' hi ⟨e, hp, kv, rfl⟩
      refine s_if (b := !decide (c ∈ g)) (by first | ((with_reducible apply et_test); (repeat' (first | ((with_reducible refine ev_pow10 ?_ ?_ ?_) <;> first | rfl | decide) | (with_reducible refine fun (_ : _ = true) => ?_) | (with_reducible refine fun (_ : _ = false) => ?_) | (with_reducible exact ev_c) | ((with_reducible apply ev_var); rfl) | (with_reducible apply ev_op) | (with_reducible apply ev_un) | (with_reducible apply ev_cb) | (with_reducible apply ea_cons) | (with_reducible apply ev_andV) | (with_reducible apply ev_orV) | (with_reducible apply ev_notV) | (with_reducible apply ev_if) | (with_reducible apply eo_some) | (with_reducible apply el_lst) | (with_reducible exact ea_nil) | (with_reducible exact rv_I0) | (with_reducible exact ru_neg) | (with_reducible exact rv_ltS) | (with_reducible exact rv_inC) | (with_reducible exact rv_notInC) | (with_reducible exact rc_intI) | (with_reducible exact rc_intB) | (with_reducible exact rc_min2) | (with_reducible exact rc_isStr) | (with_reducible exact eo_none) | (with_reducible exact rv_inSS) | (with_reducible exact rv_notInSS) | (with_reducible exact rv_ltSS) | (with_reducible exact rv_eqSS) | (with_reducible exact rv_eqII) | (with_reducible exact rv_neII) | (with_reducible exact rv_neSS) | ((with_reducible refine rc_lenSS ?_); (first | assumption | omega | decide | (simp only [S_len] at *; omega))) | ((with_reducible refine rc_lenStr ?_); (first | assumption | omega | decide | (simp only [S_len] at *; omega))) | ((with_reducible refine rv_catSS ?_); (first | assumption | omega | decide | (simp only [S_len] at *; omega))) | (with_reducible exact rv_eq rfl) | (with_reducible exact rv_ne rfl) | ((with_reducible refine rc_lenS ?_); (first | assumption | omega | decide | (simp only [S_len] at *; omega))) | ((with_reducible refine rc_lenL ?_); assumption) | ((with_reducible apply rv_ixL); assumption; rfl) | ((with_reducible refine rv_catS ?_); (first | assumption | omega | decide | (simp only [S_len] at *; omega))) | ((with_reducible refine rv_I ?_); (first | (show (0 : Int) < _; (first | assumption | omega | decide | (simp only [S_len] at *; omega))) | exact .inr ⟨by decide, by decide⟩ | exact .inl ⟨by (first | assumption | omega | decide | (simp only [S_len] at *; omega)), by (first | assumption | omega | decide | (simp only [S_len] at *; omega))⟩ | exact .inr ⟨by (first | assumption | omega | decide | (simp only [S_len] at *; omega)), by (first | assumption | omega | decide | (simp only [S_len] at *; omega))⟩ | exact ⟨by decide, by decide, by decide⟩ | exact wide_div (b := 128) (by (first | assumption | omega | decide | (simp only [S_len] at *; omega))) (by (first | assumption | omega | decide | (simp only [S_len] at *; omega))) (by decide) (by decide)))))) | ((with_reducible apply et_B); (repeat' (first | ((with_reducible refine ev_pow10 ?_ ?_ ?_) <;> first | rfl | decide) | (with_reducible refine fun (_ : _ = true) => ?_) | (with_reducible refine fun (_ : _ = false) => ?_) | (with_reducible exact ev_c) | ((with_reducible apply ev_var); rfl) | (with_reducible apply ev_op) | (with_reducible apply ev_un) | (with_reducible apply ev_cb) | (with_reducible apply ea_cons) | (with_reducible apply ev_andV) | (with_reducible apply ev_orV) | (with_reducible apply ev_notV) | (with_reducible apply ev_if) | (with_reducible apply eo_some) | (with_reducible apply el_lst) | (with_reducible exact ea_nil) | (with_reducible exact rv_I0) | (with_reducible exact ru_neg) | (with_reducible exact rv_ltS) | (with_reducible exact rv_inC) | (with_reducible exact rv_notInC) | (with_reducible exact rc_intI) | (with_reducible exact rc_intB) | (with_reducible exact rc_min2) | (with_reducible exact rc_isStr) | (with_reducible exact eo_none) | (with_reducible exact rv_inSS) | (with_reducible exact rv_notInSS) | (with_reducible exact rv_ltSS) | (with_reducible exact rv_eqSS) | (with_reducible exact rv_eqII) | (with_reducible exact rv_neII) | (with_reducible exact rv_neSS) | ((with_reducible refine rc_lenSS ?_); (first | assumption | omega | decide | (simp only [S_len] at *; omega))) | ((with_reducible refine rc_lenStr ?_); (first | assumption | omega | decide | (simp only [S_len] at *; omega))) | ((with_reducible refine rv_catSS ?_); (first | assumption | omega | decide | (simp only [S_len] at *; omega))) | (with_reducible exact rv_eq rfl) | (with_reducible exact rv_ne rfl) | ((with_reducible refine rc_lenS ?_); (first | assumption | omega | decide | (simp only [S_len] at *; omega))) | ((with_reducible refine rc_lenL ?_); assumption) | ((with_reducible apply rv_ixL); assumption; rfl) | ((with_reducible refine rv_catS ?_); (first | assumption | omega | decide | (simp only [S_len] at *; omega))) | ((with_reducible refine rv_I ?_); (first | (show (0 : Int) < _; (first | assumption | omega | decide | (simp only [S_len] at *; omega))) | exact .inr ⟨by decide, by decide⟩ | exact .inl ⟨by (first | assumption | omega | decide | (simp only [S_len] at *; omega)), by (first | assumption | omega | decide | (simp only [S_len] at *; omega))⟩ | exact .inr ⟨by (first | assumption | omega | decide | (simp only [S_len] at *; omega)), by (first | assumption | omega | decide | (simp only [S_len] at *; omega))⟩ | exact ⟨by decide, by decide, by decide⟩ | exact wide_div (b := 128) (by (first | assumption | omega | decide | (simp only [S_len] at *; omega))) (by (first | assumption | omega | decide | (simp only [S_len] at *; omega))) (by decide) (by decide))))))) (fun hb H1 e1 => ?_) (fun hb H1 e1 => ?_)
      · have hcg : c ∉ g := by simpa using hb
        have q3 := (q2 fun hall => hcg (hall c (List.mem_of_getElem? hi))).ex (e.trans e1)
        exact ⟨_, rfl, by simp, fun a ha => ⟨a, _, rfl, ⟨l, rfl, hl, hc⟩, mk_go q3 ha⟩⟩
      · have hcg : c ∈ g := by simpa using hb
        refine ⟨e.trans e1, ?_, _, rfl⟩
        intro x hx
        rw [List.take_add_one, List.mem_append] at hx
        rcases hx with hx | hx
        · exact hp x hx
        · rw [hi] at hx
          have : x = c := by simpa using hx
          rw [this]
          exact hcg
    · rintro σ' H' ⟨e, hp, kv, rfl⟩
      rw [List.take_length] at hp
      exact q1 hp H' e

theorem not_t {b : Bool} (h : (!b) = true) : b = false := by simpa using h
theorem not_f {b : Bool} (h : (!b) = false) : b = true := by simpa using h
theorem ks_S {l : List Nat} (h1 : l.length ≤ 1000) (h2 : ∀ c ∈ l, c < 128) : KS (.str (S l)) := ⟨l, rfl, h1, h2⟩
theorem ks_signs : KS (.str "signs") := ⟨[115, 105, 103, 110, 115], congrArg V.str (by decide +kernel), by decide, by decide⟩
theorem ks_arrows : KS (.str "arrows") := ⟨[97, 114, 114, 111, 119, 115], congrArg V.str (by decide +kernel), by decide, by decide⟩
theorem ks_finals : KS (.str "finals") := ⟨[102, 105, 110, 97, 108, 115], congrArg V.str (by decide +kernel), by decide, by decide⟩
theorem ks_sums : KS (.str "sums") := ⟨[115, 117, 109, 115], congrArg V.str (by decide +kernel), by decide, by decide⟩
/-! ### sign strings -/
def SG : List Nat := [35, 46, 58, 65, 66, 67, 68, 97, 98, 99, 100]
theorem sg_low : ∀ c ∈ SG, c < 128 := by decide +kernel
theorem k_SIGNS : Str.ofString "#.:ABCDabcd" = S SG := by decide +kernel
def asc (l : List Nat) : Bool := (List.range (min l.length (l.drop 1).length)).all fun k => decide (l.getD k 0 < (l.drop 1).getD k 0)
def isSg (l : List Nat) : Bool := !(decide (l.length = 0) || l.any fun c => !decide (c ∈ SG)) && asc l
theorem asc_iff : ∀ l : List Nat, asc l = true ↔ l.Pairwise (· < ·)
  | [] => by simp [asc]
  | [a] => by simp [asc]
  | a :: b :: r => by
    have ih := asc_iff (b :: r)
    have e : asc (a :: b :: r) = (decide (a < b) && asc (b :: r)) := by
      unfold asc
      simp only [List.length_cons, List.drop_succ_cons, List.drop_zero]
      rw [show min (r.length + 1 + 1) (r.length + 1) = (min (r.length + 1) r.length) + 1 by omega, List.range_succ_eq_map, List.all_cons, List.all_map]
      congr 1
    rw [e, Bool.and_eq_true, decide_eq_true_eq, ih]
    constructor
    · rintro ⟨h1, h2⟩
      refine List.pairwise_cons.mpr ⟨fun c hc => ?_, h2⟩
      rcases List.mem_cons.mp hc with rfl | hc
      · exact h1
      · exact Nat.lt_trans h1 ((List.pairwise_cons.mp h2).1 c hc)
    · intro h
      have := List.pairwise_cons.mp h
      exact ⟨this.1 b List.mem_cons_self, this.2⟩
theorem lt1 {a b : Nat} : decide ([a] < [b]) = decide (a < b) := by
  rw [Bool.eq_iff_iff, decide_eq_true_eq, decide_eq_true_eq, List.cons_lt_cons_iff]
  constructor
  · rintro (h | ⟨_, h⟩)
    · exact h
    · exact absurd h (List.not_lt_nil [])
  · exact .inl
theorem given_allV (n : Nat) (f : Nat → Bool) : given n (fun _ => true) (fun k => V.bl (f k)) = ((List.range n).map f).map V.bl := by
  rw [given_all, List.map_map]
  rfl
theorem all_range (n : Nat) (f : Nat → Bool) : ((List.range n).map f).all id = (List.range n).all f := by
  rw [List.all_map]
  rfl
theorem isSg_ok {l : List Nat} (h : isSg l = true) : l ≠ [] ∧ (∀ c ∈ l, c ∈ SG) ∧ l.Pairwise (· < ·) := by
  unfold isSg at h
  obtain ⟨h1, h2⟩ := Bool.and_eq_true_iff.mp h
  have h1 := not_t (by simpa using h1 : (!(decide (l.length = 0) || l.any fun c => !decide (c ∈ SG))) = true)
  obtain ⟨h3, h4⟩ := Bool.or_eq_false_iff.mp h1
  refine ⟨fun z => ?_, fun c hc => ?_, (asc_iff l).mp h2⟩
  · subst z
    cases h3
  · have := List.any_eq_false.mp h4 c hc
    simpa using this
theorem isSg_of {l : List Nat} (h1 : l ≠ []) (h2 : ∀ c ∈ l, c ∈ SG) (h3 : l.Pairwise (· < ·)) : isSg l = true := by
  unfold isSg
  rw [(asc_iff l).mpr h3, Bool.and_true]
  have e1 : decide (l.length = 0) = false := decide_eq_false fun z => h1 (List.length_eq_zero_iff.mp z)
  have e2 : (l.any fun c => !decide (c ∈ SG)) = false := List.any_eq_false.mpr fun c hc => by simpa using h2 c hc
  rw [e1, e2]
  rfl
theorem pw_nd {l : List Nat} (h : l.Pairwise (· < ·)) : l.Nodup := h.imp fun h => Nat.ne_of_lt h
theorem isSg_nd {l : List Nat} (h : isSg l = true) : l.Nodup := pw_nd (isSg_ok h).2.2
theorem sg_len {l : List Nat} (h : isSg l = true) : l.length ≤ 11 := by
  have h1 := (isSg_nd h).length_le_of_subset (l₂ := SG) (isSg_ok h).2.1
  exact h1
theorem isSg_low {l : List Nat} (h : isSg l = true) : ∀ c ∈ l, c < 128 := fun c hc => sg_low c ((isSg_ok h).2.1 c hc)
def sp_is_sign_string : Sp := fun vs H Q _ => ∃ l : List Nat, vs = [.str (S l)] ∧ l.length ≤ 1000 ∧ RetV (.bl (isSg l)) H Q
theorem ok_is_sign_string (T : Tx K mg w) : OkD P w K mg base 1 d_is_sign_string ps_is_sign_string sp_is_sign_string := by
  refine (h_is_sign_string T).ok sc_is_sign_string (fun vs H Q E h => ?_) (fun cdv A outer s H vs Q E hr h => ⟨_,
      (pss_cons (ps_if (PW.pt (pw_or (pt_cmpR op_eq (pe_callB call_len_str (by rfl) (m_len T) (by decide +kernel) (pa_cons (pv 0) pa_nil)) pe_int (nomark _)) (pw_or1 (pt_val (pe_callB (cr_any rfl) (by rfl) (m_any T) (by decide +kernel) (pa_cons (pe_lc (own := [("sign", 1)]) (g := gName 1) rfl sc_is_sign_string.nd (pi_str (pv 0)) (blkOk_by (own := [("sign", 1)]) (N := ns_is_sign_string) (sc := (defScope st_is_sign_string)) (by decide +kernel)) (fun _ _ _ _ _ => pg_name (i := 1) sc_is_sign_string.nd rfl (Or.inl rfl)) (fun _ _ _ _ _ => pts_nil) (fun _ _ _ _ _ => (pe_cmpR op_notIn_sign (pv 1) (pe_glob (v := .str "#.:ABCDabcd") rfl (m_SIGNS T).choose_spec ⟨_, rfl⟩) (by rfl)))) pa_nil)))))) (pss_one (ps_ret pe_bl)) pss_nil)
      (pss_one (ps_ret (pe_callB (cr_all rfl) (by rfl) (m_all T) (by decide +kernel) (pa_cons (pe_lc (own := [("sign", 1), ("after", 2)]) (g := gTup K 2 (gCons (gName 1) (gCons (gName 2) gNil))) rfl sc_is_sign_string.nd (pi_zipT (by rfl) (m_zip T) (pa_cons (pv 0) (pa_cons (pe_slice sl_str (pv 0) (po_some pe_int) po_none) pa_nil))) (blkOk_by (own := [("sign", 1), ("after", 2)]) (N := ns_is_sign_string) (sc := (defScope st_is_sign_string)) (by decide +kernel)) (fun _ _ _ _ _ => (pg_tup rfl (pgs_cons (pg_name (i := 1) sc_is_sign_string.nd rfl (Or.inl rfl)) (pgs_cons (pg_name (i := 2) sc_is_sign_string.nd rfl (Or.inl rfl)) pgs_nil)))) (fun _ _ _ _ _ => pts_nil) (fun _ _ _ _ _ => (pe_cmpR op_lt_str (pv 1) (pv 2) (nomark _)))) pa_nil))))), ?_⟩)
  · obtain ⟨l, rfl, _⟩ := h
    rfl
  · obtain ⟨l, rfl, hl, q⟩ := h
    simp only [k_SIGNS]
    refine q_when (b := decide (l.length = 0) || l.any fun c => !decide (c ∈ SG)) (et_or (et_is (et_test (ev_op (ev_cb (ea_cons (by exact ev_var rfl) ea_nil) (rc_lenStr (by omega))) ev_c (rv_eq rfl))) (by rw [Bool.eq_iff_iff, decide_eq_true_eq, decide_eq_true_eq]; exact ⟨fun h => by have := V.int.inj h; omega, fun h => by rw [h]; rfl⟩)) fun _ => et_B (ev_is (v := .bl ((l.map fun c => !decide (c ∈ SG)).any id)) (ev_any (bs := l.map fun c => !decide (c ∈ SG)) ?_) (by rw [List.any_map]; rfl))) (fun hb H1 e1 => ?_) fun hb H1 e1 => ?_
    · exact el_mapS (fun c => !decide (c ∈ SG)) (by exact ev_var rfl) (by omega) (fun x => rfl) fun c H1 e hc => ev_op (by exact ev_var rfl) ev_c rv_notInSS
    · refine s_ret ev_c fun H2 e2 => ?_
      have q2 := q H2 (e1.trans e2)
      unfold isSg at q2
      rw [hb] at q2
      exact q2
    · have h4 := el_lcZT (K := K) (tA := tCons (tVar 0) (tCons (tSl rSlS (tVar 0) (tPart (tC (.int 1))) tNoPart) tNil)) (σ := [some (.str (S l)), none, none]) (H := H1) (a := l) (b := l.drop 1) (p := 1) (q := 2) (vs := [1, 2]) (n := min l.length (l.drop 1).length) (t := tYes) (te := tOp (fun x y H Q => ∃ i j, x = .str i ∧ y = .str j ∧ Q (.bl (decide (i.cps.toList < j.cps.toList))) H) (tVar 1) (tVar 2)) (fun _ => true) (fun k => .bl (decide (l.getD k 0 < (l.drop 1).getD k 0))) rfl (ea_cons (by exact ev_var rfl) (ea_cons (ev_from (k := 1) (by exact ev_var rfl) ev_c (by omega)) ea_nil)) (by omega) (fun x y => rfl) (fun i c d H1 _ _ _ => et_yes) (fun i c d H1 e hi hj _ => by
        obtain ⟨e0, _, _⟩ := getD_lt hi
        obtain ⟨e1, _, _⟩ := getD_lt hj
        rw [e0, e1]
        exact ev_is (ev_op (by exact ev_var rfl) (by exact ev_var rfl) rv_ltSS) (by rw [lt1]))
      rw [given_allV] at h4
      refine s_ret (v := .bl (asc l)) (ev_is (ev_all h4) (by rw [all_range]; rfl)) fun H2 e2 => ?_
      have q2 := q H2 (e1.trans e2)
      unfold isSg at q2
      rw [hb] at q2
      exact q2
def sp_check_sign_string (K : PySem.W.Frag) : Sp := fun vs H Q E => ∃ l : List Nat, vs = [.str (S l)] ∧ l.length ≤ 1000 ∧ (isSg l = true → RetV .non H Q) ∧ (isSg l = false → Bad K "InvalidMachine" "part" H E (.str "signs"))
theorem ok_check_sign_string (T : Tx K mg w) : OkD P w K mg base 3 d_check_sign_string ps_check_sign_string (sp_check_sign_string K) := by
  refine (h_check_sign_string T).ok sc_check_sign_string (fun vs H Q E h => ?_) (fun cdv A outer s H vs Q E hr h => ⟨_,
      (pss_one (ps_if (pt_not (pt_val (pe_call (ok_is_sign_string (P := P) (w := w) (base := base) T) (hr.mono (by decide)) (by rfl) (m_is_sign_string T) (k_is_sign_string T) (b_is_sign_string T) .nil passN (pa_cons (pv 0) pa_nil)))) (pss_one (L2N.ps_raise rfl (L2N.takes_of rfl rfl rfl rfl) (pmkN_oex (x_InvalidMachine T).oex (x_InvalidMachine T).iC (x_InvalidMachine T).tI (ok_InvalidMachine_init (P := P) (w := w) (base := base) T) (hr.mono (by decide)) (b_InvalidMachine_init T) .nil passN (by rfl) (m_InvalidMachine T) (pa_cons pe_str pa_nil)))) pss_nil)), ?_⟩)
  · obtain ⟨l, rfl, _⟩ := h
    rfl
  · obtain ⟨l, rfl, hl, q1, q2⟩ := h
    refine s_when (b := !isSg l) (et_not (et_B (ev_call (ea_cons (by exact ev_var rfl) ea_nil) fun H1 e1 Q1 k1 E1 => ⟨l, rfl, hl, k1⟩))) (fun hb H1 e1 => ?_) fun hb H1 e1 => ?_
    · exact ⟨by simp, fun a ha => ⟨a, _, rfl, ks_signs, mk_go ((q2 (not_t hb)).ex e1) ha⟩⟩
    · exact q1 (not_f hb) H1 e1

end
end K49
namespace Lc
open PySem PySem.Spec PyProof.Rows L2 Evl
section
variable {X : Cx}
theorem ps_setDc {i : Nat} {y : Str} {py : Pos} {kx vx tg iter : Expr} {ifs : List Expr} {scope : Scope} {own : List (Str × Nat)} {pos spos : Pos} {wi : TI} {g : TG} {tt : TT} {tk tv : TE} (hc : X.calm = true) (hN : X.N.Nodup) (hy : X.N[i]? = some y) (hyl : X.env.scope.names.lookup y = some .local)
    (hsw : swapsWith (.DictComp kx vx [⟨tg, iter, ifs, 0⟩] scope pos) (some (.Name y py)) spos.line X.env = pure true) (hi : PI X tg iter wi) (ok : BlkOk X.N X.env.scope scope own)
    (hg : ∀ (s : Shared) (H : Hp) (C : Addr) (cl : List (Str × Addr)) (fp : List Addr), PG (X.blk s H scope (compEnvC scope cl C X.env) fp) tg g) (ht : ∀ (s : Shared) (H : Hp) (C : Addr) (cl : List (Str × Addr)) (fp : List Addr), PTs (X.blk s H scope (compEnvC scope cl C X.env) fp) ifs tt)
    (hk : ∀ (s : Shared) (H : Hp) (C : Addr) (cl : List (Str × Addr)) (fp : List Addr), PE (X.blk s H scope (compEnvC scope cl C X.env) fp) kx tk)
    (he : ∀ (s : Shared) (H : Hp) (C : Addr) (cl : List (Str × Addr)) (fp : List Addr), PE (X.blk s H scope (compEnvC scope cl C X.env) fp) vx tv) (hs : ∀ x, foldedSetIterable iter X.env x = pure x := by intro _; rfl) :
    PS X (.Assign [.Name y py] (.DictComp kx vx [⟨tg, iter, ifs, 0⟩] scope pos) spos) (tAsg (tDc wi g tt tk tv (own.map (·.2))) (gName i)) := by
  refine ⟨fun pins s σ H D I h => ?_⟩
  rw [exec_Assign_Name_used _ _ _ _ hsw]
  refine wpAny_bind (wpAny_standAt (wpAny_bind ?_))
  show wpAny _ X.A (do let _ ← comprehension (.DictComp kx vx [⟨tg, iter, ifs, 0⟩] scope pos) scope X.env (firstIterPos [⟨tg, iter, ifs, 0⟩] pos) newDict false (eval iter X.env) (some (assign (.Name y py) X.env))) _ _ s
  have h : tDc wi g tt tk tv (own.map (·.2)) σ H (fun x H1 => gName i x σ H1 D.nx) := h
  refine wpAny_bind (thn (dc_core (Qf := fun _ s' => SP X pins D .next s') hc hN I hi ok hg ht hk he hs h fun L C s' m H' I' q hn f => ?_) fun _ s' hq => wpAny_pure (wpAny_pure hq))
  show wpAny _ _ (assign (.Name y py) X.env (.ref L)) _ _ _
  refine wpAny_assign_Name (store_ok2 (v := V.ref L) I' hN hy (.inl hyl) rfl (fun s2 I2 ⟨a, sb, ha⟩ => ?_) (.inr hyl))
  obtain ⟨f0, f1, f2, f3, f4, f5⟩ := f
  have haC : C ≠ a := by
    rcases ha with z | z
    · rw [z]; exact f1
    · exact fun e => f4 y a z e.symm
  refine ⟨m, hn.sameBut sb haC, fun h3 sb3 => ?_⟩
  exact ⟨_, H', I2.turned (t' := s2.toks) (fun b o hb e => (sb3.2 b hb).trans e) f0 f1 f3 f4 f5, q⟩
theorem sw_trueD {kx vx : Expr} {gs : List Comprehension} {scope : Scope} {pos py : Pos} {y : Str} {l : Nat} {env : Env} (hk : env.scope.kind = .function) (hy : env.scope.names.lookup y = some .local) (hl : (py.line == pos.line) = true)
    (ha : (scope.names.any fun (n, k) => n == y && (k == .local || k == .cell)) = false) : swapsWith (.DictComp kx vx gs scope pos) (some (.Name y py)) l env = pure true := by
  have ky : env.kindOf y = some .local := hy
  have hb : env.blockKind = .function := by unfold Env.blockKind; rw [hk]; rfl
  unfold swapsWith
  simp only [hb, ky, ha, Expr.pos, hl]
  rfl
end
section
variable {K : PySem.W.Frag} {σ : L2.St} {H H' : Hp}
theorem ev_dnotin' {ty td : TE} {a : Addr} {kv : List (Key × V)} {n : Str} (h1 : Ev ty σ H (.str n)) (h2 : Ev td σ H (.ref a)) (ha : H a = some (.dK kv)) : Ev (tDNotIn ty td) σ H (.bl (!(valV kv (Sum.inr n)).isSome)) := fun H1 e Q q =>
  h1 H1 e _ fun H2 e2 => h2 H2 (e.trans e2) _ fun H3 e3 => ⟨a, _, rfl, DGet.k (k := Sum.inr n) (((e.trans e2).trans e3) _ _ ha), q H3 (e2.trans e3)⟩
end
end Lc
namespace K49
open PySem PySem.Spec PyProof.Rows L2 Lc Evl
section
variable {P : Program} {w : World} {K : PySem.W.Frag} {mg : Str → Option Value} {base : Heap}
/-! ### tables -/
theorem rv_eq0 {H : Hp} {n : Nat} : RV rEq (.int (n : Int)) (.int 0) H (.bl (decide (n = 0))) := fun H1 e Q q => by
  have h := rv_eqII (H := H) (a := (n : Int)) (b := 0) H1 e Q
  rw [show decide ((n : Int) = 0) = decide (n = 0) by rw [Bool.eq_iff_iff, decide_eq_true_eq, decide_eq_true_eq]; omega] at h
  exact h q
def Tb (H : Hp) (t : Addr) (G : List (List Int)) : Prop := ∃ rs : List Addr, (H t = some (.lst (rs.map V.ref)) ∨ H t = some (.tup (rs.map V.ref))) ∧ Rw .lst H rs G
theorem Tb.ex {H H' : Hp} {g : Addr} {G : List (List Int)} (h : Tb H g G) (e : Ex H H') : Tb H' g G := by
  obtain ⟨rs, h1, h2⟩ := h
  exact ⟨rs, h1.imp (e _ _) (e _ _), h2.ex e⟩
def Sm (G : List (List Int)) : Prop := G.length ≤ 1000 ∧ ∀ row ∈ G, row.length ≤ 1000
theorem sq_tb {H : Hp} {t : Addr} {xs : List V} (h : H t = some (.lst xs) ∨ H t = some (.tup xs)) : SqL K H t xs ∨ SqT K H t xs := h.imp sq_of st_of
/-- a for over a list or a tuple -/
theorem s_forSq {σ : L2.St} {H : Hp} {a : Addr} {xs : List V} {tl : TE} {g : TG} {tu : TS} {D : Ends} (h : Ev tl σ H (.ref a)) (hx : H a = some (.lst xs) ∨ H a = some (.tup xs)) (Pv : Nat → L2.St → Hp → Prop) (h0 : ∀ H1, Ex H H1 → Pv 0 σ H1) (hl : ∀ i σ' H', Pv i σ' H' → Ex H H')
    (hs : ∀ i x σ' H', xs[i]? = some x → Pv i σ' H' → g x σ' H' fun σ2 H2 => tu { D with nx := Pv (i + 1), ct := Pv (i + 1), bk := D.nx } σ2 H2) (hd : ∀ σ' H', Pv xs.length σ' H' → D.nx σ' H') : tFor (iSeq K tl) g tu D σ H :=
  h H (Ex.refl H) _ fun H1 e => ⟨a, rfl, by
    rcases hx with hx | hx
    · exact .inl ⟨⟨xs, sq_of (e _ _ hx)⟩, for_list Pv (h0 H1 e) (fun i σ' H' _ p => sq_of (hl i σ' H' p _ _ hx)) hs hd⟩
    · exact .inr ⟨⟨xs, st_of (e _ _ hx)⟩, for_tup Pv (h0 H1 e) (fun i σ' H' _ p => st_of (hl i σ' H' p _ _ hx)) hs hd⟩⟩
def inR (n : Nat) (x : Int) : Bool := decide (0 ≤ x) && decide (x < (n : Int))
def isRow (k n : Nat) (row : List Int) : Bool := decide (row.length = k) && row.all (inR n)
def isAr (l : List Nat) (G : List (List Int)) : Bool := !decide (G.length = 0) && G.all (isRow l.length G.length)
theorem isAr_ok {l : List Nat} {G : List (List Int)} (h : isAr l G = true) : 0 < G.length ∧ ∀ k, k < G.length → (G.getD k []).length = l.length ∧ ∀ j, j < l.length → 0 ≤ (G.getD k []).getD j 0 ∧ (G.getD k []).getD j 0 < (G.length : Int) := by
  unfold isAr at h
  obtain ⟨h1, h2⟩ := Bool.and_eq_true_iff.mp h
  have h1 := of_decide_eq_false (not_t h1)
  refine ⟨by omega, fun k hk => ?_⟩
  have h3 := List.all_eq_true.mp h2 _ (row_mem hk)
  unfold isRow at h3
  obtain ⟨h4, h5⟩ := Bool.and_eq_true_iff.mp h3
  have h4 := of_decide_eq_true h4
  refine ⟨h4, fun j hj => ?_⟩
  have hm : (G.getD k []).getD j 0 ∈ G.getD k [] := by
    rw [List.getD_eq_getElem?_getD (l := G.getD k []), List.getElem?_eq_getElem (by omega)]
    exact List.getElem_mem _
  have h6 := List.all_eq_true.mp h5 _ hm
  unfold inR at h6
  obtain ⟨h7, h8⟩ := Bool.and_eq_true_iff.mp h6
  exact ⟨of_decide_eq_true h7, of_decide_eq_true h8⟩
theorem ev_inR {σ : L2.St} {H : Hp} {tx tl : TE} {x : Int} {n : Nat} (h1 : Ev tx σ H (.int x)) (h2 : Ev tl σ H (.int (n : Int))) : Ev (tChain (rI0 fun i j => V.bl (decide (i ≤ j))) (rI0 fun i j => V.bl (decide (i < j))) (tC (.int 0)) tx tl) σ H (.bl (inR n x)) := ev_chain ev_c h1 h2 rv_I0 fun _ => rv_I0
def sp_check_arrows (K : PySem.W.Frag) : Sp := fun vs H Q E => ∃ (l : List Nat) (t : Addr) (G : List (List Int)), vs = [.str (S l), .ref t] ∧ l.length ≤ 1000 ∧ Tb H t G ∧ Sm G ∧ (isAr l G = true → RetV .non H Q) ∧ (isAr l G = false → Bad K "InvalidMachine" "part" H E (.str "arrows"))
theorem ok_check_arrows (T : Tx K mg w) : OkD P w K mg base 3 d_check_arrows ps_check_arrows (sp_check_arrows K) := by
  refine (h_check_arrows T).ok sc_check_arrows (fun vs H Q E h => ?_) (fun cdv A outer s H vs Q E hr h => ⟨_,
      (pss_cons (ps_if (pt_cmpR op_eq (pe_callB call_len (by rfl) (m_len T) (by decide +kernel) (pa_cons (pv 1) pa_nil)) pe_int (nomark _)) (pss_one (L2N.ps_raise rfl (L2N.takes_of rfl rfl rfl rfl) (pmkN_oex (x_InvalidMachine T).oex (x_InvalidMachine T).iC (x_InvalidMachine T).tI (ok_InvalidMachine_init (P := P) (w := w) (base := base) T) (hr.mono (by decide)) (b_InvalidMachine_init T) .nil passN (by rfl) (m_InvalidMachine T) (pa_cons pe_str pa_nil)))) pss_nil)
      (pss_one (ps_for (passes_of rfl) rfl (pi_seq (pv 1)) (pg_name (i := 2) sc_check_arrows.nd rfl (Or.inl rfl)) (pss_one (ps_if (PW.pt (pw_or (pt_cmpR op_ne (pe_callB call_len (by rfl) (m_len T) (by decide +kernel) (pa_cons (pv 2) pa_nil)) (pe_callB call_len_str (by rfl) (m_len T) (by decide +kernel) (pa_cons (pv 0) pa_nil)) (nomark _)) (pw_or1 (pt_not (pt_val (pe_callB (cr_all rfl) (by rfl) (m_all T) (by decide +kernel) (pa_cons (pe_lc (own := [("to", 3)]) (g := gName 3) rfl sc_check_arrows.nd (pi_list (pv 2)) (blkOk_by (own := [("to", 3)]) (N := ns_check_arrows) (sc := (defScope st_check_arrows)) (by decide +kernel)) (fun _ _ _ _ _ => pg_name (i := 3) sc_check_arrows.nd rfl (Or.inl rfl)) (fun _ _ _ _ _ => pts_nil) (fun _ _ _ _ _ => (pe_chain op_le op_lt pe_int (pv 3) (pe_callB (show CallR _ _ (rLen K) from call_len) (by rfl) (m_len T) (by decide +kernel) (pa_cons (pv 1) pa_nil))))) pa_nil))))))) (pss_one (L2N.ps_raise rfl (L2N.takes_of rfl rfl rfl rfl) (pmkN_oex (x_InvalidMachine T).oex (x_InvalidMachine T).iC (x_InvalidMachine T).tI (ok_InvalidMachine_init (P := P) (w := w) (base := base) T) (hr.mono (by decide)) (b_InvalidMachine_init T) .nil passN (by rfl) (m_InvalidMachine T) (pa_cons pe_str pa_nil)))) pss_nil))))), ?_⟩)
  · obtain ⟨l, t, G, rfl, _⟩ := h
    rfl
  · obtain ⟨l, t, G, rfl, hl, ⟨rs, ht, hr⟩, hz, q1, q2⟩ := h
    have hlen : ∀ {H'}, Ex H H' → RC (fun xs H Q => ∃ x n, xs = [x] ∧ LenV K x H n ∧ Q (.int n) H) [.ref t] H' (.int (G.length : Nat)) := fun e => by
      have h := rc_lenSq (K := K) (sq_tb (K := K) (ht.imp (e _ _) (e _ _)))
      rwa [List.length_map, hr.len] at h
    refine q_when (b := decide (G.length = 0)) (et_test (ev_op (ev_cb (ea_cons (by exact ev_var rfl) ea_nil) (hlen (Ex.refl H))) ev_c rv_eq0)) (fun hb H1 e1 => ?_) fun hb H1 e1 => ?_
    · exact ⟨by simp, fun a ha => ⟨a, _, rfl, ks_arrows, mk_go ((q2 (by unfold isAr; rw [hb]; rfl)).ex e1) ha⟩⟩
    have fail : ∀ k, k < G.length → isRow l.length G.length (G.getD k []) = false → isAr l G = false := fun k hk h => by
      cases hh : isAr l G with
      | false => rfl
      | true =>
        unfold isAr at hh
        have := List.all_eq_true.mp (Bool.and_eq_true_iff.mp hh).2 _ (row_mem hk)
        rw [h] at this
        cases this
    refine s_forSq (K := K) (a := t) (xs := rs.map V.ref) (by exact ev_var rfl) (ht.imp (e1 _ _) (e1 _ _)) (fun i σ' H' => Ex H1 H' ∧ (∀ k, k < i → isRow l.length G.length (G.getD k []) = true) ∧ ∃ v2, σ' = [some (.str (S l)), some (.ref t), v2, none])
      (fun H2 e2 => ⟨e2, fun k hk => absurd hk (Nat.not_lt_zero _), none, rfl⟩) (fun i σ' H' h => h.1) ?_ ?_
    · rintro i v σ' H2 hi ⟨e2, hp, v2, rfl⟩
      have e12 := e1.trans e2
      obtain ⟨hk, rfl, hrow⟩ := (hr.ex e12).at_ hi
      have hrl := hz.2 _ (row_mem hk)
      have h2 := rc_lenL (K := K) (sq_of (K := K) hrow)
      rw [List.length_map] at h2
      dsimp only [gName, List.set]
      have hel := el_lcL (K := K) (σ := [some (.str (S l)), some (.ref t), some (.ref (rs.getD i 0)), none]) (H := H2) (tl := tVar 2) (j := 3) (vs := [3]) (t := tYes) (te := tChain (rI0 fun i j => V.bl (decide (i ≤ j))) (rI0 fun i j => V.bl (decide (i < j))) (tC (.int 0)) (tVar 3) (tCB (rLen K) (tCons (tVar 1) tNil))) (a := rs.getD i 0) (xs := (G.getD i []).map V.int) (fun _ => true) (fun k => .bl (inR G.length ((G.getD i []).getD k 0))) (by exact ev_var rfl) (sq_of hrow) (by rw [List.length_map]; omega) (fun x => rfl) (fun k x H3 _ _ => et_yes) (fun k x H3 e3 hk2 _ => by
        obtain ⟨_, rfl⟩ := int_at hk2
        exact ev_inR (by exact ev_var rfl) (ev_cb (ea_cons (by exact ev_var rfl) ea_nil) (hlen (e12.trans e3))))
      have e9 : given ((G.getD i []).map V.int).length (fun _ => true) (fun k => V.bl (inR G.length ((G.getD i []).getD k 0))) = ((G.getD i []).map (inR G.length)).map V.bl := by
        rw [given_all, List.length_map]
        apply List.ext_getElem
        · simp
        · intro k h1 h2
          simp only [List.length_map, List.length_range] at h1
          rw [List.getElem_map, List.getElem_range, List.getElem_map, List.getElem_map, List.getD_eq_getElem?_getD (l := G.getD i []), List.getElem?_eq_getElem h1]
          rfl
      rw [e9] at hel
      have e10 : ((G.getD i []).map (inR G.length)).all id = (G.getD i []).all (inR G.length) := by rw [List.all_map]; rfl
      refine s_when (b := !decide (((G.getD i []).length : Int) = (l.length : Int)) || !((G.getD i []).all (inR G.length))) (et_or (et_test (ev_op (ev_cb (ea_cons (by exact ev_var rfl) ea_nil) h2) (ev_cb (ea_cons (by exact ev_var rfl) ea_nil) (rc_lenStr (by omega))) rv_neII)) fun _ => et_not (et_B (ev_is (ev_all hel) (by rw [e10])))) (fun hb H3 e3 => ?_) fun hb H3 e3 => ?_
      · refine ⟨by simp, fun a ha => ⟨a, _, rfl, ks_arrows, mk_go ((q2 (fail i hk ?_)).ex (e12.trans e3)) ha⟩⟩
        unfold isRow
        rcases Bool.or_eq_true_iff.mp hb with h | h
        · rw [show decide ((G.getD i []).length = l.length) = false from decide_eq_false fun z => of_decide_eq_false (not_t h) (by omega)]
          rfl
        · rw [not_t h, Bool.and_false]
      · refine ⟨e2.trans e3, fun k hk' => ?_, _, rfl⟩
        rcases Nat.lt_succ_iff_lt_or_eq.mp hk' with h | rfl
        · exact hp k h
        · obtain ⟨h3, h4⟩ := Bool.or_eq_false_iff.mp hb
          unfold isRow
          rw [not_f h4, Bool.and_true]
          have := of_decide_eq_true (not_f h3)
          exact decide_eq_true (by omega)
    · rintro σ' H2 ⟨e2, hp, v2, rfl⟩
      rw [List.length_map, hr.len] at hp
      refine q1 ?_ H2 (e1.trans e2)
      unfold isAr
      rw [hb]
      refine Bool.and_eq_true_iff.mpr ⟨rfl, List.all_eq_true.mpr fun row hrow => ?_⟩
      obtain ⟨k, hk, e⟩ := List.getElem_of_mem hrow
      have := hp k hk
      rw [List.getD_eq_getElem?_getD, List.getElem?_eq_getElem hk] at this
      rw [← e]
      exact this
/-! ### a row walked through a table -/
def rnn (l : List Nat) (G : List (List Int)) (s : Int) : List Nat → Int
  | [] => s
  | c :: r => rnn l G ((G.getD s.toNat []).getD (l.idxOf c) 0) r
theorem run_app (l : List Nat) (G : List (List Int)) : ∀ (a : List Nat) (s : Int) (b : List Nat), rnn l G s (a ++ b) = rnn l G (rnn l G s a) b
  | [], s, b => rfl
  | c :: a, s, b => run_app l G a _ b
theorem run_in {l : List Nat} {G : List (List Int)} (h : isAr l G = true) : ∀ (r : List Nat) (s : Int), (∀ c ∈ r, c ∈ l) → 0 ≤ s → s < (G.length : Int) → 0 ≤ rnn l G s r ∧ rnn l G s r < (G.length : Int)
  | [], s, _, h0, h1 => ⟨h0, h1⟩
  | c :: r, s, hc, h0, h1 => by
    have h2 := (isAr_ok h).2 s.toNat (by omega)
    have h3 := h2.2 (l.idxOf c) (List.idxOf_lt_length_of_mem (hc c List.mem_cons_self))
    exact run_in h r _ (fun d hd => hc d (List.mem_cons_of_mem _ hd)) h3.1 h3.2
def sp_state_behind (K : PySem.W.Frag) : Sp := fun vs H Q E => ∃ (l r : List Nat) (t : Addr) (rs : List Addr) (G : List (List Int)), vs = [.str (S l), .ref t, .str (S r)] ∧ isSg l = true ∧ isAr l G = true ∧ H t = some (.tup (rs.map V.ref)) ∧ Rw .tup H rs G ∧ r.length ≤ 1000 ∧ (∀ c ∈ r, c < 128) ∧
  ((∀ c ∈ r, c ∈ l) → RetV (.int (rnn l G 0 r)) H Q) ∧ ((¬ ∀ c ∈ r, c ∈ l) → Bad K "InvalidRow" "row" H E (.str (S r)))
theorem ok_state_behind (T : Tx K mg w) : OkD P w K mg base 3 d_state_behind ps_state_behind (sp_state_behind K) := by
  refine (h_state_behind T).ok sc_state_behind (fun vs H Q E h => ?_) (fun cdv A outer s H vs Q E hr h => ⟨_,
      (pss_cons (ps_setDc (i := 3) (own := [("at", 6), ("sign", 5)]) (g := gTup K 2 (gCons (gName 6) (gCons (gName 5) gNil))) rfl sc_state_behind.nd rfl rfl (sw_trueD rfl rfl rfl (by decide +kernel)) (pi_enumS (by rfl) (m_enumerate T) (pa_cons (pv 0) pa_nil)) (blkOk_by (own := [("at", 6), ("sign", 5)]) (N := ns_state_behind) (sc := (defScope st_state_behind)) (by decide +kernel)) (fun _ _ _ _ _ => (pg_tup rfl (pgs_cons (pg_name (i := 6) sc_state_behind.nd rfl (Or.inl rfl)) (pgs_cons (pg_name (i := 5) sc_state_behind.nd rfl (Or.inl rfl)) pgs_nil)))) (fun _ _ _ _ _ => pts_nil) (fun _ _ _ _ _ => (pv 5)) (fun _ _ _ _ _ => (pv 6)))
      (pss_cons (ps_set (i := 4) sc_state_behind.nd rfl (Or.inl rfl) pe_int)
      (pss_cons (ps_for (passes_of rfl) rfl (pi_str (pv 2)) (pg_name (i := 5) sc_state_behind.nd rfl (Or.inl rfl)) (pss_cons (ps_if (pt_cmp (pc_dnotin (hu_of hr) (pv 5) (pv 3))) (pss_one (L2N.ps_raise rfl (L2N.takes_of rfl rfl rfl rfl) (pmkN_oex (x_InvalidRow T).oex (x_InvalidRow T).iC (x_InvalidRow T).tI (ok_InvalidRow_init (P := P) (w := w) (base := base) T) (hr.mono (by decide)) (b_InvalidRow_init T) .nil passN (by rfl) (m_InvalidRow T) (pa_cons (pv 2) pa_nil)))) pss_nil)
      (pss_one (ps_set (i := 4) sc_state_behind.nd rfl (Or.inl rfl) (pe_ix ix_tup (pe_ix ix_tup (pv 1) (pv 4) (fun _ _ => rfl)) (pe_dget (hu_of hr) (pv 3) (pv 5) (fun _ _ => rfl)) (fun _ _ => rfl))))))
      (pss_one (ps_ret (pv 4)))))), ?_⟩)
  · obtain ⟨l, r, t, rs, G, rfl, _⟩ := h
    rfl
  · obtain ⟨l, r, t, rs, G, rfl, hsg, har, ht, hr, hrl, hlow, q1, q2⟩ := h
    have hnd := isSg_nd hsg
    have ll := sg_len hsg
    obtain ⟨g0, gk⟩ := isAr_ok har
    refine q_asgCol (l := l) (p := 6) (q := 5) (vs := [6, 5]) (ea_cons (by exact ev_var rfl) ea_nil) hnd (by omega) (fun x y => rfl) (fun x y => ⟨rfl, rfl⟩) fun D H1 hD e1 h1 => ?_
    try dsimp only [List.set]
    refine q_asg (v := .int 0) ev_c fun H2 e2 => ?_
    try dsimp only [List.set]
    refine q_forS (l := r) (by exact ev_var rfl) (fun i σ' H' => Ex H2 H' ∧ (∀ c ∈ r.take i, c ∈ l) ∧ ∃ v5, σ' = [some (.str (S l)), some (.ref t), some (.str (S r)), some (.ref D), some (.int (rnn l G 0 (r.take i))), v5, none])
      (fun H3 e3 => ⟨e3, by simp, none, rfl⟩) ?_ ?_
    · rintro i c σ' H3 hi ⟨e3, hp, v5, rfl⟩
      have e13 := e2.trans e3
      have e03 := (e1.trans e2).trans e3
      obtain ⟨_, hcr, hil⟩ := getD_lt hi
      dsimp only [List.set]
      have hv := col_val hnd c
      have hs : (valV (col l l.length) (Sum.inr (S [c]))).isSome = decide (c ∈ l) := by
        rw [hv]
        by_cases hc : c ∈ l
        · rw [if_pos hc, decide_eq_true hc]
          rfl
        · rw [if_neg hc, decide_eq_false hc]
          rfl
      refine q_when (b := !decide (c ∈ l)) (et_B (ev_is (ev_dnotin' (by exact ev_var rfl) (by exact ev_var rfl) (e13 _ _ h1)) (by rw [hs]))) (fun hb H4 e4 => ?_) fun hb H4 e4 => ?_
      · have hcl : c ∉ l := of_decide_eq_false (not_t hb)
        exact ⟨_, rfl, by simp, fun a ha => ⟨a, _, rfl, ks_S hrl hlow, mk_go ((q2 fun hall => hcl (hall c hcr)).ex (e03.trans e4)) ha⟩⟩
      · have hcl : c ∈ l := of_decide_eq_true (not_f hb)
        rw [if_pos hcl] at hv
        have hix := List.idxOf_lt_length_of_mem hcl
        have hst := run_in har (r.take i) 0 hp (by omega) (by omega)
        have hrow := hr.row (rnn l G 0 (r.take i)).toNat (by omega)
        have hgk := gk (rnn l G 0 (r.take i)).toNat (by omega)
        refine s_asg (v := .int ((G.getD (rnn l G 0 (r.take i)).toNat []).getD (l.idxOf c) 0)) (ev_op (ev_op (by exact ev_var rfl) (by exact ev_var rfl) (rv_ixT (st_of ((e03.trans e4) _ _ ht)) (atI_ref hst.1 (by rw [hr.len]; exact hst.2)))) (ev_dget' (by exact ev_var rfl) (by exact ev_var rfl) ((e13.trans e4) _ _ h1) hv) (rv_ixT (st_of ((e03.trans e4) _ _ hrow)) (by
          have := atI_int (row := G.getD (rnn l G 0 (r.take i)).toNat []) (i := ((l.idxOf c : Nat) : Int)) (by omega) (by rw [hgk.1]; omega)
          rwa [Int.toNat_natCast] at this))) fun H5 e5 => ⟨(e3.trans e4).trans e5, fun d hd => ?_, some (.str (S [c])), ?_⟩
        · rw [List.take_add_one, hi] at hd
          rcases List.mem_append.mp hd with hd | hd
          · exact hp d hd
          · obtain rfl : d = c := by simpa using hd
            exact hcl
        · rw [List.take_add_one, hi, run_app]
          rfl
    · rintro σ' H3 ⟨e3, hp, v5, rfl⟩
      rw [List.take_length] at hp ⊢
      exact s_ret (by exact ev_var rfl) fun H4 e4 => q1 hp H4 (((e1.trans e2).trans e3).trans e4)

end
end K49
namespace K49
open PySem PySem.Spec PyProof.Rows L2 Lc Evl
section
variable {P : Program} {w : World} {K : PySem.W.Frag} {mg : Str → Option Value} {base : Heap}
/-! ### machines -/
abbrev cM (K : PySem.W.Frag) : Addr := He.ga K "Machine"
def MF (l : List Nat) (t f : Addr) : List (Str × V) := [("signs", .str (S l)), ("arrows", .ref t), ("finals", .ref f)]
def inF (n : Nat) (F : List Int) : Prop := ∀ x ∈ F, 0 ≤ x ∧ x < (n : Int)
def Mc (K : PySem.W.Frag) (H : Hp) (o : Addr) (l : List Nat) (G : List (List Int)) (F : List Int) : Prop := isSg l = true ∧ isAr l G = true ∧ inF G.length F ∧ ∃ (dx t f : Addr) (rs : List Addr), H o = some (.ins (cM K) dx (MF l t f)) ∧ H t = some (.tup (rs.map V.ref)) ∧ Rw .tup H rs G ∧ H f = some (.tup (F.map V.int))
theorem Mc.ex {H H' : Hp} {o : Addr} {l : List Nat} {G : List (List Int)} {F : List Int} (h : Mc K H o l G F) (e : Ex H H') : Mc K H' o l G F := by
  obtain ⟨h1, h2, h3, dx, t, f, rs, h4, h5, h6, h7⟩ := h
  exact ⟨h1, h2, h3, dx, t, f, rs, e _ _ h4, e _ _ h5, h6.ex e, e _ _ h7⟩
theorem ev_fldM {σ : L2.St} {H : Hp} {te : TE} {o dx : Addr} {fs : List (Str × V)} {f : Str} {v : V} (T : Tx K mg w) (h : Ev te σ H (.ref o)) (hj : H o = some (.ins (cM K) dx fs)) (n : NoAttr K (cM K) f) (l : fs.lookup f = some v) : Ev (tFld K te f) σ H v := fun H1 e Q q =>
  h H1 e _ fun H2 e2 => ⟨o, cM K, dx, fs, v, rfl, (e.trans e2) _ _ hj, c_Machine T, n, l, q H2 e2⟩
theorem ev_sgn {σ : L2.St} {H : Hp} {te : TE} {o : Addr} {l : List Nat} {G : List (List Int)} {F : List Int} (T : Tx K mg w) (h : Ev te σ H (.ref o)) (hm : Mc K H o l G F) : Ev (tFld K te "signs") σ H (.str (S l)) := by
  obtain ⟨_, _, _, dx, t, f, rs, h4, _⟩ := hm
  exact ev_fldM T h h4 (n_Machine_signs T) rfl
theorem perm_eqI {a b : List Int} (h : a.Perm b) (h1 : a.Pairwise (· ≤ ·)) (h2 : b.Pairwise (· ≤ ·)) : a = b := h.eq_of_pairwise (fun x y _ _ p q => Int.le_antisymm p q) h1 h2
theorem el_sortedI {σ : L2.St} {H : Hp} {te : TE} {f : Addr} {F : List Int} (h : Ev te σ H (.ref f)) (hf : SqL K H f (F.map V.int)) (hF : F.Pairwise (· ≤ ·)) : EvL (tCB (rSortedI K) (tCons te tNil)) σ H (F.map V.int) := fun H7 e7 Q7 k7 => h H7 e7 _ fun H8 e8 => ⟨f, F, rfl, ex_l (e7.trans e8) hf, fun ns p hperm hsort hp => by
  have := perm_eqI hperm hsort hF
  subst this
  exact k7 p _ (fresh_back e8 hp) (e8.trans (Ex.new hp)) upd_same⟩
theorem q_seq2 {σ : L2.St} {H : Hp} {ts tz : TS} {D : Ends} (h : ts { D with nx := tz D } σ H) : tSeq ts tz D σ H := h
def sp_Machine_init (K : PySem.W.Frag) : Sp := fun vs H Q _ => ∃ (o dx t f : Addr) (l : List Nat) (G : List (List Int)) (F : List Int), vs = [.ref o, .str (S l), .ref t, .ref f] ∧ Tb H t G ∧ Sm G ∧ isSg l = true ∧ isAr l G = true ∧ H f = some (.lst (F.map V.int)) ∧ F.Pairwise (· < ·) ∧ inF G.length F ∧ F.length ≤ 1000 ∧ H o = some (.ins (cM K) dx []) ∧
  ∀ H', ExB o H H' → Mc K H' o l G F → Q .non H'
theorem ok_Machine_init (T : Tx K mg w) : OkD P w K mg base 4 d_Machine_init ps_Machine_init (sp_Machine_init K) := by
  refine (h_Machine_init T).ok sc_Machine_init (fun vs H Q E h => ?_) (fun cdv A outer s H vs Q E hr h => ⟨_,
      (pss_cons (ps_expr (pe_callSD (ok_check_sign_string (P := P) (w := w) (base := base) T) (hr.mono (by decide)) (by rfl) (m_check_sign_string T) (k_check_sign_string T) (b_check_sign_string T) .nil (fun σ => L2N.passAt (L2N.takes_of rfl rfl rfl rfl) σ) (pa_cons (pv 1) pa_nil)))
      (pss_cons (ps_expr (pe_callSD (ok_check_arrows (P := P) (w := w) (base := base) T) (hr.mono (by decide)) (by rfl) (m_check_arrows T) (k_check_arrows T) (b_check_arrows T) .nil (fun σ => L2N.passAt (L2N.takes_of rfl rfl rfl rfl) σ) (pa_cons (pv 1) (pa_cons (pv 2) pa_nil))))
      (pss_cons (ps_if (PW.pt (pw_or (pt_cmpR op_lt (RZ.pe_lenSetI (by rfl) (m_len T) (by rfl) (m_set T) (pv 3)) (pe_callB call_len (by rfl) (m_len T) (by decide +kernel) (pa_cons (pv 3) pa_nil)) (nomark _)) (pw_or1 (pt_not (pt_val (pe_callB (cr_all rfl) (by rfl) (m_all T) (by decide +kernel) (pa_cons (pe_lc (own := [("state", 5)]) (g := gName 5) rfl sc_Machine_init.nd (pi_list (pv 3)) (blkOk_by (own := [("state", 5)]) (N := ns_Machine_init) (sc := (defScope st_Machine_init)) (by decide +kernel)) (fun _ _ _ _ _ => pg_name (i := 5) sc_Machine_init.nd rfl (Or.inl rfl)) (fun _ _ _ _ _ => pts_nil) (fun _ _ _ _ _ => (pe_chain op_le op_lt pe_int (pv 5) (pe_callB (show CallR _ _ (rLen K) from call_len) (by rfl) (m_len T) (by decide +kernel) (pa_cons (pv 2) pa_nil))))) pa_nil))))))) (pss_one (L2N.ps_raise rfl (L2N.takes_of rfl rfl rfl rfl) (pmkN_oex (x_InvalidMachine T).oex (x_InvalidMachine T).iC (x_InvalidMachine T).tI (ok_InvalidMachine_init (P := P) (w := w) (base := base) T) (hr.mono (by decide)) (b_InvalidMachine_init T) .nil passN (by rfl) (m_InvalidMachine T) (pa_cons pe_str pa_nil)))) pss_nil)
      (pss_cons (ps_fld (pv 0) (pv 1) rfl)
      (pss_cons (ps_fld (pv 0) (pe_callTy (show CallR _ (.type "tuple") (rTupOf K) from call_tuple_of) (by rfl) (m_tuple T) (by decide +kernel) (pa_cons (pe_lc (own := [("row", 4)]) (g := gName 4) rfl sc_Machine_init.nd (pi_seq (pv 2)) (blkOk_by (own := [("row", 4)]) (N := ns_Machine_init) (sc := (defScope st_Machine_init)) (by decide +kernel)) (fun _ _ _ _ _ => pg_name (i := 4) sc_Machine_init.nd rfl (Or.inl rfl)) (fun _ _ _ _ _ => pts_nil) (fun _ _ _ _ _ => (pe_callTy (show CallR _ (.type "tuple") (rTupOf K) from call_tuple_of) (by rfl) (m_tuple T) (by decide +kernel) (pa_cons (pv 4) pa_nil)))) pa_nil)) rfl)
      (pss_one (ps_fld (pv 0) (pe_callTy (show CallR _ (.type "tuple") (rTupOf K) from call_tuple_of) (by rfl) (m_tuple T) (by decide +kernel) (pa_cons (pe_callB (show CallR _ (.builtin "sorted") (rSortedI K) from cr_sortedI) (by rfl) (m_sorted T) (by decide +kernel) (pa_cons (pv 3) pa_nil)) pa_nil)) rfl))))))), ?_⟩)
  · obtain ⟨o, dx, t, f, l, G, F, rfl, _⟩ := h
    rfl
  · obtain ⟨o, dx, t, f, l, G, F, rfl, ht, hz, hsg, har, hf, hF, hin, hFl, ho, q⟩ := h
    have ll := sg_len hsg
    refine ⟨_, rfl, l, rfl, by omega, fun _ H1 e1 => ?_, fun h => by rw [hsg] at h; cases h⟩
    dsimp only
    refine ⟨_, rfl, _, rfl, l, t, G, rfl, by omega, ht.ex e1, hz, fun _ H2 e2 => ?_, fun h => by rw [har] at h; cases h⟩
    dsimp only
    have e12 := e1.trans e2
    have hnd : F.Nodup := hF.imp fun h => Int.ne_of_lt h
    have lF := rc_lenL (K := K) (sq_of (K := K) (e12 _ _ hf))
    rw [List.length_map] at lF
    obtain ⟨rs, htr, hr⟩ := ht
    have hlen : ∀ {H'}, Ex H H' → RC (fun xs H Q => ∃ x n, xs = [x] ∧ LenV K x H n ∧ Q (.int n) H) [.ref t] H' (.int (G.length : Nat)) := fun e => by
      have h := rc_lenSq (K := K) (sq_tb (K := K) (htr.imp (e _ _) (e _ _)))
      rwa [List.length_map, hr.len] at h
    have hel := el_lcL (K := K) (σ := [some (.ref o), some (.str (S l)), some (.ref t), some (.ref f), none, none]) (H := H2) (tl := tVar 3) (j := 5) (vs := [5]) (t := tYes) (te := tChain (rI0 fun i j => V.bl (decide (i ≤ j))) (rI0 fun i j => V.bl (decide (i < j))) (tC (.int 0)) (tVar 5) (tCB (rLen K) (tCons (tVar 2) tNil))) (a := f) (xs := F.map V.int) (fun _ => true) (fun k => .bl (inR G.length (F.getD k 0))) (by exact ev_var rfl) (sq_of (e12 _ _ hf)) (by rw [List.length_map]; omega) (fun x => rfl) (fun k x H3 _ _ => et_yes) (fun k x H3 e3 hk2 _ => by
      obtain ⟨_, rfl⟩ := int_at hk2
      exact ev_inR (by exact ev_var rfl) (ev_cb (ea_cons (by exact ev_var rfl) ea_nil) (hlen (e12.trans e3))))
    have e9 : given (F.map V.int).length (fun _ => true) (fun k => V.bl (inR G.length (F.getD k 0))) = (F.map (inR G.length)).map V.bl := by
      rw [given_all, List.length_map]
      apply List.ext_getElem
      · simp
      · intro k h1 h2
        simp only [List.length_map, List.length_range] at h1
        rw [List.getElem_map, List.getElem_range, List.getElem_map, List.getElem_map, List.getD_eq_getElem?_getD, List.getElem?_eq_getElem h1]
        rfl
    rw [e9] at hel
    have e10 : (F.map (inR G.length)).all id = true := by
      rw [List.all_map, List.all_eq_true]
      intro x hx
      show inR G.length x = true
      unfold inR
      obtain ⟨h1, h2⟩ := hin x hx
      rw [decide_eq_true h1, decide_eq_true h2]
      rfl
    refine q_when (b := decide ((F.length : Int) < (F.length : Int)) || !true) (et_or (et_test (ev_op (fun H3 e3 Q3 k3 => (show Ev (tVar 3) _ H3 (.ref f) from by exact ev_var rfl) H3 (Ex.refl H3) _ fun H4 e4 => ⟨f, F, rfl, sq_of ((e12.trans (e3.trans e4)) _ _ hf), hnd, by omega, k3 H4 e4⟩) (ev_cb (ea_cons (by exact ev_var rfl) ea_nil) lF) rv_I0)) fun _ => et_not (et_B (ev_is (ev_all hel) (by rw [e10])))) (fun hb => by simp at hb) fun _ H3 e3 => ?_
    have e13 := e12.trans e3
    clear e1 e2 e3 hel
    refine ⟨_, rfl, _, rfl, o, cM K, dx, _, rfl, e13 _ _ ho, c_Machine T, n_Machine_signs T, by decide, ?_⟩
    have hto : t ≠ o := fun z => by
      rw [z, ho] at htr
      rcases htr with h | h <;> cases h
    have hfo : f ≠ o := fun z => by rw [z, ho] at hf; cases hf
    have hro : ∀ k, k < G.length → rs.getD k 0 ≠ o := fun k hk z => by
      have := hr.row k hk
      rw [z, ho] at this
      cases this
    generalize hH4 : upd H3 o _ = H4
    have x4 : ExB o H H4 := by
      rw [← hH4]
      exact (ExB.of e13).trans ExB.upd
    have ho4 : H4 o = some (.ins (cM K) dx [("signs", .str (S l))]) := by
      rw [← hH4, upd_same]
      rfl
    have htr4 : H4 t = some (.lst (rs.map V.ref)) ∨ H4 t = some (.tup (rs.map V.ref)) := htr.imp (x4 _ _ hto) (x4 _ _ hto)
    have hr4 : Rw .lst H4 rs G := ⟨hr.len, fun k hk => x4 _ _ (hro k hk) (hr.row k hk)⟩
    clear hH4
    dsimp only
    refine q_seq2 ?_
    unfold sFld
    dsimp only
    refine eg_tup (K := K) (c := .tup) (G := G) (eg_S (c := .tup) (xs := rs.map V.ref) (by exact ev_var rfl) (sq_tb htr4) (by rw [List.length_map, hr.len]) (by have := hz.1; omega) (fun x => rfl) fun i x H5 e hi => ?_) H4 (Ex.refl H4) _ fun p1 rs1 H5 hp1 e5 h5 hr5 _ => ?_
    · obtain ⟨hk, rfl, hrow⟩ := hr4.at_ hi
      exact eu_tupL (by exact ev_var rfl) (sq_of (e _ _ hrow))
    · refine ⟨_, rfl, o, cM K, dx, _, rfl, e5 _ _ ho4, c_Machine T, n_Machine_arrows T, by simp, ?_⟩
      have hp1o : p1 ≠ o := fun z => by rw [z, ho4] at hp1; cases hp1
      have hr1o : ∀ k, k < G.length → rs1.getD k 0 ≠ o := fun k hk z => by
        have h6 := hr5.row k hk
        rw [z, e5 _ _ ho4] at h6
        cases h6
      have ho5 := e5 _ _ ho4
      generalize hH6 : upd H5 o _ = H6
      have x6 : ExB o H5 H6 := by
        rw [← hH6]
        exact ExB.upd
      have ho6 : H6 o = some (.ins (cM K) dx [("signs", .str (S l)), ("arrows", .ref p1)]) := by
        rw [← hH6, upd_same]
        rfl
      clear hH6
      have x06 : ExB o H H6 := (x4.trans (ExB.of e5)).trans x6
      refine eu_tupOf (K := K) (xs := F.map V.int) (el_sortedI (by exact ev_var rfl) (sq_of (x06 _ _ hfo hf)) (hF.imp fun h => Int.le_of_lt h)) H6 (Ex.refl H6) _ fun p2 H7 hp2 e7 h7 => ?_
      · refine ⟨_, rfl, o, cM K, dx, _, rfl, e7 _ _ ho6, c_Machine T, n_Machine_finals T, by simp, ?_⟩
        have hp2o : p2 ≠ o := fun z => by rw [z, ho6] at hp2; cases hp2
        refine q _ ((x06.trans (ExB.of e7)).trans ExB.upd) ⟨hsg, har, hin, dx, p1, p2, rs1, ?_, ?_, ⟨hr5.len, fun k hk => ?_⟩, ?_⟩
        · rw [upd_same]
          rfl
        · rw [upd_ne hp1o]
          exact e7 _ _ (x6 _ _ hp1o h5)
        · rw [upd_ne (hr1o k hk)]
          exact e7 _ _ (x6 _ _ (hr1o k hk) (hr5.row k hk))
        · rw [upd_ne hp2o]
          exact h7

end
end K49
namespace Lc
open PySem PySem.Spec PyProof.Rows L2 Evl
section
variable {X : Cx} {CX : CXT} {k : Nat} {f C : Addr} {fd : FuncData} {ps : List Str} {sp : Sp} {E : XK}
/-! ### len(o) by an own __len__ -/
def rLenOwn (C : Addr) (sp : Sp) (E : XK) : List V → Hp → VK → Prop := fun xs H Q => ∃ a dx fs, xs = [.ref a] ∧ H a = some (.ins C dx fs) ∧ sp [.ref a] H (fun v H' => ∃ n : Nat, v = .int (n : Int) ∧ n < 1000000 ∧ Q v H') E
theorem call_lenOwn (F : FnOk X.prog X.w X.K X.mg X.base CX k f fd ps sp) (hr : Room (k + 1) X.A) (hs : PySem.W.findIn X.K (.ref C) "__len__" = some (some (.ref f))) (hf : PySem.W.isFn X.K (.ref f) = true) (hb : Binds X.K fd ps []) (hx : Passes CX X E) :
    CallR X (.builtin "len") (rLenOwn C sp E) := by
  intro pins s σ H xs us Q I r h
  obtain ⟨a, dx, fs, rfl, ha, hsp⟩ := h
  obtain ⟨u, rfl, r1⟩ := vals1 r
  obtain rfl : u = Value.ref a := r1
  obtain ⟨mA, J, _⟩ := ins_get I.hok ha
  obtain ⟨od, J, _⟩ := J.look
  refine Calls.call_function_entry kind_len plain_len entry_len (args_len1 _) ?_
  unfold Builtin.«len»
  refine wpAny_bind (m := oneArg "len" _) (wpAny_pure ?_)
  refine wpAny_bind (m := callSpecial? (.ref a) (PySem.Str.ofString "__len__")) (PySem.W.special_fn I.kIn J hs (beq_iff_eq.mp hf) (wpAny_mono (run_at (A := X.A.in1) rfl F hr.in1 hb hx I r hsp) (fun w s' hw => ?_) fun _ _ x => x))
  obtain ⟨v, H', I', rv, n, rfl, hn, q⟩ := hw
  obtain ⟨t, rfl⟩ := rv
  show wpAny _ _ _ _ _ _
  refine wpAny_bind (wpAny_holding (wpAny_pure ?_))
  refine wpAny_bind (wpAny_letGo ?_)
  show wpAny _ _ (if ((n : Nat) : Int) < 0 then _ else _) _ _ _
  rw [if_neg (by omega)]
  show wpAny _ _ (if ((n : Nat) : Int) ≥ 2 ^ 63 then _ else _) _ _ _
  rw [if_neg (by omega)]
  exact wpAny_bind (wpAny_mkInt (wpAny_pure ⟨_, rfl, .int (n : Int), H', I'.tok _, ⟨_, rfl⟩, q⟩))
end
section
variable {prog : Program} {w : World} {A : Around} {E : Value → Shared → Prop} {s : Shared}
/-! ### a, *b = a list -/
theorem star_list {l : Addr} {items : Array Value} {Q : List Value → Shared → Prop} (hh : A.handled = none) (hl : s.heap.IsList l items) (hn : 1 ≤ items.size) (hz : items.size ≤ 16384)
    (h : ∀ (h' : Heap) tk, (∀ b o, s.heap.get? b = some o → h'.get? b = some o) → Q (items.toList.take 1 ++ [.ref h'.objs.size]) { s with heap := h'.push (seqObj "list" (items.toList.drop 1).toArray 0), toks := tk }) :
    wpAny (model prog w) A (unpackItems (.ref l) 2 (some 1)) Q E s := by
  have hlt : l ≠ s.heap.objs.size := by obtain ⟨o, ho, _⟩ := hl; exact Nat.ne_of_lt (Heap.lt_size ho)
  unfold unpackItems
  refine wpAny_bind ?_
  unfold notIterableAtAll
  refine wpAny_bind (wpAny_specialOf hl.typeIs slot_list_iter.lookup ?_)
  refine wpAny_pure ?_
  simp only [Bool.false_eq_true, if_false]
  refine wpAny_bind (wpAny_holding (wpAny_pyIter_list hl ?_))
  refine wpAny_bind (wpAny_holding (PySem.W.kun_draw hlt 1 0 _ _ ⟨_, Heap.get?_push_size _ rfl, rfl, rfl⟩ (hl.push _) (by omega) fun h₁ hit₁ hs₁ => ?_))
  have hl₁ : h₁.IsList l items := (hl.push _).extBut hs₁.extBut hlt
  rw [Nat.zero_add] at hit₁
  have hit₁' := hit₁
  obtain ⟨oi, hoi, _⟩ := hit₁'
  have hl₁' := hl₁
  obtain ⟨ol, hol, _⟩ := hl₁'
  rw [List.drop_zero]
  have hfl : (items.toList.take 1).length = 1 := by rw [List.length_take, Array.length_toList]; omega
  rw [if_neg (show ¬ ((items.toList.take 1).length < 1) by rw [hfl]; omega)]
  refine wpAny_bind (wpAny_holding (PySem.W.kun_collect (s := { s with heap := h₁ }) (T := "list_iterator") (.inr (.inr (.inl rfl))) (Walks.list (A := A.in1) hh s.heap.objs.size l hlt items) (fun j u st => st.1.typeIs) (k := 1) (by omega) ⟨hit₁, hl₁⟩ (Heap.lt_size hoi) (Heap.lt_size hol) (fun h₂ tk hk => ?_) (by rw [sizeLine_eq]; omega)))
  have hrl : (items.toList.drop 1).length = items.size - 1 := by rw [List.length_drop, Array.length_toList]
  show wpAny _ _ (if (items.toList.drop 1).length < 2 - 1 - 1 then _ else _) _ _ _
  rw [if_neg (by omega)]
  show wpAny _ _ (newList ((items.toList.drop 1).take ((items.toList.drop 1).length - (2 - 1 - 1))) >>= fun d => pure (items.toList.take 1 ++ [d] ++ (items.toList.drop 1).drop ((items.toList.drop 1).length - (2 - 1 - 1)))) _ _ _
  have e1 : (items.toList.drop 1).take ((items.toList.drop 1).length - (2 - 1 - 1)) = items.toList.drop 1 := List.take_of_length_le (by omega)
  have e2 : (items.toList.drop 1).drop ((items.toList.drop 1).length - (2 - 1 - 1)) = [] := List.drop_of_length_le (by omega)
  rw [e1, e2]
  have he : ∀ b o, s.heap.get? b = some o → h₂.get? b = some o := fun b o e => hk b o (Nat.ne_of_lt (Heap.lt_size e)) (hs₁.extBut b o (Nat.ne_of_lt (Heap.lt_size e)) (Heap.get?_push_of_some _ e))
  refine wpAny_bind (wpAny_newList (wpAny_pure ?_) (by rw [hrl, sizeLine_eq]; omega))
  rw [List.append_nil]
  exact h h₂ tk he
end
def gStar (K : PySem.W.Frag) (t : TGs) : TG := fun v σ H Q => ∃ a x xs, v = .ref a ∧ SqL K H a (x :: xs) ∧ xs.length ≤ 16000 ∧ ∀ p, H p = none → t [x, .ref p] σ (upd H p (.lst xs)) Q
theorem pg_star {X : Cx} {pos : Pos} {es : List Expr} {k : Nat} {t : TGs} (hc : X.calm = true) (h : PGs X es t)
    (hn : (assignEach es X.env).length = 2 := by rfl) (hst : (assignEach es X.env).findIdx? (·.1) = some 1 := by rfl) : PG X (.Tuple es k pos) (gStar X.K t) := by
  refine ⟨fun pins s σ H v u Q I r hw => ?_⟩
  obtain ⟨a, x, xs, e1, hq, hl, hw⟩ := hw
  subst e1
  cases r
  obtain ⟨its, rv, pl, hz⟩ := I.list hq
  rw [PyProof.Rows.assign_Tuple]
  refine wpAny_bind (wpAny_standAt ?_)
  unfold unpack
  rw [hn, hst]
  have hlen := rv.length
  cases rv with
  | @cons _ u0 _ us r0 rs =>
    have hl2 := rs.length
    refine wpAny_bind (wpAny_holding (star_list (I.ok.hd hc) pl.isList (by simp) (by simp; omega) fun h' tk hk => ?_))
    have I1 : Inv X pins σ H { s with heap := h', toks := tk } := I.kept (t' := tk) hk
    have I2 : Inv X pins σ (upd H h'.objs.size (.lst xs)) { s with heap := h'.push (seqObj "list" us.toArray 0), toks := tk } :=
      I1.laid (t' := tk) (fun b u e => Heap.get?_push_of_some _ e) (Nat.le_refl _) (show ObjOk X.prog X.w _ _ _ (.lst xs) from ⟨Nat.le_trans hl (by decide), us, 0, rs, Heap.get?_push_size _ rfl⟩)
    have e0 : (List.take 1 (u0 :: us).toArray.toList ++ [Value.ref h'.objs.size]) = [u0, .ref h'.objs.size] := rfl
    have e2 : (List.drop 1 (u0 :: us).toArray.toList).toArray = us.toArray := rfl
    rw [e0, e2]
    exact h.run pins _ σ _ [x, .ref h'.objs.size] _ Q I2 (.cons r0 (.cons rfl .nil)) (hw _ (I1.hok.fresh (Nat.le_refl _)))
end Lc
namespace Lc
open PySem PySem.Spec PyProof.Rows L2 Evl
section
variable {X : Cx} {CX : CXT} {k : Nat} {f C : Addr} {fd : FuncData} {ps : List Str} {sp : Sp} {E : XK} {e : Expr} {te : TE} {pos : Pos}
/-! ### {o!s} by an own __str__ -/
def tFmtO (C : Addr) (sp : Sp) (E : XK) (te : TE) : TE := fun σ H Q => te σ H fun x H1 => ∃ a dx fs, x = .ref a ∧ H1 a = some (.ins C dx fs) ∧ sp [.ref a] H1 (fun v H' => ∃ z, v = .str z ∧ z.length ≤ sizeLine ∧ Q v H') E
theorem pe_fmtO (F : FnOk X.prog X.w X.K X.mg X.base CX k f fd ps sp) (hr : Room k X.A) (hs : PySem.W.findIn X.K (.ref C) "__str__" = some (some (.ref f))) (hf : PySem.W.isFn X.K (.ref f) = true) (hb : Binds X.K fd ps []) (hx : Passes CX X E) (he : PE X e te) :
    PE X (.FormattedValue e 115 none pos) (tFmtO C sp E te) := by
  refine ⟨fun pins s σ H Q I h => ?_⟩
  refine wpAny_FormattedValue_s (thn (he.run pins s σ H _ I h) fun v s1 hv => ?_)
  obtain ⟨x, H1, I1, r1, a, dx, fs, rfl, ha, hsp⟩ := hv
  obtain rfl : v = Value.ref a := r1
  obtain ⟨mA, J, _⟩ := ins_get I1.hok ha
  obtain ⟨od, J, _⟩ := J.look
  show wpAny _ _ (pyStrObj (.ref a)) _ _ _
  unfold pyStrObj
  refine wpAny_bind (m := cRoomFor _ _) (PySem.wpAny_cRoomFor hr.units0 ?_)
  refine wpAny_bind (m := callSpecial? (.ref a) (PySem.Str.ofString "__str__")) (PySem.W.special_fn I1.kIn J hs (beq_iff_eq.mp hf) (wpAny_mono (run_at (A := X.A) (vs := [.ref a]) rfl F hr hb hx I1 (.cons (show RelV (.ref a) (Value.ref a) from rfl) .nil) hsp) (fun w s' hw => ?_) fun _ _ x => x))
  obtain ⟨v, H', I', rv, z, rfl, hz, q⟩ := hw
  obtain ⟨t, rfl⟩ := rv
  refine wpAny_bind (wpAny_isInstance (T := "str") (b := true) rfl isSubtype_str_str ?_)
  exact wpAny_pure (wpAny_formatField_str ⟨.str z, H', I', ⟨t, rfl⟩, q⟩ ⟨.str z, H', I'.tok _, ⟨_, rfl⟩, q⟩ hz)
end
end Lc
namespace Lc
open PySem PySem.Spec PyProof.Rows L2 Evl
section
variable {X : Cx} {e : Expr} {te : TE} {pos : Pos} {f : Str}
theorem pe_fldK (K : PySem.W.Frag) (hK : X.K = K) (he : PE X e te) (hb : attributeBase e f X.env (eval e X.env) = eval e X.env) : PE X (.Attribute e f pos) (tFld K te f) := by
  subst hK
  exact pe_fld he hb
end
end Lc
namespace Lc
open PySem PySem.Spec PyProof.Rows L2 Evl
/-! ### len(set(texts)) -/
def addS (f : List Str) (x : Str) : List Str := if x ∈ f then f else f ++ [x]
theorem addS_mem {f : List Str} {x k : Str} : k ∈ addS f x ↔ k ∈ f ∨ k = x := by
  unfold addS
  by_cases h : x ∈ f
  · rw [if_pos h]
    exact ⟨.inl, fun q => q.elim id fun e => e ▸ h⟩
  · rw [if_neg h, List.mem_append, List.mem_singleton]
theorem addS_len {f : List Str} {x : Str} : (addS f x).length = if decide (x ∈ f) = true then f.length else f.length + 1 := by
  unfold addS
  by_cases h : x ∈ f
  · rw [if_pos h, if_pos (decide_eq_true h)]
  · rw [if_neg h, if_neg (by simp [h]), List.length_append, List.length_singleton]
def setS (xs : List Str) : List Str := xs.foldl addS []
theorem fold_len : ∀ (xs f : List Str), f.Nodup → (xs.foldl addS f).length ≤ f.length + xs.length ∧ ((xs.foldl addS f).length = f.length + xs.length ↔ (f ++ xs).Nodup)
  | [], f, h => by simp [h]
  | x :: r, f, h => by
    rw [List.foldl_cons, List.length_cons]
    by_cases hx : x ∈ f
    · have e : addS f x = f := if_pos hx
      obtain ⟨h1, h2⟩ := fold_len r f h
      rw [e]
      refine ⟨by omega, fun z => by omega, fun z => ?_⟩
      exact absurd rfl ((List.nodup_append.mp z).2.2 x hx x (List.mem_cons_self ..))
    · have e : addS f x = f ++ [x] := if_neg hx
      have hn : (f ++ [x]).Nodup := List.nodup_append.mpr ⟨h, by simp, fun a ha b hb z => hx (by rw [← List.mem_singleton.mp hb, ← z]; exact ha)⟩
      obtain ⟨h1, h2⟩ := fold_len r (f ++ [x]) hn
      rw [e]
      rw [List.length_append, List.length_singleton] at h1 h2
      refine ⟨by omega, ?_⟩
      rw [show f.length + (r.length + 1) = f.length + 1 + r.length by omega, h2, List.append_assoc]
      rfl
theorem setS_len (xs : List Str) : (setS xs).length ≤ xs.length ∧ ((setS xs).length = xs.length ↔ xs.Nodup) := by
  have h := fold_len xs [] List.nodup_nil
  simpa [setS] using h
theorem setS_snoc {xs : List Str} {i : Nat} {x : Str} (h : xs[i]? = some x) : setS (xs.take (i + 1)) = addS (setS (xs.take i)) x := by
  unfold setS
  rw [List.take_add_one, h, List.foldl_append]
  rfl
section
variable {prog : Program} {w : World} {A : Around} {R : Result → Shared → Prop} {I : Addr} {fp wr : List Addr} {G : Array GenState → Array GenState → Prop} {n : Nat} {P : Nat → Value → Prop} {St : Nat → Shared → Prop}
/-- texts put into a set, one after the other -/
theorem put_texts (V : WalksS prog w A.in1 I fp wr G n P St) (D : Addr) (hD : D ∉ fp) (xs : List Str) (hn : xs.length = n) (few : n < 4000) (tx : ∀ i v, P i v → ∃ t, v = .str (xs.getD i Str.empty) t) (m : Nat) :
    ∀ (i : Nat) (s : Shared), n - i = m → i ≤ n → St i s → s.heap.SetOf (PySem.strKind prog w) D (fun z => decide (z ∈ setS (xs.take i))) (setS (xs.take i)).length →
      (∀ s', Moved (D :: wr) G s s' → s'.heap.SetOf (PySem.strKind prog w) D (fun z => decide (z ∈ setS xs)) (setS xs).length → R (.ok (.ret .none)) s') → codeAny (model prog w) A (.builtin "set.update.loop" ⟨[.ref D, .ref I], []⟩) R s := by
  have hw : D ∉ wr := fun z => hD (V.sub _ z)
  have up : ∀ c ∈ wr, c ∈ D :: wr := fun _ z => .tail _ z
  have kp : ∀ {s s' : Shared} {S : Str → Bool} {k : Nat}, Moved wr G s s' → s.heap.SetOf (PySem.strKind prog w) D S k → s'.heap.SetOf (PySem.strKind prog w) D S k := fun mv z => by
    obtain ⟨o, q1, q2, q3, q4, more⟩ := z
    exact ⟨o, q1, q2, q3, mv.heap D o hw q4, more⟩
  induction m with
  | zero =>
    intro i s e hi st hs k
    obtain rfl : i = n := by omega
    refine codeAny_builtin PyProof.Rows.F.entry_set_update_loop ?_
    rw [Around.under_plainId PyProof.Rows.F.plain_set_update_loop _]
    refine wpAny_bind (m := pyNext (.ref I)) (V.done s _ _ st fun s' mv => ?_)
    refine wpAny_pure (k s' (mv.mono up) ?_)
    have z := kp mv hs
    rw [List.take_of_length_le (by omega)] at z
    exact z
  | succ m ih =>
    intro i s e hi st hs k
    have lt : i < n := by omega
    have hx : xs[i]? = some (xs.getD i Str.empty) := by
      rw [List.getD_eq_getElem?_getD, List.getElem?_eq_getElem (by omega)]
      rfl
    refine codeAny_builtin PyProof.Rows.F.entry_set_update_loop ?_
    rw [Around.under_plainId PyProof.Rows.F.plain_set_update_loop _]
    refine wpAny_bind (m := pyNext (.ref I)) (V.item i s _ _ lt st fun v s1 hp st1 mv => ?_)
    obtain ⟨t, rfl⟩ := tx i v hp
    have hs1 := kp mv hs
    have hle := (setS_len (xs.take i)).1
    rw [List.length_take] at hle
    have step := setS_snoc hx
    generalize xs.getD i Str.empty = x at hx step ⊢
    refine wpAny_bind (m := holding [Value.str x t] (setAdd D (.str x t))) (wpAny_holding ?_)
    unfold setAdd
    refine wpAny_holding (wpAny_bind ((PySem.strKind prog w).pyHash (k := x) (strKind_is _ _ _ _) ?_))
    refine wpAny_setAddHashed_of (knd := PySem.strKind prog w) (s := { s1 with toks := s1.toks + 1 }) (strKind_is _ _ _ _) rfl hs1 (by unfold scanBound; omega) fun h' hb hs2 => ?_
    have hs3 : h'.SetOf (PySem.strKind prog w) D (fun z => decide (z ∈ setS (xs.take (i + 1)))) (setS (xs.take (i + 1))).length := by
      rw [step]
      refine SetOf_congr hs2 (fun z => ?_) addS_len.symm
      rw [Bool.eq_iff_iff]
      simp only [Bool.or_eq_true, decide_eq_true_eq]
      exact addS_mem.symm
    refine wpAny_pure ⟨plainId_quiet PyProof.Rows.F.plain_set_update_loop _, ih (i + 1) _ (by omega) lt (V.frame _ s1 _ _ st1 (Nat.le_succ _) fun c hc o z => ?_) hs3 fun s2 mv2 hs4 => k s2 (Moved.trans V.gtrans ((mv.mono up).then_heap (Nat.le_succ _) fun c o hc z => ?_) mv2) hs4⟩
    · exact (hb.2 c fun q => hD (q ▸ hc)).trans z
    · exact (hb.2 c fun q => hc (q ▸ .head _)).trans z
end
section
variable {prog : Program} {w : World} {A : Around} {E : Value → Shared → Prop} {s : Shared}
def emS (led : Bool) : Obj := { cls := .type "set", dict := none, data := .set #[] 0 (.fresh 0 0 led) }
/-- set(a list of texts) -/
theorem set_of_texts {l : Addr} {its : Array Value} {xs : List Str} {Q : Value → Shared → Prop} (hh : A.handled = none) (hl : s.heap.IsList l its) (hx : StrsAre its.toList xs) (few : xs.length < 4000)
    (k : ∀ (h' : Heap) (tk : Nat), h'.SetOf (PySem.strKind prog w) s.heap.objs.size (fun z => decide (z ∈ setS xs)) (setS xs).length → (∀ b o, b < s.heap.objs.size → s.heap.get? b = some o → h'.get? b = some o) → Q (.ref s.heap.objs.size) { s with heap := h', toks := tk }) :
    wpAny (model prog w) A (call (.type "set") [.ref l]) Q E s := by
  have w1 := PySem.F.called_set.mro
  obtain ⟨_, _, w1⟩ := w1
  have w2 := PySem.F.called_set.made
  have w3 := PySem.F.called_set.sub
  have w4 := PySem.F.called_set.notType
  have w5 := PySem.F.called_set.canCreate
  have w6 := PySem.F.typeCall_set_1 (.ref l)
  refine wpAny_call (codeAny_of_tree (wpAny_pure ⟨Code.quiet_builtin _ (by decide +kernel), codeAny_builtin PySem.F.entry_type_call ?_⟩))
  rw [Around.under_plain (weight_type_call_type "set" [.ref l] []) rfl]
  repeat (any_goals (first | assumption | wp_step))
  refine codeAny_mono (code_set_new_1 (.ref l) (E := E) (Q₁ := fun v s1 => ∃ led : Bool, v = .ref s.heap.objs.size ∧ s1 = { s with heap := s.heap.push (emS led) }) fun led => ⟨led, rfl, rfl⟩) fun r s1 hr => ?_
  match r, hr with
  | .error _, hr => exact hr
  | .ok (.ret v), hr =>
    obtain ⟨led, rfl, rfl⟩ := hr
    have hD : (s.heap.push (emS led)).get? s.heap.objs.size = some (emS led) := Heap.get?_push_size _ rfl
    have hT : Shared.TypeIs { s with heap := s.heap.push (emS led) } (.ref s.heap.objs.size) "set" := ⟨_, hD, rfl⟩
    have w7 := PySem.F.called_set.init.lookup
    have w8 := PySem.F.called_set.init.bind (.ref s.heap.objs.size)
    repeat (any_goals (first | assumption | wp_step))
    refine codeAny_mono (codeAny_call_builtin (R := wants (fun v s2 => v = .none ∧ ∃ h' tk, s2 = { s with heap := h', toks := tk } ∧ h'.SetOf (PySem.strKind prog w) s.heap.objs.size (fun z => decide (z ∈ setS xs)) (setS xs).length ∧ ∀ b o, b < s.heap.objs.size → s.heap.get? b = some o → h'.get? b = some o) E) PySem.F.called_set.init.plain PySem.F.entry_set_init (check_set_init_1 hT ?_)) fun r2 s2 hr2 => ?_
    · obtain ⟨⟨cl, dc, dt, sl⟩, ho, h1, nl, h2⟩ := hl
      simp only at h1 h2
      subst h1 h2
      have hol : (s.heap.push (emS led)).get? l = some { cls := .type "list", dict := dc, data := .seq its nl, slots := sl } := Heap.get?_push_of_some _ ho
      have w9 := PySem.F.sub_list_set
      have wA := PySem.F.sub_list_frozenset
      have wB : (Value.type "list" == Value.type "dict") = false := by decide
      have hl1 : (s.heap.push (emS led)).IsList l its := ⟨_, hol, rfl, nl, rfl⟩
      unfold Builtin.«set.__init__» noKeywords Builtin.Frozenset.updateFrom
      generalize hpi : pyIter = it
      wp_walk
      subst hpi
      refine wpAny_pyIter_list hl1 (wpAny_bind (wpAny_runValue ?_))
      have ll : l < s.heap.objs.size := Heap.lt_size ho
      have ls : (s.heap.push (emS led)).objs.size = s.heap.objs.size + 1 := Heap.size_push _ _
      have n1 : l ≠ (s.heap.push (emS led)).objs.size := fun z => by
        have z2 : l < (s.heap.push (emS led)).objs.size := by rw [ls]; exact Nat.lt_succ_of_lt ll
        exact Nat.lt_irrefl _ (z ▸ z2)
      have n2 : s.heap.objs.size ∉ [(s.heap.push (emS led)).objs.size, l] := fun z => by
        rcases List.mem_cons.mp z with z | z
        · rw [ls] at z
          exact absurd z (Nat.ne_of_lt (Nat.lt_succ_self _))
        · rw [List.mem_singleton.mp z] at ll
          exact Nat.lt_irrefl _ ll
      have hz : xs.length = its.size := by rw [← StrsAre.len_eq hx, Array.length_toList]
      refine put_texts ((Walks.list (show A.in1.in1.in1.handled = none by simp [hh]) _ l n1 its).toS) s.heap.objs.size n2 xs hz (hz ▸ few) (fun i v q => SS.strs_at hx i v (by rw [Array.getElem?_toList]; exact q)) (its.size - 0) 0 _ (by omega) (Nat.zero_le _) ⟨⟨_, Heap.get?_push_size _ rfl, rfl, rfl⟩, hl1.push _⟩ ?_ fun s3 mv hs => ?_
      · exact SetOf_congr ((setObjOf_fresh (knd := PySem.strKind prog w) led).setOf (Heap.get?_push_of_some _ hD) (by unfold scanBound; omega)) (fun _ => rfl) rfl
      · obtain ⟨h3, g3, d3, t3, o3⟩ := s3
        obtain rfl : g3 = s.gens := mv.gens
        obtain rfl : d3 = s.drawn := mv.drawn
        obtain rfl : o3 = s.os := mv.os
        show wpAny _ _ _ _ _ _
        refine wpAny_pure ?_
        show wpAny _ _ (ret Value.none) _ _ _
        refine wpAny_pure ⟨rfl, h3, t3, rfl, hs, fun b o hb q => mv.heap b o (fun z => ?_) (Heap.get?_push_of_some _ (Heap.get?_push_of_some _ q))⟩
        rcases List.mem_cons.mp z with z | z
        · exact Nat.ne_of_lt hb z
        · have z2 := List.mem_singleton.mp z
          rw [ls] at z2
          exact Nat.ne_of_lt (Nat.lt_succ_of_lt hb) z2
    · match r2, hr2 with
      | .error _, q => exact q
      | .ok (.ret v), q =>
        obtain ⟨rfl, h3, tk, rfl, hs, kp⟩ := q
        repeat (any_goals (first | assumption | wp_step))
        exact k _ _ hs kp
end
/-- len(set(xs)), xs a list of texts -/
def tLenSetS (K : PySem.W.Frag) (ta : TE) : TE := fun σ H Q => ta σ H fun x H1 => ∃ (l : Addr) (xs : List Str), x = .ref l ∧ SqL K H1 l (xs.map V.str) ∧ xs.length < 4000 ∧ Q (.int (setS xs).length) H1
theorem pe_lenSetS {X : Cx} {a : Expr} {ta : TE} {p p2 q pos : Pos} (hc : X.calm = true) (hg : Gl X "len") (hm : X.mg "len" = none) (hg2 : Gl X "set") (hm2 : X.mg "set" = none) (ha : PE X a ta)
    (na : starEach [a] X.env = (false, eval a X.env) :: starEach [] X.env := by rfl) : PE X (.Call (.Name "len" p) [.Call (.Name "set" p2) [a] [] q] [] pos) (tLenSetS X.K ta) := by
  refine ⟨fun pins s σ H Q I h => Call_ (ld_blt I hg hm boot_len (callWith_builtin1 (args_cons (Call_ (ld_blt I hg2 hm2 boot_set (callWith_type1 (args_cons (thn (ha.run pins s σ H _ I h) fun v s1 z => args_nil ?_) na) na rfl))) rfl) rfl rfl))⟩
  obtain ⟨x, H1, I1, r1, l, xs, rfl, hq, few, q1⟩ := z
  cases r1
  obtain ⟨its, r, pl, hz⟩ := I1.list hq
  refine set_of_texts (I1.ok.hd hc) pl.isList (by simpa using strsAre_of r) few fun h' tk hs hk => args_nil ?_
  obtain ⟨o, es, ep, t, ho, he, hd, _, _, _, hf, hn⟩ := hs
  have I2 : Inv X pins σ H1 { s1 with heap := h', toks := tk } := I1.kept fun b u e => hk b u (Heap.lt_size e) e
  have hle := (setS_len xs).1
  exact call_len_set ho he hd hf (by rw [hn]; omega) ⟨.int (setS xs).length, H1, I2.tok _, ⟨_, by rw [hn]⟩, q1⟩
end Lc
namespace Lc
open PySem PySem.Spec PyProof.Rows L2 Evl
/-! ### numbers as texts -/
def dec (i : Int) : List Nat := (Str.ofString (toString i)).cps.toList
theorem S_dec (i : Int) : S (dec i) = Str.ofString (toString i) := S_tl _
theorem dec_nat (m : Nat) : dec (m : Int) = (Nat.toDigits 10 m).map Char.toNat := PySem.W.KIN.signs_num m
theorem dec_sign {i : Int} {c : Nat} (h : c ∈ dec i) : c = 45 ∨ (48 ≤ c ∧ c ≤ 57) := by
  by_cases h1 : c = 45
  · exact .inl h1
  · by_cases h2 : 48 ≤ c ∧ c ≤ 57
    · exact .inr h2
    · exact absurd h (int_text_free' c ⟨h1, by omega⟩ i)
theorem dec_val (m : Nat) : NumText.digitsVal (dec (m : Int)) = m := by
  rw [dec_nat]
  exact PySem.W.KIN.val_back m
theorem dec_free (i : Int) : (∀ c ∈ dec i, c < 128) ∧ 32 ∉ dec i ∧ 58 ∉ dec i := by
  refine ⟨fun c hc => ?_, fun hc => ?_, fun hc => ?_⟩
  · have := dec_sign hc
    omega
  · have := dec_sign hc
    omega
  · have := dec_sign hc
    omega
theorem dec_len {m k : Nat} (hk : 1 ≤ k) (h : m < 10 ^ k) : (dec (m : Int)).length ≤ k := by
  rw [dec_nat, List.length_map, ← Nat.toList_repr]
  exact Flt.repr_len hk h
theorem dec_num (m : Nat) : dec (m : Int) = TL.numL m := TL.tl_num m
theorem dec_digits (m : Nat) : NumText.AllDigits (dec (m : Int)) := by
  rw [dec_num]
  exact TL.numL_digits m
theorem num_head : ∀ m : Nat, 1 ≤ m → ∃ c r, TL.numL m = c :: r ∧ 49 ≤ c := by
  intro m
  induction m using Nat.strongRecOn with
  | _ m ih =>
    intro h
    by_cases hm : m < 10
    · exact ⟨48 + m, [], TL.numL_lt hm, by omega⟩
    · obtain ⟨c, r, e, hc⟩ := ih (m / 10) (by omega) (by omega)
      exact ⟨c, r ++ [48 + m % 10], by rw [TL.numL_step (by omega), e]; rfl, hc⟩
theorem dec_le {n : Int} (h1 : -2 ≤ n) (h2 : n ≤ 3000000) : (dec n).length ≤ 10 := by
  by_cases h0 : 0 ≤ n
  · obtain ⟨m, rfl⟩ : ∃ m : Nat, n = (m : Int) := ⟨n.toNat, by omega⟩
    exact dec_len (k := 10) (by decide) (Nat.lt_of_le_of_lt (show m ≤ 3000000 by omega) (by decide))
  · have h3 : n = -1 ∨ n = -2 := by omega
    rcases h3 with rfl | rfl <;> decide +kernel
/-! ### digits read back -/
def DgT (l : List Nat) : Prop := 1 ≤ l.length ∧ l.length ≤ 4 ∧ l.getD 0 0 ≠ 48 ∧ ∀ c ∈ l, 48 ≤ c ∧ c ≤ 57
instance (l : List Nat) : Decidable (DgT l) := by
  unfold DgT
  infer_instance
def valT (l : List Nat) : Int := (NumText.digitsVal l : Nat)
theorem dg_back {l : List Nat} (h : DgT l) : dec (valT l) = l := by
  obtain ⟨h1, h4, h0, hd⟩ := h
  unfold valT
  rw [dec_nat]
  obtain ⟨c, r, rfl⟩ : ∃ c r, l = c :: r := by
    cases l with
    | nil => simp at h1
    | cons c r => exact ⟨c, r, rfl⟩
  have hc : 49 ≤ c := by
    have h2 := hd c (List.mem_cons_self ..)
    have h3 : c ≠ 48 := h0
    omega
  rw [NumText.toDigits_digitsVal r.length (c :: r) rfl hd (.inr ⟨c, r, rfl, hc⟩), List.map_map]
  have : (c :: r).map (Char.toNat ∘ Char.ofNat) = (c :: r).map id := List.map_congr_left fun x hx => by
    have h2 := hd x hx
    have h10 : x = 48 ∨ x = 49 ∨ x = 50 ∨ x = 51 ∨ x = 52 ∨ x = 53 ∨ x = 54 ∨ x = 55 ∨ x = 56 ∨ x = 57 := by omega
    rcases h10 with rfl | rfl | rfl | rfl | rfl | rfl | rfl | rfl | rfl | rfl <;> rfl
  rw [this, List.map_id]
theorem dg_range {l : List Nat} (h : DgT l) : 1 ≤ valT l ∧ valT l ≤ 9999 := by
  obtain ⟨h1, h4, h0, hd⟩ := h
  unfold valT NumText.digitsVal
  match l, h1, h4, h0, hd with
  | [a], _, _, h0, hd =>
    have := hd a (by simp)
    simp at h0 ⊢
    omega
  | [a, b], _, _, h0, hd =>
    have := hd a (by simp)
    have := hd b (by simp)
    simp at h0 ⊢
    omega
  | [a, b, c], _, _, h0, hd =>
    have := hd a (by simp)
    have := hd b (by simp)
    have := hd c (by simp)
    simp at h0 ⊢
    omega
  | [a, b, c, d], _, _, h0, hd =>
    have := hd a (by simp)
    have := hd b (by simp)
    have := hd c (by simp)
    have := hd d (by simp)
    simp at h0 ⊢
    omega
theorem dg_of {n : Int} (h1 : 1 ≤ n) (h2 : n ≤ 9999) : DgT (dec n) ∧ valT (dec n) = n := by
  obtain ⟨m, rfl⟩ : ∃ m : Nat, n = (m : Int) := ⟨n.toNat, by omega⟩
  obtain ⟨c, r, e, hc⟩ := num_head m (by omega)
  have hl := dec_len (m := m) (k := 4) (by decide) (by omega)
  refine ⟨⟨?_, hl, ?_, dec_digits m⟩, ?_⟩
  · rw [dec_num, e]
    simp
  · rw [dec_num, e]
    show c ≠ 48
    omega
  · unfold valT
    rw [dec_val]
/-! ### int of digits -/
theorem ev_intT {σ : L2.St} {H : Hp} {te : TE} {l : List Nat} (h : Ev te σ H (.str (S l))) (hd : DgT l) : Ev (tCB (fun xs H Q => ∃ a n, xs = [.str a] ∧ PySem.intText? a = some n ∧ a.length ≤ 640 ∧ Q (.int n) H) (tCons te tNil)) σ H (.int (valT l)) := fun H1 e Q q =>
  h H1 e _ fun H2 e2 => ⟨S l, valT l, rfl, by
    have h3 : l ≠ [] := fun z => by
      have := hd.1
      rw [z] at this
      simp at this
    exact intText_digits (x := S l) hd.2.2.2 h3 (by rw [S_len]; have := hd.2.1; omega), by rw [S_len]; have := hd.2.1; omega, q H2 e2⟩
/-! ### words between blanks -/
def spw : List Nat → List (List Nat)
  | [] => [[]]
  | c :: r => if c = 32 then [] :: spw r else match spw r with
    | [] => [[c]]
    | w :: ws => (c :: w) :: ws
theorem spw_ne (l : List Nat) : spw l ≠ [] := by
  cases l with
  | nil => simp [spw]
  | cons c r =>
    unfold spw
    split
    · simp
    · split <;> simp
theorem spw_cons {c : Nat} {r w : List Nat} {ws : List (List Nat)} (hc : c ≠ 32) (h : spw r = w :: ws) : spw (c :: r) = (c :: w) :: ws := by
  show (if c = 32 then [] :: spw r else match spw r with
    | [] => [[c]]
    | w :: ws => (c :: w) :: ws) = _
  rw [if_neg hc, h]
theorem spw_32 (r : List Nat) : spw (32 :: r) = [] :: spw r := if_pos rfl
theorem spl_spw : ∀ (l acc : List Nat) (w : List Nat) (ws : List (List Nat)), spw l = w :: ws → TL.spl [32] 0 acc l = (acc ++ w) :: ws
  | [], acc, w, ws, h => by
    cases h
    rw [TL.spl_nil, List.append_nil]
  | c :: r, acc, w, ws, h => by
    obtain ⟨v, vs, hv⟩ : ∃ v vs, spw r = v :: vs := by
      cases hr : spw r with
      | nil => exact absurd hr (spw_ne r)
      | cons v vs => exact ⟨v, vs, rfl⟩
    by_cases hc : c = 32
    · subst hc
      rw [spw_32] at h
      obtain ⟨h1, h2⟩ := List.cons.inj h
      rw [TL.spl_hit (by rfl), ← h1, ← h2, List.append_nil]
      show acc :: TL.spl [32] 0 [] r = _
      rw [spl_spw r [] v vs hv, hv]
      rfl
    · rw [spw_cons hc hv] at h
      obtain ⟨h1, h2⟩ := List.cons.inj h
      rw [TL.spl_miss (by simp [TL.pre, hc, Ne.symm hc]), spl_spw r (acc ++ [c]) v vs hv, List.append_assoc, ← h1, ← h2]
      rfl
theorem split_spw (l : List Nat) : Txt.split (S l) (S [32]) = (spw l).map S := by
  have h := SX.split_S (a := l) (b := [32]) (by simp) (by decide)
  obtain ⟨v, vs, hv⟩ : ∃ v vs, spw l = v :: vs := by
    cases hr : spw l with
    | nil => exact absurd hr (spw_ne l)
    | cons v vs => exact ⟨v, vs, rfl⟩
  rw [spl_spw l [] v vs hv] at h
  rw [hv]
  exact h
def jw : List (List Nat) → List Nat
  | [] => []
  | [w] => w
  | w :: v :: r => w ++ 32 :: jw (v :: r)
theorem jw_cons (w : List Nat) {ws : List (List Nat)} (h : ws ≠ []) : jw (w :: ws) = w ++ 32 :: jw ws := by
  cases ws with
  | nil => exact absurd rfl h
  | cons v r => rfl
theorem jw_spw : ∀ l : List Nat, jw (spw l) = l
  | [] => rfl
  | c :: r => by
    have ih := jw_spw r
    by_cases hc : c = 32
    · subst hc
      rw [spw_32, jw_cons [] (spw_ne r), ih]
      rfl
    · obtain ⟨v, vs, hv⟩ : ∃ v vs, spw r = v :: vs := by
        cases hr : spw r with
        | nil => exact absurd hr (spw_ne r)
        | cons v vs => exact ⟨v, vs, rfl⟩
      rw [spw_cons hc hv]
      rw [hv] at ih
      cases vs with
      | nil =>
        show c :: v = c :: r
        rw [← ih]
        rfl
      | cons x y =>
        show c :: (v ++ 32 :: jw (x :: y)) = c :: r
        rw [← ih]
        rfl
theorem spw_one : ∀ w : List Nat, 32 ∉ w → spw w = [w]
  | [], _ => rfl
  | c :: r, h => by
    rw [spw_cons (fun z => h (z ▸ List.mem_cons_self ..)) (spw_one r fun z => h (List.mem_cons_of_mem _ z))]
theorem spw_app : ∀ (w l : List Nat), 32 ∉ w → spw (w ++ 32 :: l) = w :: spw l
  | [], l, _ => spw_32 l
  | c :: r, l, h => by
    have e := spw_app r l fun z => h (List.mem_cons_of_mem _ z)
    exact spw_cons (fun z => h (z ▸ List.mem_cons_self ..)) e
theorem spw_jw : ∀ ws : List (List Nat), ws ≠ [] → (∀ w ∈ ws, 32 ∉ w) → spw (jw ws) = ws
  | [], h, _ => absurd rfl h
  | [w], _, h => spw_one w (h w (List.mem_cons_self ..))
  | w :: v :: r, _, h => by
    rw [jw_cons w (by simp), spw_app w _ (h w (List.mem_cons_self ..)), spw_jw (v :: r) (by simp) fun x hx => h x (List.mem_cons_of_mem _ hx)]
theorem spw_len : ∀ l : List Nat, (spw l).length ≤ l.length + 1
  | [] => Nat.le_refl _
  | c :: r => by
    have ih := spw_len r
    by_cases hc : c = 32
    · subst hc
      rw [spw_32]
      simp
      omega
    · obtain ⟨v, vs, hv⟩ : ∃ v vs, spw r = v :: vs := by
        cases hr : spw r with
        | nil => exact absurd hr (spw_ne r)
        | cons v vs => exact ⟨v, vs, rfl⟩
      rw [spw_cons hc hv]
      rw [hv] at ih
      simp at ih ⊢
      omega
theorem spw_mem : ∀ (l w : List Nat), w ∈ spw l → (∀ c ∈ w, c ∈ l) ∧ w.length ≤ l.length
  | [], w, h => by
    rw [List.mem_singleton.mp h]
    exact ⟨fun c hc => hc, Nat.le_refl _⟩
  | c :: r, w, h => by
    by_cases hc : c = 32
    · subst hc
      rw [spw_32] at h
      rcases List.mem_cons.mp h with rfl | h
      · exact ⟨fun c hc => (by cases hc), Nat.zero_le _⟩
      · obtain ⟨h1, h2⟩ := spw_mem r w h
        exact ⟨fun c hc => List.mem_cons_of_mem _ (h1 c hc), by rw [List.length_cons]; omega⟩
    · obtain ⟨v, vs, hv⟩ : ∃ v vs, spw r = v :: vs := by
        cases hr : spw r with
        | nil => exact absurd hr (spw_ne r)
        | cons v vs => exact ⟨v, vs, rfl⟩
      rw [spw_cons hc hv] at h
      rcases List.mem_cons.mp h with rfl | h
      · obtain ⟨h1, h2⟩ := spw_mem r v (by rw [hv]; exact List.mem_cons_self ..)
        exact ⟨fun x hx => by
          rcases List.mem_cons.mp hx with rfl | hx
          · exact List.mem_cons_self ..
          · exact List.mem_cons_of_mem _ (h1 x hx), by rw [List.length_cons, List.length_cons]; omega⟩
      · obtain ⟨h1, h2⟩ := spw_mem r w (by rw [hv]; exact List.mem_cons_of_mem _ h)
        exact ⟨fun x hx => List.mem_cons_of_mem _ (h1 x hx), by rw [List.length_cons]; omega⟩
theorem joinL_jw : ∀ ws : List (List Nat), TL.joinL [32] ws = jw ws
  | [] => rfl
  | [_] => rfl
  | w :: v :: r => by
    rw [jw_cons w (by simp), ← joinL_jw (v :: r)]
    rfl
theorem join_jw (ws : List (List Nat)) : Txt.join (S [32]) (ws.map S) = S (jw ws) := by
  have h := SX.join_S [32] ws
  rw [joinL_jw] at h
  exact h
theorem joinL_flat : ∀ ws : List (List Nat), TL.joinL [] ws = ws.flatten
  | [] => rfl
  | [w] => by
    show w = [w].flatten
    simp
  | w :: v :: r => by
    have ih := joinL_flat (v :: r)
    show w ++ ([] ++ TL.joinL [] (v :: r)) = _
    rw [ih]
    simp
theorem join_flat (ws : List (List Nat)) : Txt.join (S []) (ws.map S) = S ws.flatten := by
  have h := SX.join_S [] ws
  rw [joinL_flat] at h
  exact h
theorem sum_lenS : ∀ ws : List (List Nat), ((ws.map S).map (·.length)).sum = ws.flatten.length
  | [] => rfl
  | w :: r => by
    have ih := sum_lenS r
    rw [List.map_cons, List.map_cons, List.sum_cons, ih, List.flatten_cons, List.length_append]
    rw [S_len]
end Lc
namespace Lc
open PySem PySem.Spec PyProof.Rows L2 Evl
section
variable {K : PySem.W.Frag} {σ : L2.St} {H : Hp} {t1 t2 t3 te : TE}
/-! ### f'..' put together -/
abbrev tJo (ts : List TE) : TE := fun σ H Q => tJs ts Str.empty σ H fun out H1 => Q (.str out) H1
theorem em_app (a : List Nat) : Str.empty ++ S a = S a := S_app [] a
theorem ev_js2 {a b : List Nat} (h1 : Ev t1 σ H (.str (S a))) (h2 : Ev t2 σ H (.str (S b))) (hz : a.length + b.length ≤ 100000) : Ev (tJo [t1, t2]) σ H (.str (S (a ++ b))) := fun H1 e Q q => by
  refine h1 H1 e _ fun H2 e2 => ⟨S a, rfl, ?_, ?_⟩
  · rw [em_app]
    exact sz_of (by rw [S_len]; omega)
  rw [em_app]
  refine h2 H2 (e.trans e2) _ fun H3 e3 => ⟨S b, rfl, ?_, ?_⟩
  · rw [S_app]
    exact sz_of (by rw [S_len, List.length_append]; omega)
  rw [S_app]
  exact q H3 (e2.trans e3)
theorem ev_js3 {a b c : List Nat} (h1 : Ev t1 σ H (.str (S a))) (h2 : Ev t2 σ H (.str (S b))) (h3 : Ev t3 σ H (.str (S c))) (hz : a.length + b.length + c.length ≤ 100000) : Ev (tJo [t1, t2, t3]) σ H (.str (S (a ++ b ++ c))) := fun H1 e Q q => by
  refine h1 H1 e _ fun H2 e2 => ⟨S a, rfl, ?_, ?_⟩
  · rw [em_app]
    exact sz_of (by rw [S_len]; omega)
  rw [em_app]
  refine h2 H2 (e.trans e2) _ fun H3 e3 => ⟨S b, rfl, ?_, ?_⟩
  · rw [S_app]
    exact sz_of (by rw [S_len, List.length_append]; omega)
  rw [S_app]
  refine h3 H3 ((e.trans e2).trans e3) _ fun H4 e4 => ⟨S c, rfl, ?_, ?_⟩
  · rw [S_app]
    exact sz_of (by rw [S_len, List.length_append, List.length_append]; omega)
  rw [S_app]
  exact q H4 ((e2.trans e3).trans e4)
theorem log_small {i : Int} (h : i.natAbs < 2 ^ 100) : i.natAbs.log2 < 1920 := by
  by_cases h0 : i.natAbs = 0
  · rw [h0]
    decide
  · exact Nat.lt_of_lt_of_le ((Nat.log2_lt h0).mpr h) (by decide)
theorem ev_fmtS {a : List Nat} (h : Ev te σ H (.str (S a))) (hz : a.length ≤ 100000) : Ev (tFmt te) σ H (.str (S a)) := fun H1 e Q q => h H1 e _ fun H2 e2 => .inl ⟨S a, rfl, sz_of (by rw [S_len]; exact hz), q H2 e2⟩
theorem ev_fmtI {i : Int} (h : Ev te σ H (.int i)) (hz : i.natAbs < 2 ^ 100) : Ev (tFmt te) σ H (.str (S (dec i))) := fun H1 e Q q => h H1 e _ fun H2 e2 => .inr ⟨i, rfl, log_small hz, by rw [← S_dec]; exact q H2 e2⟩
theorem ev_strI {i : Int} (h : Ev te σ H (.int i)) (hz : i.natAbs < 2 ^ 100) : Ev (tCB (fun xs H Q => ∃ i : Int, xs = [V.int i] ∧ i.natAbs.log2 < 1920 ∧ Q (.str (toString i)) H) (tCons te tNil)) σ H (.str (S (dec i))) := fun H1 e Q q => h H1 e _ fun H2 e2 => ⟨i, rfl, log_small hz, by rw [← S_dec]; exact q H2 e2⟩
theorem small_nat {i : Int} {k : Nat} (h : -(k : Int) ≤ i) (h2 : i ≤ k) (hk : k < 2 ^ 100 := by decide) : i.natAbs < 2 ^ 100 := Nat.lt_of_le_of_lt (show i.natAbs ≤ k by omega) hk
/-! ### comprehensions over zip of a text and a list -/
theorem el_zipS {t : Bool} {z : List Nat} {b : Addr} {ys : List V} {n p q : Nat} {vs : List Nat} {tA : TA} (f : Nat → V) (hA : EvA tA σ H [.str (S z), .ref b]) (hs : Sq K t H b ys) (hn : n = min z.length ys.length) (hz : n ≤ 40000) (hw : ∀ x y, wipe (((wipe σ vs).set p (some x)).set q (some y)) vs = wipe σ vs)
    (he : ∀ (i c : Nat) (y : V) H1, z[i]? = some c → ys[i]? = some y → Ex H H1 → Ev te (((wipe σ vs).set p (some (.str (S [c])))).set q (some y)) H1 (f i)) : EvL (tLc (iZipS K tA) (gTup K 2 (gCons (gName p) (gCons (gName q) gNil))) tYes te vs) σ H ((List.range n).map f) := fun H0 e Q k => hA H0 e _ fun H1 e1 => ⟨t, S z, b, ys, rfl, hs.ex (e.trans e1), fun D hD => by
  have w := walk_zipS (K := K) (n := n) (t := t) (z := S z) (b := b) (ys := ys) (by rw [hn, its_sz])
  refine lc_it w (fun i H' => Cw H1 (fun _ => true) f D i H') ⟨hD, Ex.new hD, upd_same⟩ (fun i H' _ h => hs.ex ((e.trans e1).trans h.2.1)) ?_ ?_
  · rintro i x H2 H3 hi h ⟨T, c, y, rfl, hT, rfl, hc, hy⟩
    have hDT : D ≠ T := fun z => by
      have h3 := h.2.2
      rw [z, hT] at h3
      cases h3
    refine gpair upd_same ⟨hw _ _, ?_⟩
    exact cw_turn ⟨h.1, h.2.1.trans (Ex.new hT), by rw [upd_ne hDT]; exact h.2.2⟩ (by omega) et_yes fun _ => he i c y H1 (its_at hc) hy (e.trans e1)
  · intro H2 h
    have h3 := h.2.2
    rw [given_all] at h3
    exact k D H2 (fresh_back e1 h.1) (e1.trans h.2.1) h3⟩
end
end Lc
namespace Lc
open PySem PySem.Spec PyProof.Rows L2 Evl
section
variable {K : PySem.W.Frag} {σ : L2.St} {H : Hp} {te : TE} {D : Ends} {tb tz : TS}
/-! ### a loop over zip of a text and a list -/
theorem q_forZS {t : Bool} {z : List Nat} {b : Addr} {ys : List V} {n p q : Nat} {tA : TA} (hA : EvA tA σ H [.str (S z), .ref b]) (hs : Sq K t H b ys) (hn : n = min z.length ys.length) (Pv : Nat → L2.St → Hp → Prop) (h0 : ∀ H1, Ex H H1 → Pv 0 σ H1) (hx : ∀ i σ' H1 H2, Pv i σ' H1 → Ex H1 H2 → Pv i σ' H2)
    (hq : ∀ i σ' H', Pv i σ' H' → Sq K t H' b ys) (hstep : ∀ (i c : Nat) (y : V) σ' H', z[i]? = some c → ys[i]? = some y → Pv i σ' H' → tb { D with nx := Pv (i + 1), ct := Pv (i + 1), bk := tz D } ((σ'.set p (some (.str (S [c])))).set q (some y)) H')
    (hd : ∀ σ' H', Pv n σ' H' → tz D σ' H') : tSeq (tFor (iZipS K tA) (gTup K 2 (gCons (gName p) (gCons (gName q) gNil))) tb) tz D σ H :=
  hA H (Ex.refl H) _ fun H1 e1 => ⟨t, S z, b, ys, rfl, hs.ex e1, by
    have w := walk_zipS (K := K) (n := n) (t := t) (z := S z) (b := b) (ys := ys) (by rw [hn, its_sz])
    refine for_it w (D := { D with nx := tz D }) Pv (h0 H1 e1) (fun i σ' H' _ h => hq i σ' H' h) ?_ hd
    rintro i x σ' H2 H3 hi h ⟨T, c, y, rfl, hT, rfl, hc, hy⟩
    exact gpair upd_same (hstep i c y σ' _ (its_at hc) hy (hx i σ' _ _ h (Ex.new hT)))⟩
/-! ### words of a text -/
theorem el_split {l : List Nat} (h : Ev te σ H (.str (S l))) (hz : l.length ≤ 100000) : EvL (tM1 (fun x xs H Q => ∃ a b, x = .str a ∧ xs = [.str b] ∧ (b.length == 0) = false ∧ a.length + 2 ≤ sizeLine ∧ rNewStrs (Txt.split a b) H Q) te (tC (.str (S [32])))) σ H ((spw l).map fun w => V.str (S w)) := fun H1 e Q q =>
  h H1 e _ fun H2 e2 => ⟨⟨_, rfl⟩, S l, S [32], rfl, rfl, rfl, Nat.le_trans (show (S l).length + 2 ≤ 100002 by rw [S_len]; omega) (by decide), fun p hp => by
    have h3 : upd H2 p (.lst ((Txt.split (S l) (S [32])).map V.str)) p = some (.lst ((spw l).map fun w => V.str (S w))) := by
      rw [upd_same, split_spw, List.map_map]
      rfl
    exact q p _ (fresh_back e2 hp) (e2.trans (Ex.new hp)) h3⟩
end
end Lc
namespace Lc
open PySem PySem.Spec PyProof.Rows L2 Evl
/-! ### parts of a text between signs -/
def sps (d : Nat) : List Nat → List (List Nat)
  | [] => [[]]
  | c :: r => if c = d then [] :: sps d r else match sps d r with
    | [] => [[c]]
    | w :: ws => (c :: w) :: ws
theorem sps_ne {d : Nat} (l : List Nat) : sps d l ≠ [] := by
  cases l with
  | nil => simp [sps]
  | cons c r =>
    unfold sps
    split
    · simp
    · split <;> simp
theorem sps_cons {d : Nat} {c : Nat} {r w : List Nat} {ws : List (List Nat)} (hc : c ≠ d) (h : sps d r = w :: ws) : sps d (c :: r) = (c :: w) :: ws := by
  show (if c = d then [] :: sps d r else match sps d r with
    | [] => [[c]]
    | w :: ws => (c :: w) :: ws) = _
  rw [if_neg hc, h]
theorem sps_d {d : Nat} (r : List Nat) : sps d (d :: r) = [] :: sps d r := if_pos rfl
theorem spl_sps {d : Nat} : ∀ (l acc : List Nat) (w : List Nat) (ws : List (List Nat)), sps d l = w :: ws → TL.spl [d] 0 acc l = (acc ++ w) :: ws
  | [], acc, w, ws, h => by
    cases h
    rw [TL.spl_nil, List.append_nil]
  | c :: r, acc, w, ws, h => by
    obtain ⟨v, vs, hv⟩ : ∃ v vs, sps d r = v :: vs := by
      cases hr : sps d r with
      | nil => exact absurd hr (sps_ne r)
      | cons v vs => exact ⟨v, vs, rfl⟩
    by_cases hc : c = d
    · obtain rfl : d = c := hc.symm
      rw [sps_d] at h
      obtain ⟨h1, h2⟩ := List.cons.inj h
      rw [TL.spl_hit (by simp [TL.pre]), ← h1, ← h2, List.append_nil]
      show acc :: TL.spl [d] 0 [] r = _
      rw [spl_sps r [] v vs hv, hv]
      rfl
    · rw [sps_cons hc hv] at h
      obtain ⟨h1, h2⟩ := List.cons.inj h
      rw [TL.spl_miss (by simp [TL.pre, hc, Ne.symm hc]), spl_sps r (acc ++ [c]) v vs hv, List.append_assoc, ← h1, ← h2]
      rfl
theorem split_sps {d : Nat} (hd : d < 256) (l : List Nat) : Txt.split (S l) (S [d]) = (sps d l).map S := by
  have h := SX.split_S (a := l) (b := [d]) (by simp) (by simpa using hd)
  obtain ⟨v, vs, hv⟩ : ∃ v vs, sps d l = v :: vs := by
    cases hr : sps d l with
    | nil => exact absurd hr (sps_ne l)
    | cons v vs => exact ⟨v, vs, rfl⟩
  rw [spl_sps l [] v vs hv] at h
  rw [hv]
  exact h
def jws (d : Nat) : List (List Nat) → List Nat
  | [] => []
  | [w] => w
  | w :: v :: r => w ++ d :: jws d (v :: r)
theorem jws_cons {d : Nat} (w : List Nat) {ws : List (List Nat)} (h : ws ≠ []) : jws d (w :: ws) = w ++ d :: jws d ws := by
  cases ws with
  | nil => exact absurd rfl h
  | cons v r => rfl
theorem jws_sps {d : Nat} : ∀ l : List Nat, jws d (sps d l) = l
  | [] => rfl
  | c :: r => by
    have ih := jws_sps (d := d) r
    by_cases hc : c = d
    · obtain rfl : d = c := hc.symm
      rw [sps_d, jws_cons [] (sps_ne r), ih]
      rfl
    · obtain ⟨v, vs, hv⟩ : ∃ v vs, sps d r = v :: vs := by
        cases hr : sps d r with
        | nil => exact absurd hr (sps_ne r)
        | cons v vs => exact ⟨v, vs, rfl⟩
      rw [sps_cons hc hv]
      rw [hv] at ih
      cases vs with
      | nil =>
        show c :: v = c :: r
        rw [← ih]
        rfl
      | cons x y =>
        show c :: (v ++ d :: jws d (x :: y)) = c :: r
        rw [← ih]
        rfl
theorem sps_one {d : Nat} : ∀ w : List Nat, d ∉ w → sps d w = [w]
  | [], _ => rfl
  | c :: r, h => by
    rw [sps_cons (fun z => h (by rw [← z]; exact List.mem_cons_self)) (sps_one r fun z => h (List.mem_cons_of_mem _ z))]
theorem sps_app {d : Nat} : ∀ (w l : List Nat), d ∉ w → sps d (w ++ d :: l) = w :: sps d l
  | [], l, _ => sps_d l
  | c :: r, l, h => by
    have e := sps_app r l fun z => h (List.mem_cons_of_mem _ z)
    exact sps_cons (fun z => h (by rw [← z]; exact List.mem_cons_self)) e
theorem sps_jws {d : Nat} : ∀ ws : List (List Nat), ws ≠ [] → (∀ w ∈ ws, d ∉ w) → sps d (jws d ws) = ws
  | [], h, _ => absurd rfl h
  | [w], _, h => sps_one w (h w (List.mem_cons_self ..))
  | w :: v :: r, _, h => by
    rw [jws_cons w (by simp), sps_app w _ (h w (List.mem_cons_self ..)), sps_jws (v :: r) (by simp) fun x hx => h x (List.mem_cons_of_mem _ hx)]
theorem sps_len {d : Nat} : ∀ l : List Nat, (sps d l).length ≤ l.length + 1
  | [] => Nat.le_refl _
  | c :: r => by
    have ih := sps_len (d := d) r
    by_cases hc : c = d
    · obtain rfl : d = c := hc.symm
      rw [sps_d]
      simp
      omega
    · obtain ⟨v, vs, hv⟩ : ∃ v vs, sps d r = v :: vs := by
        cases hr : sps d r with
        | nil => exact absurd hr (sps_ne r)
        | cons v vs => exact ⟨v, vs, rfl⟩
      rw [sps_cons hc hv]
      rw [hv] at ih
      simp at ih ⊢
      omega
theorem sps_mem {d : Nat} : ∀ (l w : List Nat), w ∈ sps d l → (∀ c ∈ w, c ∈ l) ∧ w.length ≤ l.length
  | [], w, h => by
    rw [List.mem_singleton.mp h]
    exact ⟨fun c hc => hc, Nat.le_refl _⟩
  | c :: r, w, h => by
    by_cases hc : c = d
    · obtain rfl : d = c := hc.symm
      rw [sps_d] at h
      rcases List.mem_cons.mp h with rfl | h
      · exact ⟨fun c hc => (by cases hc), Nat.zero_le _⟩
      · obtain ⟨h1, h2⟩ := sps_mem r w h
        exact ⟨fun c hc => List.mem_cons_of_mem _ (h1 c hc), by rw [List.length_cons]; omega⟩
    · obtain ⟨v, vs, hv⟩ : ∃ v vs, sps d r = v :: vs := by
        cases hr : sps d r with
        | nil => exact absurd hr (sps_ne r)
        | cons v vs => exact ⟨v, vs, rfl⟩
      rw [sps_cons hc hv] at h
      rcases List.mem_cons.mp h with rfl | h
      · obtain ⟨h1, h2⟩ := sps_mem r v (by rw [hv]; exact List.mem_cons_self ..)
        exact ⟨fun x hx => by
          rcases List.mem_cons.mp hx with rfl | hx
          · exact List.mem_cons_self ..
          · exact List.mem_cons_of_mem _ (h1 x hx), by rw [List.length_cons, List.length_cons]; omega⟩
      · obtain ⟨h1, h2⟩ := sps_mem r w (by rw [hv]; exact List.mem_cons_of_mem _ h)
        exact ⟨fun x hx => List.mem_cons_of_mem _ (h1 x hx), by rw [List.length_cons]; omega⟩
section
variable {K : PySem.W.Frag} {σ : L2.St} {H : Hp} {te : TE} {D : Ends} {tb tz : TS}
theorem el_splitD {d : Nat} (hd : d < 256) {l : List Nat} (h : Ev te σ H (.str (S l))) (hz : l.length ≤ 100000) : EvL (tM1 (fun x xs H Q => ∃ a b, x = .str a ∧ xs = [.str b] ∧ (b.length == 0) = false ∧ a.length + 2 ≤ sizeLine ∧ rNewStrs (Txt.split a b) H Q) te (tC (.str (S [d])))) σ H ((sps d l).map fun w => V.str (S w)) := fun H1 e Q q =>
  h H1 e _ fun H2 e2 => ⟨⟨_, rfl⟩, S l, S [d], rfl, rfl, rfl, Nat.le_trans (show (S l).length + 2 ≤ 100002 by rw [S_len]; omega) (by decide), fun p hp => by
    have h3 : upd H2 p (.lst ((Txt.split (S l) (S [d])).map V.str)) p = some (.lst ((sps d l).map fun w => V.str (S w))) := by
      rw [upd_same, split_sps hd, List.map_map]
      rfl
    exact q p _ (fresh_back e2 hp) (e2.trans (Ex.new hp)) h3⟩
end
end Lc
namespace Lc
open PySem PySem.Spec PyProof.Rows L2 Evl
theorem sps_snoc_d (d : Nat) : ∀ l : List Nat, sps d (l ++ [d]) = sps d l ++ [[]]
  | [] => by simp [sps]
  | c :: r => by
    have ih := sps_snoc_d d r
    by_cases hc : c = d
    · obtain rfl : d = c := hc.symm
      rw [List.cons_append, sps_d, sps_d, ih]
      rfl
    · obtain ⟨v, vs, hv⟩ : ∃ v vs, sps d r = v :: vs := by
        cases hr : sps d r with
        | nil => exact absurd hr (sps_ne r)
        | cons v vs => exact ⟨v, vs, rfl⟩
      rw [hv] at ih
      rw [List.cons_append, sps_cons hc ih, sps_cons hc hv]
      rfl
theorem sps_snoc {d x : Nat} (hx : x ≠ d) : ∀ (l : List Nat) (ws : List (List Nat)) (w : List Nat), sps d l = ws ++ [w] → sps d (l ++ [x]) = ws ++ [w ++ [x]]
  | [], ws, w, h => by
    cases ws with
    | nil =>
      obtain rfl : [] = w := by simpa [sps] using h
      simp [sps, hx]
    | cons a r => simp [sps] at h
  | c :: r, ws, w, h => by
    obtain ⟨v, vs, hv⟩ : ∃ v vs, sps d r = v :: vs := by
      cases hr : sps d r with
      | nil => exact absurd hr (sps_ne r)
      | cons v vs => exact ⟨v, vs, rfl⟩
    by_cases hc : c = d
    · obtain rfl : d = c := hc.symm
      rw [sps_d] at h
      rw [List.cons_append, sps_d]
      cases ws with
      | nil =>
        rw [List.nil_append] at h
        have := (List.cons.inj h).2
        exact absurd this (sps_ne r)
      | cons a ws =>
        obtain ⟨h1, h2⟩ := List.cons.inj h
        rw [sps_snoc hx r ws w h2, ← h1]
        rfl
    · rw [sps_cons hc hv] at h
      cases ws with
      | nil =>
        obtain ⟨h1, h2⟩ := List.cons.inj h
        have ih := sps_snoc hx r [] v (by rw [hv, h2]; rfl)
        rw [List.cons_append, sps_cons hc ih, ← h1]
        rfl
      | cons a ws =>
        obtain ⟨h1, h2⟩ := List.cons.inj h
        have ih := sps_snoc hx r (v :: ws) w (by rw [hv, h2]; rfl)
        rw [List.cons_append, sps_cons hc ih, ← h1]
        rfl
theorem jws_nil (d : Nat) : sps d [] = [[]] := rfl
theorem joinL_jws (d : Nat) : ∀ ws : List (List Nat), TL.joinL [d] ws = jws d ws
  | [] => rfl
  | [_] => rfl
  | w :: v :: r => by
    rw [jws_cons w (by simp), ← joinL_jws d (v :: r)]
    rfl
theorem join_jws (d : Nat) (ws : List (List Nat)) : Txt.join (S [d]) (ws.map S) = S (jws d ws) := by
  have h := SX.join_S [d] ws
  rw [joinL_jws] at h
  exact h
end Lc
namespace Lc
open PySem PySem.Spec PyProof.Rows L2 Evl
section
variable {M : Model} {A : Around} {E : Value → Shared → Prop} {s : Shared} {K : PySem.W.Frag} {x C f : Addr} {ox : Obj} {od : Option Obj} {v : Value}
theorem ksp_contains {Q : Bool → Shared → Prop} (X : K.In s.heap) (I : PySem.W.InstAt s.heap x ox C od) (hs : PySem.W.findIn K (.ref C) "__contains__" = some (some (.ref f))) (hf : PySem.W.isFn K (.ref f) = true)
    (h : wpAny M A (call (.ref f) [.ref x, v]) (fun u s' => wpAny M A (truthy u) Q E s') E s) : wpAny M A (contains (.ref x) v) Q E s := by
  unfold contains
  refine wpAny_holding ?_
  show wpAny M A (specialOf (.ref x) "__contains__" >>= _) Q E s
  refine wpAny_bind (wpAny_bind (I.type.here ((PySem.W.looks_findIn X hs).here ?_)))
  rw [if_neg (show ¬ ((some (Value.ref f) == some Value.none) = true) from fun z => by cases z)]
  unfold callSpecialUnlessNone?
  refine wpAny_bind (wpAny_bind (wpAny_bind (I.type.here ((PySem.W.looks_findIn X hs).here ?_))))
  refine wpAny_holding (wpAny_bind ((PySem.W.bind_fn X _ (beq_iff_eq.mp hf)).here ?_))
  dsimp only
  rw [if_neg (show ¬ ((Value.ref f == Value.none) = true) from fun z => by cases z)]
  exact wpAny_bind (wpAny_mono h (fun _ _ z => wpAny_pure z) fun _ _ z => z)
end
section
variable {X : Cx} {CX : CXT} {k : Nat} {f C : Addr} {fd : FuncData} {ps : List Str} {sp : Sp} {E : XK}
/-- x in o, x not in o, by an own __contains__ -/
def rInOwn (C : Addr) (sp : Sp) (E : XK) (neg : Bool) : R2 := fun x y H Q => ∃ b dy gs, y = .ref b ∧ H b = some (.ins C dy gs) ∧ sp [.ref b, x] H (fun v H' => ∃ c, v = .bl c ∧ Q (.bl (if neg then !c else c)) H') E
theorem op_inOwn (F : FnOk X.prog X.w X.K X.mg X.base CX k f fd ps sp) (hr : Room k X.A) (hs : PySem.W.findIn X.K (.ref C) "__contains__" = some (some (.ref f))) (hf : PySem.W.isFn X.K (.ref f) = true) (hb : Binds X.K fd ps []) (hx : Passes CX X E) :
    OpR X (compareOp .In) (rInOwn C sp E false) := by
  intro pins s σ H x y v u Q I rx ry h
  obtain ⟨b, dy, gs, rfl, hb', hsp⟩ := h
  obtain rfl : u = Value.ref b := ry
  obtain ⟨mB, J, _⟩ := ins_get I.hok hb'
  obtain ⟨od, J, _⟩ := J.look
  refine wpAny_bind (ksp_contains I.kIn J hs hf (wpAny_mono (run_at (A := X.A) (vs := [.ref b, x]) rfl F hr hb hx I (.cons (show RelV (.ref b) (Value.ref b) from rfl) (.cons rx .nil)) hsp) (fun w s' hw => ?_) fun _ _ x => x))
  obtain ⟨r, H', I', rv, c, rfl, q⟩ := hw
  cases rv
  exact wpAny_pure (wpAny_pure ⟨.bl c, H', I', rfl, q⟩)
end
end Lc
namespace K49
open PySem PySem.Spec PyProof.Rows L2 Lc Evl
section
variable {P : Program} {w : World} {K : PySem.W.Frag} {mg : Str → Option Value} {base : Heap}
theorem el_mapR {σ : L2.St} {H : Hp} {ta : TA} {te : TE} {j n : Nat} {vs : List Nat} (f : Nat → V) (h : EvA ta σ H [.int (n : Int)]) (hn : n ≤ 10000) (hw : ∀ x, wipe ((wipe σ vs).set j (some x)) vs = wipe σ vs) (he : ∀ i H1, i < n → Ex H H1 → Ev te ((wipe σ vs).set j (some (.int ((i : Nat) : Int)))) H1 (f i)) : EvL (tLc (iRng1 ta) (gName j) tYes te vs) σ H ((List.range n).map f) := by
  have h3 := el_lcR1 (σ := σ) (H := H) (t := tYes) (te := te) (j := j) (vs := vs) (fun _ => true) f h (by omega) hw (fun i H1 _ _ => et_yes) (fun i H1 e hi _ => he i H1 (by omega) e)
  rw [given_all, Int.toNat_natCast] at h3
  exact h3
theorem call_fst {σ : L2.St} {H : Hp} {sp : Sp} {dvs : List V} {E : XK} {ta : TA} {Q : VK} (h : ta σ H fun vs H1 => sp (vs ++ dvs) H1 Q E) : tCall sp dvs E ta σ H Q := h
/-! ### the state behind a row -/
def sp_Machine_state (K : PySem.W.Frag) : Sp := fun vs H Q E => ∃ (o : Addr) (l : List Nat) (G : List (List Int)) (F : List Int) (r : List Nat), vs = [.ref o, .str (S r)] ∧ Mc K H o l G F ∧ r.length ≤ 1000 ∧ (∀ c ∈ r, c < 128) ∧
  ((∀ c ∈ r, c ∈ l) → RetV (.int (rnn l G 0 r)) H Q) ∧ ((¬ ∀ c ∈ r, c ∈ l) → Bad K "InvalidRow" "row" H E (.str (S r)))
theorem ok_Machine_state (T : Tx K mg w) : OkD P w K mg base 4 d_Machine_state ps_Machine_state (sp_Machine_state K) := by
  refine (h_Machine_state T).ok sc_Machine_state (fun vs H Q E h => ?_) (fun cdv A outer s H vs Q E hr h => ⟨_,
      (pss_one (ps_ret (pe_callSD (ok_state_behind (P := P) (w := w) (base := base) T) (hr.mono (by decide)) (by rfl) (m_state_behind T) (k_state_behind T) (b_state_behind T) .nil (fun σ => L2N.passAt (L2N.takes_of rfl rfl rfl rfl) σ) (pa_cons (pe_fld (pv 0) rfl) (pa_cons (pe_fld (pv 0) rfl) (pa_cons (pv 1) pa_nil)))))), ?_⟩)
  · obtain ⟨o, l, G, F, r, rfl, _⟩ := h
    rfl
  · obtain ⟨o, l, G, F, r, rfl, hm, hr, hlow, q1, q2⟩ := h
    obtain ⟨hsg, har, hin, dx, t, f, rs, h4, h5, h6, h7⟩ := id hm
    refine ret_fst ?_
    refine cons_fst (ev_sgn (te := tVar 0) T (ev_var rfl) hm H (Ex.refl H) _ fun H1 e1 => ?_)
    refine cons_fst (ev_fldM (te := tVar 0) (f := "arrows") T (ev_var rfl) (e1 _ _ h4) (n_Machine_arrows T) rfl H1 (Ex.refl H1) _ fun H2 e2 => ?_)
    have e12 := e1.trans e2
    exact ⟨_, rfl, l, r, t, rs, G, rfl, hsg, har, e12 _ _ h5, h6.ex e12, hr, hlow, fun h H3 e3 => q1 h H3 (e12.trans e3), fun h => (q2 h).ex e12⟩
theorem inV_F (a : Int) : ∀ L : List Int, inV (.int a) (L.map V.int) = decide (a ∈ L)
  | [] => by simp [inV]
  | x :: r => by
    have ih := inV_F a r
    unfold inV at ih ⊢
    rw [List.map_cons, List.any_cons, ih]
    have e : eqV (V.int x) (V.int a) = (x == a) := rfl
    rw [e, Bool.eq_iff_iff, Bool.or_eq_true, decide_eq_true_eq, decide_eq_true_eq, beq_iff_eq, List.mem_cons]
    exact ⟨fun h => h.imp Eq.symm id, fun h => h.imp Eq.symm id⟩
theorem flat_F : ∀ L : List Int, (L.map V.int).all flatV = true
  | [] => rfl
  | x :: r => by
    rw [List.map_cons, List.all_cons, flat_F r]
    rfl
def acc (l : List Nat) (G : List (List Int)) (F : List Int) (r : List Nat) : Bool := decide (rnn l G 0 r ∈ F)
def sp_Machine_contains (K : PySem.W.Frag) : Sp := fun vs H Q E => ∃ (o : Addr) (l : List Nat) (G : List (List Int)) (F : List Int) (r : List Nat), vs = [.ref o, .str (S r)] ∧ Mc K H o l G F ∧ r.length ≤ 1000 ∧ (∀ c ∈ r, c < 128) ∧
  ((∀ c ∈ r, c ∈ l) → RetV (.bl (acc l G F r)) H Q) ∧ ((¬ ∀ c ∈ r, c ∈ l) → Bad K "InvalidRow" "row" H E (.str (S r)))
theorem ok_Machine_contains (T : Tx K mg w) : OkD P w K mg base 5 d_Machine_contains ps_Machine_contains (sp_Machine_contains K) := by
  refine (h_Machine_contains T).ok sc_Machine_contains (fun vs H Q E h => ?_) (fun cdv A outer s H vs Q E hr h => ⟨_,
      (pss_one (ps_ret (pe_cmpR (show OpR _ _ (rIn K false) from op_in_seq) (pe_meth (pv 0) (c_Machine T) (me_Machine_state T) (ok_Machine_state (P := P) (w := w) (base := base) T) (hr.mono (by decide)) (b_Machine_state T) .nil (passX (L2N.takes_of rfl rfl rfl rfl)) (pa_cons (pv 1) pa_nil)) (pe_fld (pv 0) rfl) (by rfl)))), ?_⟩)
  · obtain ⟨o, l, G, F, r, rfl, _⟩ := h
    rfl
  · obtain ⟨o, l, G, F, r, rfl, hm, hr, hlow, q1, q2⟩ := h
    obtain ⟨hsg, har, hin, dx, t, f, rs, h4, h5, h6, h7⟩ := id hm
    refine ret_fst (op_fst ?_)
    refine ⟨_, rfl, o, dx, _, rfl, h4, by rfl, _, rfl, o, l, G, F, r, rfl, hm, hr, hlow, fun h H1 e1 => ?_, fun h => q2 h⟩
    refine ev_fldM (te := tVar 0) (f := "finals") T (ev_var rfl) (e1 _ _ h4) (n_Machine_finals T) rfl H1 (Ex.refl H1) _ fun H2 e2 => ?_
    refine (rv_inT (K := K) (neg := false) (st_of ((e1.trans e2) _ _ h7)) rfl (flat_F F)) H2 (Ex.refl H2) _ fun H3 e3 => ?_
    rw [if_neg (by decide), inV_F]
    exact q1 h H3 ((e1.trans e2).trans e3)
/-! ### walls put into rows -/
def wp (l : List Nat) (i : Nat) : List Nat := l.take i ++ [35] ++ l.drop i
theorem wp_len (l : List Nat) (i : Nat) : (wp l i).length = l.length + 1 := by
  unfold wp
  rw [List.length_append, List.length_append, List.length_take, List.length_drop]
  simp
  omega
theorem wp_mem {l : List Nat} {i c : Nat} (h : c ∈ wp l i) : c = 35 ∨ c ∈ l := by
  unfold wp at h
  rcases List.mem_append.mp h with h | h
  · rcases List.mem_append.mp h with h | h
    · exact .inr (List.mem_of_mem_take h)
    · exact .inl (List.mem_singleton.mp h)
  · exact .inr (List.mem_of_mem_drop h)
theorem ev_wp {σ : L2.St} {H : Hp} {tl ti : TE} {l : List Nat} {i : Nat} (h1 : ∀ H1, Ex H H1 → Ev tl σ H1 (.str (S l))) (h2 : ∀ H1, Ex H H1 → Ev ti σ H1 (.int (i : Int))) (hl : l.length ≤ 1000) (hi : i ≤ l.length) : Ev (tOp (fun x y H Q => ∃ i j, x = .str i ∧ y = .str j ∧ i.length + j.length ≤ sizeLine ∧ Q (.str (i ++ j)) H) (tOp (fun x y H Q => ∃ i j, x = .str i ∧ y = .str j ∧ i.length + j.length ≤ sizeLine ∧ Q (.str (i ++ j)) H) (tSl rSlS tl tNoPart (tPart ti)) (tC (.str (S [35])))) (tSl rSlS tl (tPart ti) tNoPart)) σ H (.str (S (wp l i))) :=
  ev_op (ev_op (ev_to (k := i) (h1 H (Ex.refl H)) (h2 H (Ex.refl H)) (by omega)) ev_c (rv_catSS (a := l.take i) (b := [35]) (by rw [List.length_take]; simp; omega))) (ev_from (k := i) (h1 H (Ex.refl H)) (h2 H (Ex.refl H)) (by omega)) (rv_catSS (by rw [List.length_append, List.length_take, List.length_drop]; simp; omega))
theorem k_wall : Str.ofString "#" = S [35] := by decide +kernel
def sp_wall_put : Sp := fun vs H Q _ => ∃ (l : List Nat) (i : Nat), vs = [.str (S l), .int (i : Int)] ∧ l.length ≤ 1000 ∧ i ≤ l.length ∧ RetV (.str (S (wp l i))) H Q
theorem ok_wall_put (T : Tx K mg w) : OkD P w K mg base 1 d_wall_put ps_wall_put sp_wall_put := by
  refine (h_wall_put T).ok sc_wall_put (fun vs H Q E h => ?_) (fun cdv A outer s H vs Q E hr h => ⟨_,
      (pss_one (ps_ret (pe_op op_add_str (pe_op op_add_str (pe_slice sl_str (pv 0) po_none (po_some (pv 1))) pe_str) (pe_slice sl_str (pv 0) (po_some (pv 1)) po_none)))), ?_⟩)
  · obtain ⟨l, i, rfl, _⟩ := h
    rfl
  · obtain ⟨l, i, rfl, hl, hi, q⟩ := h
    simp only [k_wall]
    exact s_ret (ev_wp (fun _ _ => by exact ev_var rfl) (fun _ _ => by exact ev_var rfl) hl hi) fun H1 e1 => q H1 e1
def Good (l : List Nat) : Prop := ∀ c ∈ l, c ∈ SG
theorem Good.low {l : List Nat} (h : Good l) : ∀ c ∈ l, c < 128 := fun c hc => sg_low c (h c hc)
def Row (l : List Nat) : Prop := l.length ≤ 1000 ∧ ∀ c ∈ l, c < 128
def sp_pieces (K : PySem.W.Frag) : Sp := fun vs H Q E => ∃ l : List Nat, vs = [.str (S l)] ∧ Row l ∧ (Good l → ∀ p H1, H p = none → Ex H H1 → H1 p = some (.lst ((sps 35 l).map fun w => V.str (S w))) → Q (.ref p) H1) ∧ (¬ Good l → Bad K "InvalidRow" "row" H E (.str (S l)))
theorem ok_pieces (T : Tx K mg w) : OkD P w K mg base 4 d_pieces ps_pieces (sp_pieces K) := by
  obtain ⟨ds, vd, bd⟩ := b_check_row T
  refine (h_pieces T).ok sc_pieces (fun vs H Q E h => ?_) (fun cdv A outer s H vs Q E hr h => ⟨_,
      (pss_cons (ps_expr (pe_callSD (ok_check_row (P := P) (w := w) (base := base) T) (hr.mono (by decide)) (by rfl) (m_check_row T) (k_check_row T) bd vd (fun σ => L2N.passAt (L2N.takes_of rfl rfl rfl rfl) σ) (pa_cons (pv 0) pa_nil)))
      (pss_one (ps_ret (pe_split (pv 0) pe_str)))), ?_⟩)
  · obtain ⟨l, rfl, _⟩ := h
    rfl
  · obtain ⟨l, rfl, hr1, q1, q2⟩ := h
    simp only [k_wall, k_SIGNS]
    refine ⟨_, rfl, l, SG, rfl, hr1.1, by decide, hr1.2, fun hg H1 e1 => ?_, q2⟩
    dsimp only
    refine s_retL (el_splitD (by decide) (by exact ev_var rfl) (by have := hr1.1; omega)) fun p H2 hp e2 h2 => q1 hg p H2 (fresh_back e1 hp) (e1.trans e2) h2
def okG (l : List Nat) (g : Int) : Bool := decide (0 ≤ g) && decide (g ≤ (l.length : Int))
def sp_walled (K : PySem.W.Frag) : Sp := fun vs H Q E => ∃ (l : List Nat) (g : Int), vs = [.str (S l), .int g] ∧ Row l ∧ g.natAbs.log2 < 1900 ∧ (Good l → okG l g = true → RetV (.str (S (wp l g.toNat))) H Q) ∧ (Good l → okG l g = false → Bad K "InvalidPlace" "place" H E (.int g)) ∧ (¬ Good l → Bad K "InvalidRow" "row" H E (.str (S l)))
theorem ok_walled (T : Tx K mg w) : OkD P w K mg base 4 d_walled ps_walled (sp_walled K) := by
  obtain ⟨ds, vd, bd⟩ := b_check_row T
  refine (h_walled T).ok sc_walled (fun vs H Q E h => ?_) (fun cdv A outer s H vs Q E hr h => ⟨_,
      (pss_cons (ps_expr (pe_callSD (ok_check_row (P := P) (w := w) (base := base) T) (hr.mono (by decide)) (by rfl) (m_check_row T) (k_check_row T) bd vd (fun σ => L2N.passAt (L2N.takes_of rfl rfl rfl rfl) σ) (pa_cons (pv 0) pa_nil)))
      (pss_cons (ps_if (pt_not (pt_chain op_le op_le pe_int (pv 1) (pe_callB call_len_str (by rfl) (m_len T) (by decide +kernel) (pa_cons (pv 0) pa_nil)))) (pss_one (L2N.ps_raise rfl (L2N.takes_of rfl rfl rfl rfl) (pmkN_oex (x_InvalidPlace T).oex (x_InvalidPlace T).iC (x_InvalidPlace T).tI (ok_InvalidPlace_init (P := P) (w := w) (base := base) T) (hr.mono (by decide)) (b_InvalidPlace_init T) .nil passN (by rfl) (m_InvalidPlace T) (pa_cons (pv 1) pa_nil)))) pss_nil)
      (pss_one (ps_ret (pe_call (ok_wall_put (P := P) (w := w) (base := base) T) (hr.mono (by decide)) (by rfl) (m_wall_put T) (k_wall_put T) (b_wall_put T) .nil passN (pa_cons (pv 0) (pa_cons (pv 1) pa_nil))))))), ?_⟩)
  · obtain ⟨l, g, rfl, _⟩ := h
    rfl
  · obtain ⟨l, g, rfl, hr1, hg2, q1, q2, q3⟩ := h
    simp only [k_SIGNS]
    refine ⟨_, rfl, l, SG, rfl, hr1.1, by decide, hr1.2, fun hg H1 e1 => ?_, q3⟩
    dsimp only
    have hrl := hr1.1
    refine q_when (b := !okG l g) (et_not (et_test (ev_chain ev_c (by exact ev_var rfl) (ev_cb (ea_cons (by exact ev_var rfl) ea_nil) (rc_lenStr (by omega))) rv_I0 fun _ => rv_I0))) (fun hb H2 e2 => ?_) fun hb H2 e2 => ?_
    · exact ⟨_, rfl, by simp, fun a ha => ⟨a, _, rfl, ⟨g, rfl, hg2⟩, mk_go ((q2 hg (not_t hb)).ex (e1.trans e2)) ha⟩⟩
    · have hok := not_f hb
      obtain ⟨h0, h1⟩ := Bool.and_eq_true_iff.mp hok
      have h0 := of_decide_eq_true h0
      have h1 := of_decide_eq_true h1
      have q1 := q1 hg hok
      obtain ⟨k, rfl⟩ : ∃ k : Nat, g = (k : Int) := ⟨g.toNat, by omega⟩
      exact s_ret (ev_call (ea_cons (by exact ev_var rfl) (ea_cons (by exact ev_var rfl) ea_nil)) fun H3 e3 Q3 k3 E3 => ⟨l, k, rfl, hrl, by omega, k3⟩) fun H3 e3 => q1 H3 ((e1.trans e2).trans e3)
theorem b2_check_row (T : Tx K mg w) : Binds K (fdOf K (d_check_row.at_ K)) ps_check_row [] := by
  obtain ⟨ds, hv, hb⟩ := FunD.binds1 (ps := ps_check_row) (h_check_row T) 2 1 (by simp [He5.DefA.dvs, d_check_row]) rfl fun T kV doc pm an cdv ct us its hu hi => match us, its, hu, hi with
    | [_, _], [_], _, _ => ⟨_, rfl, rfl⟩
  cases hv
  exact hb
def effs (l : List Nat) (G : List (List Int)) (F : List Int) (r : List Nat) : List Bool := (List.range (r.length + 1)).map fun k => acc l G F (wp r k)
def sp_wall_effects (K : PySem.W.Frag) : Sp := fun vs H Q E => ∃ (o : Addr) (l : List Nat) (G : List (List Int)) (F : List Int) (r : List Nat), vs = [.ref o, .str (S r)] ∧ Mc K H o l G F ∧ r.length ≤ 900 ∧ (∀ c ∈ r, c < 128) ∧
  (35 ∈ l → (∀ c ∈ r, c ∈ l) → ∀ p H1, H p = none → Ex H H1 → H1 p = some (.lst ((effs l G F r).map V.bl)) → Q (.ref p) H1) ∧ (35 ∉ l → Bad K "InvalidMachine" "part" H E (.str "signs")) ∧ (35 ∈ l → (¬ ∀ c ∈ r, c ∈ l) → Bad K "InvalidRow" "row" H E (.str (S r)))
theorem ok_wall_effects (T : Tx K mg w) : OkD P w K mg base 6 d_wall_effects ps_wall_effects (sp_wall_effects K) := by
  obtain ⟨ds, vd, bd⟩ := b_check_row T
  refine (h_wall_effects T).ok sc_wall_effects (fun vs H Q E h => ?_) (fun cdv A outer s H vs Q E hr h => ⟨_,
      (pss_cons (ps_if (pt_cmpR op_notIn_sign pe_str (pe_fld (pv 0) rfl) (by rfl)) (pss_one (L2N.ps_raise rfl (L2N.takes_of rfl rfl rfl rfl) (pmkN_oex (x_InvalidMachine T).oex (x_InvalidMachine T).iC (x_InvalidMachine T).tI (ok_InvalidMachine_init (P := P) (w := w) (base := base) T) (hr.mono (by decide)) (b_InvalidMachine_init T) .nil passN (by rfl) (m_InvalidMachine T) (pa_cons pe_str pa_nil)))) pss_nil)
      (pss_cons (ps_expr (pe_callSD (ok_check_row (P := P) (w := w) (base := base) T) (hr.mono (by decide)) (by rfl) (m_check_row T) (k_check_row T) (b2_check_row T) .nil (fun σ => L2N.passAt (L2N.takes_of rfl rfl rfl rfl) σ) (pa_cons (pv 1) (pa_cons (pe_fld (pv 0) rfl) pa_nil))))
      (pss_one (ps_ret (pe_lc (own := [("gap", 2)]) (g := gName 2) rfl sc_wall_effects.nd (pi_range1 rfl (m_range T) (pa_cons (pe_op op_add (pe_callB call_len_str (by rfl) (m_len T) (by decide +kernel) (pa_cons (pv 1) pa_nil)) pe_int) pa_nil)) (blkOk_by (own := [("gap", 2)]) (N := ns_wall_effects) (sc := (defScope st_wall_effects)) (by decide +kernel)) (fun _ _ _ _ _ => pg_name (i := 2) sc_wall_effects.nd rfl (Or.inl rfl)) (fun _ _ _ _ _ => pts_nil) (fun _ _ _ _ _ => (pe_cmpR (op_inOwn (ok_Machine_contains (P := P) (w := w) (base := base) T) (hr.mono (by decide)) (me_Machine_contains T).at_ (me_Machine_contains T).fn (b_Machine_contains T) passN) (pe_call (ok_wall_put (P := P) (w := w) (base := base) T) (hr.mono (by decide)) (by rfl) (m_wall_put T) (k_wall_put T) (b_wall_put T) .nil passN (pa_cons (pv 1) (pa_cons (pv 2) pa_nil))) (pv 0) (by rfl)))))))), ?_⟩)
  · obtain ⟨o, l, G, F, r, rfl, _⟩ := h
    rfl
  · obtain ⟨o, l, G, F, r, rfl, hm, hr, hlow, q1, q2, q3⟩ := h
    obtain ⟨hsg, har, hin, dx, t, f, rs, h4, h5, h6, h7⟩ := id hm
    simp only [k_wall]
    have ll := sg_len hsg
    refine q_when (b := !decide (35 ∈ l)) (et_test (ev_op ev_c (ev_sgn (te := tVar 0) T (ev_var rfl) hm) rv_notInSS)) (fun hb H1 e1 => ?_) fun hb H1 e1 => ?_
    · exact ⟨by simp, fun a ha => ⟨a, _, rfl, ks_signs, mk_go ((q2 (of_decide_eq_false (not_t hb))).ex e1) ha⟩⟩
    have hwl : 35 ∈ l := of_decide_eq_true (not_f hb)
    refine ⟨_, rfl, ?_⟩
    refine cons_fst (ev_sgn (te := tVar 0) T (ev_var rfl) (hm.ex e1) H1 (Ex.refl H1) _ fun H2 e2 => ?_)
    have e12 := e1.trans e2
    refine ⟨r, l, rfl, by omega, by omega, hlow, fun hg H3 e3 => ?_, fun hg => (q3 hwl hg).ex e12⟩
    have e13 := e12.trans e3
    dsimp only
    refine s_retL (xs := (effs l G F r).map V.bl) ?_ fun p H4 hp e4 h4 => q1 hwl hg p H4 (fresh_back e13 hp) (e13.trans e4) h4
    unfold effs
    rw [List.map_map]
    refine el_mapR (n := r.length + 1) (V.bl ∘ fun k => acc l G F (wp r k)) (ea_cons (ev_is (ev_op (ev_cb (ea_cons (by exact ev_var rfl) ea_nil) (rc_lenStr (by omega))) ev_c rv_I0) (by rw [Int.natCast_add]; rfl)) ea_nil) (by omega) (fun x => rfl) fun k H4 hk e4 => ?_
    have hmem : ∀ c ∈ wp r k, c ∈ l := fun c hc => by
      rcases wp_mem hc with rfl | h
      · exact hwl
      · exact hg c h
    exact fun H5 e5 Q5 k5 => call_fst (cons_fst ((show Ev (tVar 1) _ H5 (.str (S r)) from by exact ev_var rfl) H5 (Ex.refl H5) _ fun H6 e6 => cons_fst ((show Ev (tVar 2) _ H6 (.int (k : Int)) from by exact ev_var rfl) H6 (Ex.refl H6) _ fun H7 e7 => ⟨r, k, rfl, by omega, by omega, fun H8 e8 => (show Ev (tVar 0) _ H8 (.ref o) from by exact ev_var rfl) H8 (Ex.refl H8) _ fun H9 e9 => ⟨o, dx, _, rfl, ((((((e13.trans e4).trans e5).trans e6).trans e7).trans e8).trans e9) _ _ h4, o, l, G, F, wp r k, rfl, hm.ex ((((((e13.trans e4).trans e5).trans e6).trans e7).trans e8).trans e9), by rw [wp_len]; omega, fun c hc => isSg_low hsg c (hmem c hc), fun _ H10 e10 => ⟨_, rfl, k5 H10 ((((e6.trans e7).trans e8).trans e9).trans e10)⟩, fun hn => absurd hmem hn⟩⟩)))

end
end K49
namespace Lc
open PySem PySem.Spec PyProof.Rows L2 Evl
section
variable {K : PySem.W.Frag} {σ : L2.St} {H H' : Hp} {te : TE} {b : Addr}
/-! ### signs drawn, joined -/
def EvC (b : Addr) (te : TE) (σ : L2.St) (Pc : Nat → Prop) : Prop := ∀ H1, Bx H1 b → ∀ Q : VK, (∀ c H2, Pc c → ExB b H1 H2 → Bx H2 b → Q (.str (S [c])) H2) → te σ H1 Q
/-- a sign of a text, its place drawn -/
theorem ec_ix {ta tb : TE} {al : List Nat} {Pd : Int → Prop} (ha : ∀ H1, Ev ta σ H1 (.str (S al))) (hb : EvI b tb σ Pd) (hl : al.length ≤ 1000) (hp : ∀ d, Pd d → 0 ≤ d ∧ d < (al.length : Int)) : EvC b (tOp rIxS ta tb) σ (· ∈ al) := fun H1 b1 Q q =>
  ha H1 H1 (Ex.refl H1) _ fun H2 e2 => hb H2 (b1.ex e2) _ fun d H3 hd e3 b3 => by
    obtain ⟨d0, d1⟩ := hp d hd
    refine ⟨S al, d, al.getD d.toNat 0, rfl, rfl, sz_of (by rw [S_len]; omega), atI_i d0 d1 0, ?_⟩
    exact q _ H3 (getD_in (by omega)) ((ExB.of e2).trans e3) b3
theorem bx_lcC {j n : Nat} {vs : List Nat} {ta : TA} {Pc : Nat → Prop} {Q : VK} (hw : ∀ x, wipe ((wipe σ vs).set j (some x)) vs = wipe σ vs) (hn : EvA ta σ H [.int (n : Int)]) (he : ∀ x, EvC b te ((wipe σ vs).set j (some x)) Pc) (hb : Bx H b) (hn1 : n ≤ 1000)
    (k : ∀ (cs : List Nat) p H', cs.length = n → (∀ c ∈ cs, Pc c) → H p = none → H' p = some (.lst (cs.map fun c => V.str (S [c]))) → ExB b H H' → Bx H' b → Q (.ref p) H') :
    tLc (iRng1 ta) (gName j) tYes te vs σ H Q := by
  refine hn H (Ex.refl H) _ fun H1 e1 => ⟨(n : Int), rfl, by omega, by omega, fun D hD => ?_⟩
  have hb1 := hb.ex e1
  have hDb : D ≠ b := bx_ne hb1 hD
  refine lc_range (lo := 0) (n := n) (fun i H' => ∃ cs : List Nat, cs.length = i ∧ (∀ c ∈ cs, Pc c) ∧ H' D = some (.lst (cs.map fun c => V.str (S [c]))) ∧ ExB b H1 H' ∧ Bx H' b) ⟨[], rfl, by simp, upd_same, ExB.of (Ex.new hD), hb1.ex (Ex.new hD)⟩ ?_ ?_
  · rintro u H' hu ⟨cs, rfl, hca, hDl, ep, bp'⟩
    refine ⟨hw _, ?_⟩
    refine he _ H' bp' _ fun c H3 hc e3 b3 => ?_
    refine ⟨_, e3 D _ hDb hDl, Nat.lt_of_lt_of_le (show _ < 2000 by rw [List.length_map]; omega) (by decide), cs ++ [c], by simp, ?_, ?_, ?_, ?_⟩
    · intro d hd
      rcases List.mem_append.mp hd with hd | hd
      · exact hca d hd
      · rw [List.mem_singleton.mp hd]
        exact hc
    · rw [upd_same, List.map_append]
      rfl
    · exact (ep.trans e3).mut hD
    · exact b3.put2 hDb
  · rintro H' ⟨cs, hcl, hca, hDl, ep, bp'⟩
    exact k cs D H' hcl hca (fresh_back e1 hD) hDl ((ExB.of e1).trans ep) bp'
theorem bx_joinC {j n : Nat} {vs : List Nat} {ta : TA} {Pc : Nat → Prop} {Q : VK} (hw : ∀ x, wipe ((wipe σ vs).set j (some x)) vs = wipe σ vs) (hn : EvA ta σ H [.int (n : Int)]) (he : ∀ x, EvC b te ((wipe σ vs).set j (some x)) Pc) (hb : Bx H b) (hn1 : n ≤ 1000)
    (k : ∀ (cs : List Nat) H', cs.length = n → (∀ c ∈ cs, Pc c) → ExB b H H' → Bx H' b → Q (.str (S cs)) H') :
    tM1 (fun x xs H Q => ∃ a p, ∃ ys : List Str, x = .str a ∧ xs = [.ref p] ∧ (SqL K H p (ys.map V.str) ∨ SqT K H p (ys.map V.str)) ∧ (ys.map (·.length)).sum + ys.length * a.length ≤ 16777216 ∧ Q (.str (Txt.join a ys)) H) (tC (.str (S [])))
      (tLc (iRng1 ta) (gName j) tYes te vs) σ H Q := by
  refine ⟨⟨_, rfl⟩, bx_lcC hw hn he hb hn1 fun cs p H' hl hc hp h2 e b2 => ?_⟩
  refine ⟨S [], p, cs.map fun c => S [c], rfl, rfl, .inl (SqL.of (by rw [List.map_map]; exact h2)), join_sz _ (by omega), ?_⟩
  rw [join_S]
  exact k cs H' hl hc e b2
/-! ### numbers drawn along a text, a new row -/
theorem rb_S {Pd : Int → Prop} {l : List Nat} {tl : TE} {j : Nat} {vs : List Nat} (h : ∀ H1, Ev tl σ H1 (.str (S l))) (hz : l.length ≤ 40000) (hw : ∀ x, wipe ((wipe σ vs).set j (some x)) vs = wipe σ vs)
    (he : ∀ x, EvI b te ((wipe σ vs).set j (some x)) Pd) : EvRB b (tLc (iStr tl) (gName j) tYes te vs) σ H fun row => row.length = l.length ∧ ∀ x ∈ row, Pd x := fun H0 e0 b0 Q q => h H0 H0 (Ex.refl H0) _ fun H1 e1 => ⟨S l, rfl, fun Dl hD => by
  have b1 := b0.ex e1
  have hDb : Dl ≠ b := bx_ne b1 hD
  refine ⟨fun i m H' => m = l.length - i ∧ i ≤ l.length ∧ ∃ row : List Int, row.length = i ∧ (∀ x ∈ row, Pd x) ∧ H' Dl = some (.lst (row.map V.int)) ∧ ExB b H1 H' ∧ Bx H' b, ⟨l.length, by simp, Nat.zero_le _, [], rfl, by simp, upd_same, ExB.of (Ex.new hD), b1.ex (Ex.new hD)⟩, ?_⟩
  rintro i m H' ⟨rfl, hi, row, rfl, hrow, hDl, ep, bp⟩
  by_cases hlt : row.length < l.length
  · refine .inr ⟨by show row.length < (S l).cps.size; rw [its_sz]; exact hlt, fun H2 => row.length + 1 ≤ l.length ∧ ∃ row' : List Int, row'.length = row.length + 1 ∧ (∀ x ∈ row', Pd x) ∧ H2 Dl = some (.lst (row'.map V.int)) ∧ ExB b H1 H2 ∧ Bx H2 b, fun H2 p2 => ⟨l.length - (row.length + 1), by omega, rfl, p2.1, p2.2⟩, fun x H2 hy => ?_⟩
    obtain ⟨rfl, c, hc, rfl⟩ := hy
    refine ⟨hw _, ?_⟩
    show te _ H2 fun y H4 => _
    refine he _ H2 bp _ fun d H4 hd e4 b4 => ⟨row.map V.int, e4 _ _ hDb hDl, sz_lt (by rw [List.length_map]; omega), hlt, row ++ [d], by simp, fun x hx => ?_, by rw [upd_same, List.map_append]; rfl, (ep.trans e4).mut hD, b4.put2 hDb⟩
    rcases List.mem_append.mp hx with hx | hx
    · exact hrow x hx
    · rw [List.mem_singleton.mp hx]
      exact hd
  · exact .inl ⟨by show (S l).cps.size ≤ row.length; rw [its_sz]; omega, q Dl row H' (fresh_back e1 hD) ((ExB.of e1).trans ep) bp hDl ⟨by omega, hrow⟩⟩⟩
/-! ### either rule -/
theorem ix_or {X : Cx} {r1 r2 : R2} (h1 : IxR X r1) (h2 : IxR X r2) : IxR X fun x y H Q => r1 x y H Q ∨ r2 x y H Q := fun value slice pins s σ H x y v u Q I rx ry h hs => by
  rcases h with h | h
  · exact h1 value slice pins s σ H x y v u Q I rx ry h hs
  · exact h2 value slice pins s σ H x y v u Q I rx ry h hs
theorem call_or {X : Cx} {f : Value} {r1 r2 : List V → Hp → VK → Prop} (h1 : CallR X f r1) (h2 : CallR X f r2) : CallR X f fun xs H Q => r1 xs H Q ∨ r2 xs H Q := fun pins s σ H xs us Q I rx h => by
  rcases h with h | h
  · exact h1 pins s σ H xs us Q I rx h
  · exact h2 pins s σ H xs us Q I rx h
end
end Lc
namespace Lc
open PySem PySem.Spec PyProof.Rows L2 Evl
section
variable {K : PySem.W.Frag} {σ : L2.St} {H H' : Hp} {ta tb te : TE} {t u : TT} {b : Addr} {tu tw tz : TS} {D : Ends} {Pa Pb : Bool → Prop} {Pd Pe : Int → Prop}
/-! ### tests with draws -/
def EvTI (b : Addr) (t : TT) (σ : L2.St) (Pb : Bool → Prop) : Prop := ∀ H1, Bx H1 b → ∀ Q : Bool → Hp → Prop, (∀ c H2, Pb c → ExB b H1 H2 → Bx H2 b → Q c H2) → t σ H1 Q
theorem eti_is {c : Bool} (h : ∀ H1, EvT t σ H1 c) : EvTI b t σ (· = c) := fun H1 b1 Q q => h H1 H1 (Ex.refl H1) _ fun H2 e2 => q c H2 rfl (ExB.of e2) (b1.ex e2)
theorem eti_imp (h : EvTI b t σ Pa) (k : ∀ c, Pa c → Pb c) : EvTI b t σ Pb := fun H1 b1 Q q => h H1 b1 Q fun c H2 hc => q c H2 (k c hc)
theorem eti_cmp {g : Int → Int → Bool} (ha : EvI b ta σ Pd) (hb : EvI b tb σ Pe) : EvTI b (tTest (tOp (rI0 fun i j => .bl (g i j)) ta tb)) σ fun c => ∃ x y, Pd x ∧ Pe y ∧ c = g x y := fun H1 b1 Q q =>
  ha H1 b1 _ fun x H2 hx e2 b2 => hb H2 b2 _ fun y H3 hy e3 b3 => ⟨x, y, rfl, rfl, _, rfl, q _ H3 ⟨x, y, hx, hy, rfl⟩ (e2.trans e3) b3⟩
theorem eti_eq {n : Int} (ha : EvI b ta σ Pd) : EvTI b (tTest (tOp rEq ta (tC (.int n)))) σ fun c => ∃ x, Pd x ∧ c = decide (x = n) := fun H1 b1 Q q =>
  ha H1 b1 _ fun x H2 hx e2 b2 => ev_c (v := .int n) H2 (Ex.refl H2) _ fun H3 e3 => rv_eqII (a := x) (b := n) H3 (Ex.refl H3) _ fun H4 e4 => ⟨_, rfl, q _ H4 ⟨x, hx, rfl⟩ (e2.trans (ExB.of (e3.trans e4))) ((b2.ex e3).ex e4)⟩
theorem eti_or (ha : EvTI b t σ Pa) (hb : Pa false → EvTI b u σ Pb) : EvTI b (tOr t u) σ fun c => (Pa true ∧ c = true) ∨ (Pa false ∧ Pb c) := fun H1 b1 Q q => ha H1 b1 _ fun c H2 hc e2 b2 => by
  cases c with
  | true => exact q true H2 (.inl ⟨hc, rfl⟩) e2 b2
  | false => exact hb hc H2 b2 Q fun d H3 hd e3 b3 => q d H3 (.inr ⟨hc, hd⟩) (e2.trans e3) b3
theorem eti_and (ha : EvTI b t σ Pa) (hb : Pa true → EvTI b u σ Pb) : EvTI b (tAnd t u) σ fun c => (Pa false ∧ c = false) ∨ (Pa true ∧ Pb c) := fun H1 b1 Q q => ha H1 b1 _ fun c H2 hc e2 b2 => by
  cases c with
  | false => exact q false H2 (.inl ⟨hc, rfl⟩) e2 b2
  | true => exact hb hc H2 b2 Q fun d H3 hd e3 b3 => q d H3 (.inr ⟨hc, hd⟩) (e2.trans e3) b3
theorem s_ifTI (h : EvTI b t σ Pb) (hb : Bx H b) (k1 : Pb true → ∀ H1, ExB b H H1 → Bx H1 b → tu D σ H1) (k2 : Pb false → ∀ H1, ExB b H H1 → Bx H1 b → tw D σ H1) : tIfS t tu tw D σ H := h H hb _ fun c H1 hc e b1 => by
  cases c with
  | true => exact k1 hc H1 e b1
  | false => exact k2 hc H1 e b1
theorem s_whenTI (h : EvTI b t σ Pb) (hb : Bx H b) (k1 : Pb true → ∀ H1, ExB b H H1 → Bx H1 b → tu D σ H1) (k2 : Pb false → ∀ H1, ExB b H H1 → Bx H1 b → D.nx σ H1) : tIfS t tu tNext D σ H := s_ifTI h hb k1 k2
theorem q_ifTI (h : EvTI b t σ Pb) (hb : Bx H b) (k1 : Pb true → ∀ H1, ExB b H H1 → Bx H1 b → tu { D with nx := tz D } σ H1) (k2 : Pb false → ∀ H1, ExB b H H1 → Bx H1 b → tw { D with nx := tz D } σ H1) : tSeq (tIfS t tu tw) tz D σ H := s_ifTI (D := { D with nx := tz D }) h hb k1 k2
theorem q_whenTI (h : EvTI b t σ Pb) (hb : Bx H b) (k1 : Pb true → ∀ H1, ExB b H H1 → Bx H1 b → tu { D with nx := tz D } σ H1) (k2 : Pb false → ∀ H1, ExB b H H1 → Bx H1 b → tz D σ H1) : tSeq (tIfS t tu tNext) tz D σ H := s_ifTI (D := { D with nx := tz D }) h hb k1 k2
/-- one slot drawn anew or not, then the rest: the rest is told once -/
theorem q_whenTI1 {i : Nat} (h : EvTI b t σ Pb) (he : EvI b te σ Pd) (hb : Bx H b) (hx : ∃ n, σ[i]? = some (some (.int n)) ∧ Pe n) (k : ∀ n H1, (Pd n ∨ Pe n) → ExB b H H1 → Bx H1 b → tz D (σ.set i (some (.int n))) H1) : tSeq (tIfS t (tAsg te (gName i)) tNext) tz D σ H := by
  obtain ⟨n0, hn0, hp0⟩ := hx
  refine q_whenTI h hb (fun _ H1 e1 b1 => he H1 b1 _ fun n H2 hn e2 b2 => k n H2 (.inl hn) (e1.trans e2) b2) fun _ H1 e1 b1 => ?_
  have e : σ.set i (some (.int n0)) = σ := by
    apply List.ext_getElem?
    intro j
    by_cases hj : i = j
    · subst hj
      rw [List.getElem?_set_self (by
        by_cases h : i < σ.length
        · exact h
        · rw [List.getElem?_eq_none (by omega)] at hn0
          cases hn0), hn0]
    · rw [List.getElem?_set_ne hj]
  have := k n0 H1 (.inr hp0) e1 b1
  rwa [e] at this
theorem s_retI' {σ : L2.St} {H : Hp} {b : Addr} {te : TE} {Pd : Int → Prop} {D : Ends} (h : EvI b te σ Pd) (hb : Bx H b) (k : ∀ d H1, Pd d → ExB b H H1 → Bx H1 b → D.rt (.int d) H1) : tRet te D σ H := h H hb _ k
theorem q_asgI' {σ : L2.St} {H : Hp} {b : Addr} {te : TE} {Pd : Int → Prop} {D : Ends} {i : Nat} {tz : TS} (h : EvI b te σ Pd) (hb : Bx H b) (k : ∀ d H1, Pd d → ExB b H H1 → Bx H1 b → tz D (σ.set i (some (.int d))) H1) : tSeq (tAsg te (gName i)) tz D σ H := h H hb _ k
theorem s_retC {Pc : Nat → Prop} (h : EvC b te σ Pc) (hb : Bx H b) (k : ∀ c H1, Pc c → ExB b H H1 → Bx H1 b → D.rt (.str (S [c])) H1) : tRet te D σ H := h H hb _ k
end
end Lc
namespace K49
open PySem PySem.Spec PyProof.Rows L2 Lc Evl
section
variable {P : Program} {w : World} {K : PySem.W.Frag} {mg : Str → Option Value} {base : Heap}
theorem q_whenC {σ : L2.St} {H : Hp} {b : Bool} {t : TT} {tu tz : TS} {D : Ends} (M : L2.St → Hp → Prop) (hz : ∀ σ' H', M σ' H' → tz D σ' H') (h : EvT t σ H b) (h1 : (∀ σ' H', M σ' H' → tz D σ' H') → b = true → ∀ H1, Ex H H1 → tu { D with nx := tz D } σ H1) (h2 : b = false → ∀ H1, Ex H H1 → M σ H1) : tSeq (tIfS t tu tNext) tz D σ H := q_when h (h1 hz) fun hb H1 e1 => hz _ _ (h2 hb H1 e1)
theorem q_asgCh {σ : L2.St} {H : Hp} {b : Addr} {pool : List Nat} {te : TE} {tz : TS} {D : Ends} {i : Nat} (h : te σ H fun v H1 => tz D (σ.set i (some v)) H1) : tSeq (tAsg te (gName i)) tz D σ H := h
theorem cb_on {σ : L2.St} {H : Hp} {r : List V → Hp → VK → Prop} {ta : TA} {Q : VK} (h : ta σ H fun xs H1 => r xs H1 Q) : tCB r ta σ H Q := h
theorem ev_lenT {σ : L2.St} {H : Hp} {te : TE} {l : List Nat} (h : Ev te σ H (.str (S l))) (hl : l.length ≤ 100000) : Ev (tCB (fun xs H Q => ∃ z, xs = [V.str z] ∧ z.length ≤ sizeLine ∧ Q (.int z.length) H) (tCons te tNil)) σ H (.int (l.length : Int)) := ev_cb (ea_cons h ea_nil) (rc_lenStr hl)
/-! ### the draws -/
def sp_law_draw (K : PySem.W.Frag) : Sp := fun vs H Q _ => ∃ (b : Addr) (many : Int), vs = [.ref b, .int many] ∧ Bx H b ∧ 0 < many ∧ many.natAbs < 2 ^ 128 ∧ ∀ d H', 0 ≤ d → d < many → ExB b H H' → Bx H' b → Q (.int d) H'
theorem ok_law_draw (T : Tx K mg w) : OkD P w K mg base 1 d_law_draw ps_law_draw (sp_law_draw K) := by
  refine (h_law_draw T).ok sc_law_draw (fun vs H Q E h => ?_) (fun cdv A outer s H vs Q E hr h => ⟨_,
      (pss_cons (ps_asg (pe_op op_add (pe_ix ix_list (pv 0) pe_int (fun _ _ => rfl)) pe_int) (pg_sub (pv 0) pe_int set_list))
      (pss_cons (ps_if (pt_cmpR op_gt (pe_ix ix_list (pv 0) pe_int (fun _ _ => rfl)) pe_int (nomark _)) (pss_cons (ps_set (i := 4) sc_law_draw.nd rfl (Or.inl rfl) (pe_op op_mod (pe_callTy call_int1 (by rfl) (m_int T) (by decide +kernel) (pa_cons (pe_ix ix_list (pv 0) pe_int (fun _ _ => rfl)) pa_nil)) (pv 1)))
      (pss_cons (ps_asg (pe_op op_fdivW (pe_ix ix_list (pv 0) pe_int (fun _ _ => rfl)) (pv 1)) (pg_sub (pv 0) pe_int set_list))
      (pss_one (ps_ret (pv 4))))) pss_nil)
      (pss_cons (ps_set (i := 2) sc_law_draw.nd rfl (Or.inl rfl) (pe_op op_mod (pe_callTy call_int1 (by rfl) (m_int T) (by decide +kernel) (pa_cons (pe_op op_add (pe_op op_mul (pe_ix ix_list (pv 0) pe_int (fun _ _ => rfl)) pe_int) (pe_op op_mul (pe_ix ix_list (pv 0) pe_int (fun _ _ => rfl)) pe_int)) pa_nil)) pe_int))
      (pss_cons (ps_set (i := 3) sc_law_draw.nd rfl (Or.inl rfl) (pe_op op_mod (pe_callTy call_int1 (by rfl) (m_int T) (by decide +kernel) (pa_cons (pe_op op_add (pe_op op_mul (pv 2) (pv 2)) (pe_op op_mul (pe_ix ix_list (pv 0) pe_int (fun _ _ => rfl)) pe_int)) pa_nil)) pe_int))
      (pss_cons (ps_set (i := 2) sc_law_draw.nd rfl (Or.inl rfl) (pe_op op_mod (pe_callTy call_int1 (by rfl) (m_int T) (by decide +kernel) (pa_cons (pe_op op_add (pe_op op_mul (pv 3) (pv 3)) (pv 2)) pa_nil)) pe_int))
      (pss_one (ps_ret (pe_op op_mod (pe_callTy call_int1 (by rfl) (m_int T) (by decide +kernel) (pa_cons (pe_op op_fdivW (pv 2) pe_int) pa_nil)) (pv 1))))))))), ?_⟩)
  · obtain ⟨b, many, rfl, _⟩ := h
    rfl
  · obtain ⟨b, many, rfl, ⟨i, j, k, hb⟩, hm, hm2, q⟩ := h
    have hs := SqL.of (K := K) hb
    refine q_setL (j := 2) hb (by repeat' (first | ((with_reducible refine ev_pow10 ?_ ?_ ?_) <;> first | rfl | decide) | (with_reducible refine fun (_ : _ = true) => ?_) | (with_reducible refine fun (_ : _ = false) => ?_) | (with_reducible exact ev_c) | ((with_reducible apply ev_var); rfl) | (with_reducible apply ev_op) | (with_reducible apply ev_un) | (with_reducible apply ev_cb) | (with_reducible apply ea_cons) | (with_reducible apply ev_andV) | (with_reducible apply ev_orV) | (with_reducible apply ev_notV) | (with_reducible apply ev_if) | (with_reducible apply eo_some) | (with_reducible apply el_lst) | (with_reducible exact ea_nil) | (with_reducible exact rv_I0) | (with_reducible exact ru_neg) | (with_reducible exact rv_ltS) | (with_reducible exact rv_inC) | (with_reducible exact rv_notInC) | (with_reducible exact rc_intI) | (with_reducible exact rc_intB) | (with_reducible exact rc_min2) | (with_reducible exact rc_isStr) | (with_reducible exact eo_none) | (with_reducible exact rv_inSS) | (with_reducible exact rv_notInSS) | (with_reducible exact rv_ltSS) | (with_reducible exact rv_eqSS) | (with_reducible exact rv_eqII) | (with_reducible exact rv_neII) | (with_reducible exact rv_neSS) | ((with_reducible refine rc_lenSS ?_); (first | assumption | omega | decide | (simp only [S_len] at *; omega))) | ((with_reducible refine rc_lenStr ?_); (first | assumption | omega | decide | (simp only [S_len] at *; omega))) | ((with_reducible refine rv_catSS ?_); (first | assumption | omega | decide | (simp only [S_len] at *; omega))) | (with_reducible exact rv_eq rfl) | (with_reducible exact rv_ne rfl) | ((with_reducible refine rc_lenS ?_); (first | assumption | omega | decide | (simp only [S_len] at *; omega))) | ((with_reducible refine rc_lenL ?_); assumption) | ((with_reducible apply rv_ixL); assumption; rfl) | ((with_reducible refine rv_catS ?_); (first | assumption | omega | decide | (simp only [S_len] at *; omega))) | ((with_reducible refine rv_I ?_); (first | (show (0 : Int) < _; (first | assumption | omega | decide | (simp only [S_len] at *; omega))) | exact .inr ⟨by decide, by decide⟩ | exact .inl ⟨by (first | assumption | omega | decide | (simp only [S_len] at *; omega)), by (first | assumption | omega | decide | (simp only [S_len] at *; omega))⟩ | exact .inr ⟨by (first | assumption | omega | decide | (simp only [S_len] at *; omega)), by (first | assumption | omega | decide | (simp only [S_len] at *; omega))⟩ | exact ⟨by decide, by decide, by decide⟩ | exact wide_div (b := 128) (by (first | assumption | omega | decide | (simp only [S_len] at *; omega))) (by (first | assumption | omega | decide | (simp only [S_len] at *; omega))) (by decide) (by decide))))) (by repeat' (first | ((with_reducible refine ev_pow10 ?_ ?_ ?_) <;> first | rfl | decide) | (with_reducible refine fun (_ : _ = true) => ?_) | (with_reducible refine fun (_ : _ = false) => ?_) | (with_reducible exact ev_c) | ((with_reducible apply ev_var); rfl) | (with_reducible apply ev_op) | (with_reducible apply ev_un) | (with_reducible apply ev_cb) | (with_reducible apply ea_cons) | (with_reducible apply ev_andV) | (with_reducible apply ev_orV) | (with_reducible apply ev_notV) | (with_reducible apply ev_if) | (with_reducible apply eo_some) | (with_reducible apply el_lst) | (with_reducible exact ea_nil) | (with_reducible exact rv_I0) | (with_reducible exact ru_neg) | (with_reducible exact rv_ltS) | (with_reducible exact rv_inC) | (with_reducible exact rv_notInC) | (with_reducible exact rc_intI) | (with_reducible exact rc_intB) | (with_reducible exact rc_min2) | (with_reducible exact rc_isStr) | (with_reducible exact eo_none) | (with_reducible exact rv_inSS) | (with_reducible exact rv_notInSS) | (with_reducible exact rv_ltSS) | (with_reducible exact rv_eqSS) | (with_reducible exact rv_eqII) | (with_reducible exact rv_neII) | (with_reducible exact rv_neSS) | ((with_reducible refine rc_lenSS ?_); (first | assumption | omega | decide | (simp only [S_len] at *; omega))) | ((with_reducible refine rc_lenStr ?_); (first | assumption | omega | decide | (simp only [S_len] at *; omega))) | ((with_reducible refine rv_catSS ?_); (first | assumption | omega | decide | (simp only [S_len] at *; omega))) | (with_reducible exact rv_eq rfl) | (with_reducible exact rv_ne rfl) | ((with_reducible refine rc_lenS ?_); (first | assumption | omega | decide | (simp only [S_len] at *; omega))) | ((with_reducible refine rc_lenL ?_); assumption) | ((with_reducible apply rv_ixL); assumption; rfl) | ((with_reducible refine rv_catS ?_); (first | assumption | omega | decide | (simp only [S_len] at *; omega))) | ((with_reducible refine rv_I ?_); (first | (show (0 : Int) < _; (first | assumption | omega | decide | (simp only [S_len] at *; omega))) | exact .inr ⟨by decide, by decide⟩ | exact .inl ⟨by (first | assumption | omega | decide | (simp only [S_len] at *; omega)), by (first | assumption | omega | decide | (simp only [S_len] at *; omega))⟩ | exact .inr ⟨by (first | assumption | omega | decide | (simp only [S_len] at *; omega)), by (first | assumption | omega | decide | (simp only [S_len] at *; omega))⟩ | exact ⟨by decide, by decide, by decide⟩ | exact wide_div (b := 128) (by (first | assumption | omega | decide | (simp only [S_len] at *; omega))) (by (first | assumption | omega | decide | (simp only [S_len] at *; omega))) (by decide) (by decide))))) ev_c (by simp) fun H1 e1 => ?_
    have h1 : upd H1 b (.lst (List.set [V.int i, V.int j, V.int k] 2 (V.int (k + 64)))) b = some (.lst [V.int i, V.int j, V.int (k + 64)]) := upd_same
    have x1 : ExB b H (upd H1 b (.lst (List.set [V.int i, V.int j, V.int k] 2 (V.int (k + 64))))) := (ExB.of e1).trans ExB.upd
    generalize upd H1 b (.lst (List.set [V.int i, V.int j, V.int k] 2 (V.int (k + 64)))) = G1 at h1 x1 ⊢
    generalize k + 64 = c at h1
    have hs1 := SqL.of (K := K) h1
    refine q_when (by first | ((with_reducible apply et_test); (repeat' (first | ((with_reducible refine ev_pow10 ?_ ?_ ?_) <;> first | rfl | decide) | (with_reducible refine fun (_ : _ = true) => ?_) | (with_reducible refine fun (_ : _ = false) => ?_) | (with_reducible exact ev_c) | ((with_reducible apply ev_var); rfl) | (with_reducible apply ev_op) | (with_reducible apply ev_un) | (with_reducible apply ev_cb) | (with_reducible apply ea_cons) | (with_reducible apply ev_andV) | (with_reducible apply ev_orV) | (with_reducible apply ev_notV) | (with_reducible apply ev_if) | (with_reducible apply eo_some) | (with_reducible apply el_lst) | (with_reducible exact ea_nil) | (with_reducible exact rv_I0) | (with_reducible exact ru_neg) | (with_reducible exact rv_ltS) | (with_reducible exact rv_inC) | (with_reducible exact rv_notInC) | (with_reducible exact rc_intI) | (with_reducible exact rc_intB) | (with_reducible exact rc_min2) | (with_reducible exact rc_isStr) | (with_reducible exact eo_none) | (with_reducible exact rv_inSS) | (with_reducible exact rv_notInSS) | (with_reducible exact rv_ltSS) | (with_reducible exact rv_eqSS) | (with_reducible exact rv_eqII) | (with_reducible exact rv_neII) | (with_reducible exact rv_neSS) | ((with_reducible refine rc_lenSS ?_); (first | assumption | omega | decide | (simp only [S_len] at *; omega))) | ((with_reducible refine rc_lenStr ?_); (first | assumption | omega | decide | (simp only [S_len] at *; omega))) | ((with_reducible refine rv_catSS ?_); (first | assumption | omega | decide | (simp only [S_len] at *; omega))) | (with_reducible exact rv_eq rfl) | (with_reducible exact rv_ne rfl) | ((with_reducible refine rc_lenS ?_); (first | assumption | omega | decide | (simp only [S_len] at *; omega))) | ((with_reducible refine rc_lenL ?_); assumption) | ((with_reducible apply rv_ixL); assumption; rfl) | ((with_reducible refine rv_catS ?_); (first | assumption | omega | decide | (simp only [S_len] at *; omega))) | ((with_reducible refine rv_I ?_); (first | (show (0 : Int) < _; (first | assumption | omega | decide | (simp only [S_len] at *; omega))) | exact .inr ⟨by decide, by decide⟩ | exact .inl ⟨by (first | assumption | omega | decide | (simp only [S_len] at *; omega)), by (first | assumption | omega | decide | (simp only [S_len] at *; omega))⟩ | exact .inr ⟨by (first | assumption | omega | decide | (simp only [S_len] at *; omega)), by (first | assumption | omega | decide | (simp only [S_len] at *; omega))⟩ | exact ⟨by decide, by decide, by decide⟩ | exact wide_div (b := 128) (by (first | assumption | omega | decide | (simp only [S_len] at *; omega))) (by (first | assumption | omega | decide | (simp only [S_len] at *; omega))) (by decide) (by decide)))))) | ((with_reducible apply et_B); (repeat' (first | ((with_reducible refine ev_pow10 ?_ ?_ ?_) <;> first | rfl | decide) | (with_reducible refine fun (_ : _ = true) => ?_) | (with_reducible refine fun (_ : _ = false) => ?_) | (with_reducible exact ev_c) | ((with_reducible apply ev_var); rfl) | (with_reducible apply ev_op) | (with_reducible apply ev_un) | (with_reducible apply ev_cb) | (with_reducible apply ea_cons) | (with_reducible apply ev_andV) | (with_reducible apply ev_orV) | (with_reducible apply ev_notV) | (with_reducible apply ev_if) | (with_reducible apply eo_some) | (with_reducible apply el_lst) | (with_reducible exact ea_nil) | (with_reducible exact rv_I0) | (with_reducible exact ru_neg) | (with_reducible exact rv_ltS) | (with_reducible exact rv_inC) | (with_reducible exact rv_notInC) | (with_reducible exact rc_intI) | (with_reducible exact rc_intB) | (with_reducible exact rc_min2) | (with_reducible exact rc_isStr) | (with_reducible exact eo_none) | (with_reducible exact rv_inSS) | (with_reducible exact rv_notInSS) | (with_reducible exact rv_ltSS) | (with_reducible exact rv_eqSS) | (with_reducible exact rv_eqII) | (with_reducible exact rv_neII) | (with_reducible exact rv_neSS) | ((with_reducible refine rc_lenSS ?_); (first | assumption | omega | decide | (simp only [S_len] at *; omega))) | ((with_reducible refine rc_lenStr ?_); (first | assumption | omega | decide | (simp only [S_len] at *; omega))) | ((with_reducible refine rv_catSS ?_); (first | assumption | omega | decide | (simp only [S_len] at *; omega))) | (with_reducible exact rv_eq rfl) | (with_reducible exact rv_ne rfl) | ((with_reducible refine rc_lenS ?_); (first | assumption | omega | decide | (simp only [S_len] at *; omega))) | ((with_reducible refine rc_lenL ?_); assumption) | ((with_reducible apply rv_ixL); assumption; rfl) | ((with_reducible refine rv_catS ?_); (first | assumption | omega | decide | (simp only [S_len] at *; omega))) | ((with_reducible refine rv_I ?_); (first | (show (0 : Int) < _; (first | assumption | omega | decide | (simp only [S_len] at *; omega))) | exact .inr ⟨by decide, by decide⟩ | exact .inl ⟨by (first | assumption | omega | decide | (simp only [S_len] at *; omega)), by (first | assumption | omega | decide | (simp only [S_len] at *; omega))⟩ | exact .inr ⟨by (first | assumption | omega | decide | (simp only [S_len] at *; omega)), by (first | assumption | omega | decide | (simp only [S_len] at *; omega))⟩ | exact ⟨by decide, by decide, by decide⟩ | exact wide_div (b := 128) (by (first | assumption | omega | decide | (simp only [S_len] at *; omega))) (by (first | assumption | omega | decide | (simp only [S_len] at *; omega))) (by decide) (by decide))))))) (fun hc H2 e2 => ?_) (fun hc H2 e2 => ?_)
    · have hs2 := SqL.of (K := K) (e2 _ _ h1)
      refine q_asg (by repeat' (first | ((with_reducible refine ev_pow10 ?_ ?_ ?_) <;> first | rfl | decide) | (with_reducible refine fun (_ : _ = true) => ?_) | (with_reducible refine fun (_ : _ = false) => ?_) | (with_reducible exact ev_c) | ((with_reducible apply ev_var); rfl) | (with_reducible apply ev_op) | (with_reducible apply ev_un) | (with_reducible apply ev_cb) | (with_reducible apply ea_cons) | (with_reducible apply ev_andV) | (with_reducible apply ev_orV) | (with_reducible apply ev_notV) | (with_reducible apply ev_if) | (with_reducible apply eo_some) | (with_reducible apply el_lst) | (with_reducible exact ea_nil) | (with_reducible exact rv_I0) | (with_reducible exact ru_neg) | (with_reducible exact rv_ltS) | (with_reducible exact rv_inC) | (with_reducible exact rv_notInC) | (with_reducible exact rc_intI) | (with_reducible exact rc_intB) | (with_reducible exact rc_min2) | (with_reducible exact rc_isStr) | (with_reducible exact eo_none) | (with_reducible exact rv_inSS) | (with_reducible exact rv_notInSS) | (with_reducible exact rv_ltSS) | (with_reducible exact rv_eqSS) | (with_reducible exact rv_eqII) | (with_reducible exact rv_neII) | (with_reducible exact rv_neSS) | ((with_reducible refine rc_lenSS ?_); (first | assumption | omega | decide | (simp only [S_len] at *; omega))) | ((with_reducible refine rc_lenStr ?_); (first | assumption | omega | decide | (simp only [S_len] at *; omega))) | ((with_reducible refine rv_catSS ?_); (first | assumption | omega | decide | (simp only [S_len] at *; omega))) | (with_reducible exact rv_eq rfl) | (with_reducible exact rv_ne rfl) | ((with_reducible refine rc_lenS ?_); (first | assumption | omega | decide | (simp only [S_len] at *; omega))) | ((with_reducible refine rc_lenL ?_); assumption) | ((with_reducible apply rv_ixL); assumption; rfl) | ((with_reducible refine rv_catS ?_); (first | assumption | omega | decide | (simp only [S_len] at *; omega))) | ((with_reducible refine rv_I ?_); (first | (show (0 : Int) < _; (first | assumption | omega | decide | (simp only [S_len] at *; omega))) | exact .inr ⟨by decide, by decide⟩ | exact .inl ⟨by (first | assumption | omega | decide | (simp only [S_len] at *; omega)), by (first | assumption | omega | decide | (simp only [S_len] at *; omega))⟩ | exact .inr ⟨by (first | assumption | omega | decide | (simp only [S_len] at *; omega)), by (first | assumption | omega | decide | (simp only [S_len] at *; omega))⟩ | exact ⟨by decide, by decide, by decide⟩ | exact wide_div (b := 128) (by (first | assumption | omega | decide | (simp only [S_len] at *; omega))) (by (first | assumption | omega | decide | (simp only [S_len] at *; omega))) (by decide) (by decide))))) fun H3 e3 => ?_
      have hs3 := SqL.of (K := K) (e3 _ _ (e2 _ _ h1))
      refine q_setL (j := 0) (e3 _ _ (e2 _ _ h1)) (by repeat' (first | ((with_reducible refine ev_pow10 ?_ ?_ ?_) <;> first | rfl | decide) | (with_reducible refine fun (_ : _ = true) => ?_) | (with_reducible refine fun (_ : _ = false) => ?_) | (with_reducible exact ev_c) | ((with_reducible apply ev_var); rfl) | (with_reducible apply ev_op) | (with_reducible apply ev_un) | (with_reducible apply ev_cb) | (with_reducible apply ea_cons) | (with_reducible apply ev_andV) | (with_reducible apply ev_orV) | (with_reducible apply ev_notV) | (with_reducible apply ev_if) | (with_reducible apply eo_some) | (with_reducible apply el_lst) | (with_reducible exact ea_nil) | (with_reducible exact rv_I0) | (with_reducible exact ru_neg) | (with_reducible exact rv_ltS) | (with_reducible exact rv_inC) | (with_reducible exact rv_notInC) | (with_reducible exact rc_intI) | (with_reducible exact rc_intB) | (with_reducible exact rc_min2) | (with_reducible exact rc_isStr) | (with_reducible exact eo_none) | (with_reducible exact rv_inSS) | (with_reducible exact rv_notInSS) | (with_reducible exact rv_ltSS) | (with_reducible exact rv_eqSS) | (with_reducible exact rv_eqII) | (with_reducible exact rv_neII) | (with_reducible exact rv_neSS) | ((with_reducible refine rc_lenSS ?_); (first | assumption | omega | decide | (simp only [S_len] at *; omega))) | ((with_reducible refine rc_lenStr ?_); (first | assumption | omega | decide | (simp only [S_len] at *; omega))) | ((with_reducible refine rv_catSS ?_); (first | assumption | omega | decide | (simp only [S_len] at *; omega))) | (with_reducible exact rv_eq rfl) | (with_reducible exact rv_ne rfl) | ((with_reducible refine rc_lenS ?_); (first | assumption | omega | decide | (simp only [S_len] at *; omega))) | ((with_reducible refine rc_lenL ?_); assumption) | ((with_reducible apply rv_ixL); assumption; rfl) | ((with_reducible refine rv_catS ?_); (first | assumption | omega | decide | (simp only [S_len] at *; omega))) | ((with_reducible refine rv_I ?_); (first | (show (0 : Int) < _; (first | assumption | omega | decide | (simp only [S_len] at *; omega))) | exact .inr ⟨by decide, by decide⟩ | exact .inl ⟨by (first | assumption | omega | decide | (simp only [S_len] at *; omega)), by (first | assumption | omega | decide | (simp only [S_len] at *; omega))⟩ | exact .inr ⟨by (first | assumption | omega | decide | (simp only [S_len] at *; omega)), by (first | assumption | omega | decide | (simp only [S_len] at *; omega))⟩ | exact ⟨by decide, by decide, by decide⟩ | exact wide_div (b := 128) (by (first | assumption | omega | decide | (simp only [S_len] at *; omega))) (by (first | assumption | omega | decide | (simp only [S_len] at *; omega))) (by decide) (by decide))))) (by repeat' (first | ((with_reducible refine ev_pow10 ?_ ?_ ?_) <;> first | rfl | decide) | (with_reducible refine fun (_ : _ = true) => ?_) | (with_reducible refine fun (_ : _ = false) => ?_) | (with_reducible exact ev_c) | ((with_reducible apply ev_var); rfl) | (with_reducible apply ev_op) | (with_reducible apply ev_un) | (with_reducible apply ev_cb) | (with_reducible apply ea_cons) | (with_reducible apply ev_andV) | (with_reducible apply ev_orV) | (with_reducible apply ev_notV) | (with_reducible apply ev_if) | (with_reducible apply eo_some) | (with_reducible apply el_lst) | (with_reducible exact ea_nil) | (with_reducible exact rv_I0) | (with_reducible exact ru_neg) | (with_reducible exact rv_ltS) | (with_reducible exact rv_inC) | (with_reducible exact rv_notInC) | (with_reducible exact rc_intI) | (with_reducible exact rc_intB) | (with_reducible exact rc_min2) | (with_reducible exact rc_isStr) | (with_reducible exact eo_none) | (with_reducible exact rv_inSS) | (with_reducible exact rv_notInSS) | (with_reducible exact rv_ltSS) | (with_reducible exact rv_eqSS) | (with_reducible exact rv_eqII) | (with_reducible exact rv_neII) | (with_reducible exact rv_neSS) | ((with_reducible refine rc_lenSS ?_); (first | assumption | omega | decide | (simp only [S_len] at *; omega))) | ((with_reducible refine rc_lenStr ?_); (first | assumption | omega | decide | (simp only [S_len] at *; omega))) | ((with_reducible refine rv_catSS ?_); (first | assumption | omega | decide | (simp only [S_len] at *; omega))) | (with_reducible exact rv_eq rfl) | (with_reducible exact rv_ne rfl) | ((with_reducible refine rc_lenS ?_); (first | assumption | omega | decide | (simp only [S_len] at *; omega))) | ((with_reducible refine rc_lenL ?_); assumption) | ((with_reducible apply rv_ixL); assumption; rfl) | ((with_reducible refine rv_catS ?_); (first | assumption | omega | decide | (simp only [S_len] at *; omega))) | ((with_reducible refine rv_I ?_); (first | (show (0 : Int) < _; (first | assumption | omega | decide | (simp only [S_len] at *; omega))) | exact .inr ⟨by decide, by decide⟩ | exact .inl ⟨by (first | assumption | omega | decide | (simp only [S_len] at *; omega)), by (first | assumption | omega | decide | (simp only [S_len] at *; omega))⟩ | exact .inr ⟨by (first | assumption | omega | decide | (simp only [S_len] at *; omega)), by (first | assumption | omega | decide | (simp only [S_len] at *; omega))⟩ | exact ⟨by decide, by decide, by decide⟩ | exact wide_div (b := 128) (by (first | assumption | omega | decide | (simp only [S_len] at *; omega))) (by (first | assumption | omega | decide | (simp only [S_len] at *; omega))) (by decide) (by decide))))) ev_c (by simp) fun H4 e4 => ?_
      refine s_ret (by repeat' (first | ((with_reducible refine ev_pow10 ?_ ?_ ?_) <;> first | rfl | decide) | (with_reducible refine fun (_ : _ = true) => ?_) | (with_reducible refine fun (_ : _ = false) => ?_) | (with_reducible exact ev_c) | ((with_reducible apply ev_var); rfl) | (with_reducible apply ev_op) | (with_reducible apply ev_un) | (with_reducible apply ev_cb) | (with_reducible apply ea_cons) | (with_reducible apply ev_andV) | (with_reducible apply ev_orV) | (with_reducible apply ev_notV) | (with_reducible apply ev_if) | (with_reducible apply eo_some) | (with_reducible apply el_lst) | (with_reducible exact ea_nil) | (with_reducible exact rv_I0) | (with_reducible exact ru_neg) | (with_reducible exact rv_ltS) | (with_reducible exact rv_inC) | (with_reducible exact rv_notInC) | (with_reducible exact rc_intI) | (with_reducible exact rc_intB) | (with_reducible exact rc_min2) | (with_reducible exact rc_isStr) | (with_reducible exact eo_none) | (with_reducible exact rv_inSS) | (with_reducible exact rv_notInSS) | (with_reducible exact rv_ltSS) | (with_reducible exact rv_eqSS) | (with_reducible exact rv_eqII) | (with_reducible exact rv_neII) | (with_reducible exact rv_neSS) | ((with_reducible refine rc_lenSS ?_); (first | assumption | omega | decide | (simp only [S_len] at *; omega))) | ((with_reducible refine rc_lenStr ?_); (first | assumption | omega | decide | (simp only [S_len] at *; omega))) | ((with_reducible refine rv_catSS ?_); (first | assumption | omega | decide | (simp only [S_len] at *; omega))) | (with_reducible exact rv_eq rfl) | (with_reducible exact rv_ne rfl) | ((with_reducible refine rc_lenS ?_); (first | assumption | omega | decide | (simp only [S_len] at *; omega))) | ((with_reducible refine rc_lenL ?_); assumption) | ((with_reducible apply rv_ixL); assumption; rfl) | ((with_reducible refine rv_catS ?_); (first | assumption | omega | decide | (simp only [S_len] at *; omega))) | ((with_reducible refine rv_I ?_); (first | (show (0 : Int) < _; (first | assumption | omega | decide | (simp only [S_len] at *; omega))) | exact .inr ⟨by decide, by decide⟩ | exact .inl ⟨by (first | assumption | omega | decide | (simp only [S_len] at *; omega)), by (first | assumption | omega | decide | (simp only [S_len] at *; omega))⟩ | exact .inr ⟨by (first | assumption | omega | decide | (simp only [S_len] at *; omega)), by (first | assumption | omega | decide | (simp only [S_len] at *; omega))⟩ | exact ⟨by decide, by decide, by decide⟩ | exact wide_div (b := 128) (by (first | assumption | omega | decide | (simp only [S_len] at *; omega))) (by (first | assumption | omega | decide | (simp only [S_len] at *; omega))) (by decide) (by decide))))) fun H5 e5 => ?_
      refine q _ _ (Int.emod_nonneg _ (by omega)) (Int.emod_lt_of_pos _ hm) ?_ ?_
      · exact ((x1.trans (ExB.of ((e2.trans e3).trans e4))).trans ExB.upd).trans (ExB.of e5)
      · exact Bx.ex Bx.put e5
    · have h2 := e2 _ _ h1
      have hs2 := SqL.of (K := K) h2
      refine q_asg (v := .int ((j * 48271 + c * 1299709) % 2147483647)) (by repeat' (first | ((with_reducible refine ev_pow10 ?_ ?_ ?_) <;> first | rfl | decide) | (with_reducible refine fun (_ : _ = true) => ?_) | (with_reducible refine fun (_ : _ = false) => ?_) | (with_reducible exact ev_c) | ((with_reducible apply ev_var); rfl) | (with_reducible apply ev_op) | (with_reducible apply ev_un) | (with_reducible apply ev_cb) | (with_reducible apply ea_cons) | (with_reducible apply ev_andV) | (with_reducible apply ev_orV) | (with_reducible apply ev_notV) | (with_reducible apply ev_if) | (with_reducible apply eo_some) | (with_reducible apply el_lst) | (with_reducible exact ea_nil) | (with_reducible exact rv_I0) | (with_reducible exact ru_neg) | (with_reducible exact rv_ltS) | (with_reducible exact rv_inC) | (with_reducible exact rv_notInC) | (with_reducible exact rc_intI) | (with_reducible exact rc_intB) | (with_reducible exact rc_min2) | (with_reducible exact rc_isStr) | (with_reducible exact eo_none) | (with_reducible exact rv_inSS) | (with_reducible exact rv_notInSS) | (with_reducible exact rv_ltSS) | (with_reducible exact rv_eqSS) | (with_reducible exact rv_eqII) | (with_reducible exact rv_neII) | (with_reducible exact rv_neSS) | ((with_reducible refine rc_lenSS ?_); (first | assumption | omega | decide | (simp only [S_len] at *; omega))) | ((with_reducible refine rc_lenStr ?_); (first | assumption | omega | decide | (simp only [S_len] at *; omega))) | ((with_reducible refine rv_catSS ?_); (first | assumption | omega | decide | (simp only [S_len] at *; omega))) | (with_reducible exact rv_eq rfl) | (with_reducible exact rv_ne rfl) | ((with_reducible refine rc_lenS ?_); (first | assumption | omega | decide | (simp only [S_len] at *; omega))) | ((with_reducible refine rc_lenL ?_); assumption) | ((with_reducible apply rv_ixL); assumption; rfl) | ((with_reducible refine rv_catS ?_); (first | assumption | omega | decide | (simp only [S_len] at *; omega))) | ((with_reducible refine rv_I ?_); (first | (show (0 : Int) < _; (first | assumption | omega | decide | (simp only [S_len] at *; omega))) | exact .inr ⟨by decide, by decide⟩ | exact .inl ⟨by (first | assumption | omega | decide | (simp only [S_len] at *; omega)), by (first | assumption | omega | decide | (simp only [S_len] at *; omega))⟩ | exact .inr ⟨by (first | assumption | omega | decide | (simp only [S_len] at *; omega)), by (first | assumption | omega | decide | (simp only [S_len] at *; omega))⟩ | exact ⟨by decide, by decide, by decide⟩ | exact wide_div (b := 128) (by (first | assumption | omega | decide | (simp only [S_len] at *; omega))) (by (first | assumption | omega | decide | (simp only [S_len] at *; omega))) (by decide) (by decide))))) fun H3 e3 => ?_
      have hs3 := SqL.of (K := K) (e3 _ _ h2)
      have b1 := Int.emod_nonneg (j * 48271 + c * 1299709) (show (2147483647 : Int) ≠ 0 by decide)
      have b2 := Int.emod_lt_of_pos (j * 48271 + c * 1299709) (show (0 : Int) < 2147483647 by decide)
      generalize (j * 48271 + c * 1299709) % 2147483647 = m1 at b1 b2 ⊢
      refine q_asg (v := .int ((m1 * m1 + c * 69621) % 2147483629)) (by repeat' (first | ((with_reducible refine ev_pow10 ?_ ?_ ?_) <;> first | rfl | decide) | (with_reducible refine fun (_ : _ = true) => ?_) | (with_reducible refine fun (_ : _ = false) => ?_) | (with_reducible exact ev_c) | ((with_reducible apply ev_var); rfl) | (with_reducible apply ev_op) | (with_reducible apply ev_un) | (with_reducible apply ev_cb) | (with_reducible apply ea_cons) | (with_reducible apply ev_andV) | (with_reducible apply ev_orV) | (with_reducible apply ev_notV) | (with_reducible apply ev_if) | (with_reducible apply eo_some) | (with_reducible apply el_lst) | (with_reducible exact ea_nil) | (with_reducible exact rv_I0) | (with_reducible exact ru_neg) | (with_reducible exact rv_ltS) | (with_reducible exact rv_inC) | (with_reducible exact rv_notInC) | (with_reducible exact rc_intI) | (with_reducible exact rc_intB) | (with_reducible exact rc_min2) | (with_reducible exact rc_isStr) | (with_reducible exact eo_none) | (with_reducible exact rv_inSS) | (with_reducible exact rv_notInSS) | (with_reducible exact rv_ltSS) | (with_reducible exact rv_eqSS) | (with_reducible exact rv_eqII) | (with_reducible exact rv_neII) | (with_reducible exact rv_neSS) | ((with_reducible refine rc_lenSS ?_); (first | assumption | omega | decide | (simp only [S_len] at *; omega))) | ((with_reducible refine rc_lenStr ?_); (first | assumption | omega | decide | (simp only [S_len] at *; omega))) | ((with_reducible refine rv_catSS ?_); (first | assumption | omega | decide | (simp only [S_len] at *; omega))) | (with_reducible exact rv_eq rfl) | (with_reducible exact rv_ne rfl) | ((with_reducible refine rc_lenS ?_); (first | assumption | omega | decide | (simp only [S_len] at *; omega))) | ((with_reducible refine rc_lenL ?_); assumption) | ((with_reducible apply rv_ixL); assumption; rfl) | ((with_reducible refine rv_catS ?_); (first | assumption | omega | decide | (simp only [S_len] at *; omega))) | ((with_reducible refine rv_I ?_); (first | (show (0 : Int) < _; (first | assumption | omega | decide | (simp only [S_len] at *; omega))) | exact .inr ⟨by decide, by decide⟩ | exact .inl ⟨by (first | assumption | omega | decide | (simp only [S_len] at *; omega)), by (first | assumption | omega | decide | (simp only [S_len] at *; omega))⟩ | exact .inr ⟨by (first | assumption | omega | decide | (simp only [S_len] at *; omega)), by (first | assumption | omega | decide | (simp only [S_len] at *; omega))⟩ | exact ⟨by decide, by decide, by decide⟩ | exact wide_div (b := 128) (by (first | assumption | omega | decide | (simp only [S_len] at *; omega))) (by (first | assumption | omega | decide | (simp only [S_len] at *; omega))) (by decide) (by decide))))) fun H4 e4 => ?_
      have c1 := Int.emod_nonneg (m1 * m1 + c * 69621) (show (2147483629 : Int) ≠ 0 by decide)
      have c2 := Int.emod_lt_of_pos (m1 * m1 + c * 69621) (show (0 : Int) < 2147483629 by decide)
      generalize (m1 * m1 + c * 69621) % 2147483629 = m2 at c1 c2 ⊢
      refine q_asg (v := .int ((m2 * m2 + m1) % 2147483587)) (by repeat' (first | ((with_reducible refine ev_pow10 ?_ ?_ ?_) <;> first | rfl | decide) | (with_reducible refine fun (_ : _ = true) => ?_) | (with_reducible refine fun (_ : _ = false) => ?_) | (with_reducible exact ev_c) | ((with_reducible apply ev_var); rfl) | (with_reducible apply ev_op) | (with_reducible apply ev_un) | (with_reducible apply ev_cb) | (with_reducible apply ea_cons) | (with_reducible apply ev_andV) | (with_reducible apply ev_orV) | (with_reducible apply ev_notV) | (with_reducible apply ev_if) | (with_reducible apply eo_some) | (with_reducible apply el_lst) | (with_reducible exact ea_nil) | (with_reducible exact rv_I0) | (with_reducible exact ru_neg) | (with_reducible exact rv_ltS) | (with_reducible exact rv_inC) | (with_reducible exact rv_notInC) | (with_reducible exact rc_intI) | (with_reducible exact rc_intB) | (with_reducible exact rc_min2) | (with_reducible exact rc_isStr) | (with_reducible exact eo_none) | (with_reducible exact rv_inSS) | (with_reducible exact rv_notInSS) | (with_reducible exact rv_ltSS) | (with_reducible exact rv_eqSS) | (with_reducible exact rv_eqII) | (with_reducible exact rv_neII) | (with_reducible exact rv_neSS) | ((with_reducible refine rc_lenSS ?_); (first | assumption | omega | decide | (simp only [S_len] at *; omega))) | ((with_reducible refine rc_lenStr ?_); (first | assumption | omega | decide | (simp only [S_len] at *; omega))) | ((with_reducible refine rv_catSS ?_); (first | assumption | omega | decide | (simp only [S_len] at *; omega))) | (with_reducible exact rv_eq rfl) | (with_reducible exact rv_ne rfl) | ((with_reducible refine rc_lenS ?_); (first | assumption | omega | decide | (simp only [S_len] at *; omega))) | ((with_reducible refine rc_lenL ?_); assumption) | ((with_reducible apply rv_ixL); assumption; rfl) | ((with_reducible refine rv_catS ?_); (first | assumption | omega | decide | (simp only [S_len] at *; omega))) | ((with_reducible refine rv_I ?_); (first | (show (0 : Int) < _; (first | assumption | omega | decide | (simp only [S_len] at *; omega))) | exact .inr ⟨by decide, by decide⟩ | exact .inl ⟨by (first | assumption | omega | decide | (simp only [S_len] at *; omega)), by (first | assumption | omega | decide | (simp only [S_len] at *; omega))⟩ | exact .inr ⟨by (first | assumption | omega | decide | (simp only [S_len] at *; omega)), by (first | assumption | omega | decide | (simp only [S_len] at *; omega))⟩ | exact ⟨by decide, by decide, by decide⟩ | exact wide_div (b := 128) (by (first | assumption | omega | decide | (simp only [S_len] at *; omega))) (by (first | assumption | omega | decide | (simp only [S_len] at *; omega))) (by decide) (by decide))))) fun H5 e5 => ?_
      have d1 := Int.emod_nonneg (m2 * m2 + m1) (show (2147483587 : Int) ≠ 0 by decide)
      have d2 := Int.emod_lt_of_pos (m2 * m2 + m1) (show (0 : Int) < 2147483587 by decide)
      generalize (m2 * m2 + m1) % 2147483587 = m3 at d1 d2 ⊢
      refine s_ret (v := .int (m3 / 7 % many)) (by repeat' (first | ((with_reducible refine ev_pow10 ?_ ?_ ?_) <;> first | rfl | decide) | (with_reducible refine fun (_ : _ = true) => ?_) | (with_reducible refine fun (_ : _ = false) => ?_) | (with_reducible exact ev_c) | ((with_reducible apply ev_var); rfl) | (with_reducible apply ev_op) | (with_reducible apply ev_un) | (with_reducible apply ev_cb) | (with_reducible apply ea_cons) | (with_reducible apply ev_andV) | (with_reducible apply ev_orV) | (with_reducible apply ev_notV) | (with_reducible apply ev_if) | (with_reducible apply eo_some) | (with_reducible apply el_lst) | (with_reducible exact ea_nil) | (with_reducible exact rv_I0) | (with_reducible exact ru_neg) | (with_reducible exact rv_ltS) | (with_reducible exact rv_inC) | (with_reducible exact rv_notInC) | (with_reducible exact rc_intI) | (with_reducible exact rc_intB) | (with_reducible exact rc_min2) | (with_reducible exact rc_isStr) | (with_reducible exact eo_none) | (with_reducible exact rv_inSS) | (with_reducible exact rv_notInSS) | (with_reducible exact rv_ltSS) | (with_reducible exact rv_eqSS) | (with_reducible exact rv_eqII) | (with_reducible exact rv_neII) | (with_reducible exact rv_neSS) | ((with_reducible refine rc_lenSS ?_); (first | assumption | omega | decide | (simp only [S_len] at *; omega))) | ((with_reducible refine rc_lenStr ?_); (first | assumption | omega | decide | (simp only [S_len] at *; omega))) | ((with_reducible refine rv_catSS ?_); (first | assumption | omega | decide | (simp only [S_len] at *; omega))) | (with_reducible exact rv_eq rfl) | (with_reducible exact rv_ne rfl) | ((with_reducible refine rc_lenS ?_); (first | assumption | omega | decide | (simp only [S_len] at *; omega))) | ((with_reducible refine rc_lenL ?_); assumption) | ((with_reducible apply rv_ixL); assumption; rfl) | ((with_reducible refine rv_catS ?_); (first | assumption | omega | decide | (simp only [S_len] at *; omega))) | ((with_reducible refine rv_I ?_); (first | (show (0 : Int) < _; (first | assumption | omega | decide | (simp only [S_len] at *; omega))) | exact .inr ⟨by decide, by decide⟩ | exact .inl ⟨by (first | assumption | omega | decide | (simp only [S_len] at *; omega)), by (first | assumption | omega | decide | (simp only [S_len] at *; omega))⟩ | exact .inr ⟨by (first | assumption | omega | decide | (simp only [S_len] at *; omega)), by (first | assumption | omega | decide | (simp only [S_len] at *; omega))⟩ | exact ⟨by decide, by decide, by decide⟩ | exact wide_div (b := 128) (by (first | assumption | omega | decide | (simp only [S_len] at *; omega))) (by (first | assumption | omega | decide | (simp only [S_len] at *; omega))) (by decide) (by decide))))) fun H7 e7 => ?_
      have e27 := (((e2.trans e3).trans e4).trans e5).trans e7
      exact q _ _ (Int.emod_nonneg _ (by omega)) (Int.emod_lt_of_pos _ hm) (x1.trans (ExB.of e27)) ⟨i, j, c, e27 _ _ h1⟩
theorem sp_draw_then {σ : L2.St} {H : Hp} {b : Addr} {i : Nat} {te : TE} {many : Int} {E : XK} {Q : VK} (hv : σ[i]? = some (some (.ref b))) (hb : Bx H b) (he : Ev te σ H (.int many)) (h0 : 0 < many) (h1 : many.natAbs < 2 ^ 128)
    (k : ∀ d H', 0 ≤ d → d < many → ExB b H H' → Bx H' b → Q (.int d) H') : tCall (sp_law_draw K) [] E (tCons (tVar i) (tCons te tNil)) σ H Q :=
  ⟨_, hv, he H (Ex.refl H) _ fun H1 e1 => ⟨b, many, rfl, hb.ex e1, h0, h1, fun d H' d0 d1 x y => k d H' d0 d1 ((ExB.of e1).trans x) y⟩⟩
theorem ei_draw {σ : L2.St} {b : Addr} {i : Nat} {te : TE} {many : Int} {E : XK} (hv : σ[i]? = some (some (.ref b))) (he : ∀ H1, Ev te σ H1 (.int many)) (h0 : 0 < many) (h1 : many.natAbs < 2 ^ 128) : EvI b (tCall (sp_law_draw K) [] E (tCons (tVar i) (tCons te tNil))) σ fun d => 0 ≤ d ∧ d < many :=
  fun H1 hb Q q => sp_draw_then hv hb (he H1) h0 h1 fun d H' d0 d1 e b2 => q d H' ⟨d0, d1⟩ e b2
/-- a number of a list that is drawn, drawn again -/
theorem cut1 (ns : List Int) : cutV (ns.map V.int) none (some 1) = (ns.take 1).map V.int := by
  unfold cutV
  rw [HT.sIx_none, List.drop_zero, Nat.sub_zero, List.map_take]
  cases ns with
  | nil => rfl
  | cons a r =>
    have : HT.sIx ((a :: r).map V.int).length ((a :: r).map V.int).length (some 1) = 1 := by
      show (if (1 : Int) < 0 then ((1 : Int) + ((((a :: r).map V.int).length : Nat) : Int)).toNat else min (1 : Int).toNat ((a :: r).map V.int).length) = 1
      rw [if_neg (by decide)]
      simp
    rw [this]
def sp_law_bag (K : PySem.W.Frag) : Sp := fun vs H Q _ => ∃ (a : Addr) (ns : List Int) (at_ : Int), vs = [.ref a, .int at_] ∧ SqL K H a (ns.map V.int) ∧ 0 ≤ at_ ∧ at_ < 1000 ∧ ∀ p H', H p = none → Ex H H' → Bx H' p → Q (.ref p) H'
theorem ok_law_bag (T : Tx K mg w) : OkD P w K mg base 1 d_law_bag ps_law_bag (sp_law_bag K) := by
  refine (h_law_bag T).ok sc_law_bag (fun vs H Q E h => ?_) (fun cdv A outer s H vs Q E hr h => ⟨_,
      (pss_cons (ps_set (i := 2) sc_law_bag.nd rfl (Or.inl rfl) (pe_op op_mod (pe_callTy call_int1 (by rfl) (m_int T) (by decide +kernel) (pa_cons (pe_callB (cr_sum rfl) (by rfl) (m_sum T) (by decide +kernel) (pa_cons (pe_slice sl_list (pv 0) po_none (po_some pe_int)) pa_nil)) pa_nil)) pe_int))
      (pss_cons (ps_if (pt_cmpR op_lt (pv 1) (pe_callB call_len (by rfl) (m_len T) (by decide +kernel) (pa_cons (pv 0) pa_nil)) (nomark _)) (pss_one (ps_set (i := 2) sc_law_bag.nd rfl (Or.inl rfl) (pe_ix ix_list (pv 0) (pv 1) (fun _ _ => rfl)))) pss_nil)
      (pss_cons (ps_if (pt_cmpR op_ge (pv 2) (pe_op op_pow pe_int pe_int) (nomark _)) (pss_one (ps_ret (pe_lst (pa_cons (pv 2) (pa_cons (pv 2) (pa_cons (pv 1) pa_nil)))))) pss_nil)
      (pss_one (ps_ret (pe_lst (pa_cons pe_int (pa_cons (pe_op op_add (pv 2) pe_int) (pa_cons (pv 1) pa_nil))))))))), ?_⟩)
  · obtain ⟨a, ns, at_, rfl, _⟩ := h
    rfl
  · obtain ⟨a, ns, at_, rfl, hs, h0, h1, q⟩ := h
    have hcut : EvL (tSl (rSlL K) (tVar 0) tNoPart (tPart (tC (.int 1)))) (L2.start ns_law_bag [.ref a, .int at_]) H ((ns.take 1).map V.int) := by
      rw [← cut1]
      exact el_sl (ev_var rfl) eo_none (eo_some ev_c) hs
    have hsum := ev_cbL hcut fun p H2 hp e => rc_sum (K := K) (ns := ns.take 1) (sq_of hp)
    have hint := ev_cb (ea_cons hsum ea_nil) rc_intI
    refine q_asg (v := .int ((ns.take 1).sum % 1000003)) (ev_op hint ev_c (rv_I (C := fun _ j => 0 < j) (g := fun i j => .int (i % j)) (by decide))) fun H1 e1 => ?_
    generalize (ns.take 1).sum % 1000003 = c0
    have hl := rc_lenL (K := K) (ex_l e1 hs)
    rw [List.length_map] at hl
    refine q_whenC (fun σ' H' => Ex H H' ∧ ∃ cl : Int, σ' = [some (.ref a), some (.int at_), some (.int cl)]) ?_ (b := decide (at_ < (ns.length : Int))) (et_test (ev_op (by exact ev_var rfl) (ev_cb (ea_cons (by exact ev_var rfl) ea_nil) hl) rv_I0)) (fun hz hc H2 e2 => ?_) (fun hc H2 e2 => ⟨e1.trans e2, c0, rfl⟩)
    · rintro σ' H2 ⟨e2, cl, rfl⟩
      refine q_when (b := decide (cl ≥ (1000000000000000000 : Int))) (et_test (ev_op (by exact ev_var rfl) (ev_pow10 (v := 1000000000000000000) (by decide) (by decide) (by decide)) rv_I0)) (fun hc H3 e3 => ?_) (fun hc H3 e3 => ?_)
      · exact s_retL (el_lst (ea_cons (by exact ev_var rfl) (ea_cons (by exact ev_var rfl) (ea_cons (by exact ev_var rfl) ea_nil))) (by simp)) fun p H5 hp e5 h5 => q p H5 (fresh_back (e2.trans e3) hp) ((e2.trans e3).trans e5) ⟨_, _, _, h5⟩
      · exact s_retL (el_lst (ea_cons ev_c (ea_cons (ev_op (by exact ev_var rfl) ev_c rv_I0) (ea_cons (by exact ev_var rfl) ea_nil))) (by simp)) fun p H5 hp e5 h5 => q p H5 (fresh_back (e2.trans e3) hp) ((e2.trans e3).trans e5) ⟨_, _, _, h5⟩
    · have hlt : at_ < (ns.length : Int) := of_decide_eq_true hc
      exact s_asg (by exact ev_op (ev_var rfl) (ev_var rfl) (rv_ixL (ex_l (e1.trans e2) hs) (atI_int h0 hlt))) fun H3 e3 => hz _ _ ⟨(e1.trans e2).trans e3, _, rfl⟩
theorem k_sg : Str.ofString "#.:ABCDabcd" = S SG := by decide +kernel
theorem k_e : Str.ofString "" = S [] := by decide +kernel
def sp_law_sign (K : PySem.W.Frag) : Sp := fun vs H Q _ => ∃ b : Addr, vs = [.ref b] ∧ Bx H b ∧ ∀ c H', c ∈ SG → ExB b H H' → Bx H' b → Q (.str (S [c])) H'
theorem ok_law_sign (T : Tx K mg w) : OkD P w K mg base 2 d_law_sign ps_law_sign (sp_law_sign K) := by
  refine (h_law_sign T).ok sc_law_sign (fun vs H Q E h => ?_) (fun cdv A outer s H vs Q E hr h => ⟨_,
      (pss_cons (ps_if (pt_cmpR op_eq (pe_call (ok_law_draw (P := P) (w := w) (base := base) T) (hr.mono (by decide)) (by rfl) (m_law_draw T) (k_law_draw T) (b_law_draw T) .nil passN (pa_cons (pv 0) (pa_cons pe_int pa_nil))) pe_int (nomark _)) (pss_one (ps_ret pe_str)) pss_nil)
      (pss_one (ps_ret (pe_ix ix_str pe_str (pe_call (ok_law_draw (P := P) (w := w) (base := base) T) (hr.mono (by decide)) (by rfl) (m_law_draw T) (k_law_draw T) (b_law_draw T) .nil passN (pa_cons (pv 0) (pa_cons pe_int pa_nil))) (fun _ _ => rfl))))), ?_⟩)
  · obtain ⟨b, rfl, _⟩ := h
    rfl
  · obtain ⟨b, rfl, hb, q⟩ := h
    simp only [k_sg, k_wall]
    refine q_whenTI (eti_eq (n := 1) (ei_draw (K := K) (many := 3) rfl (fun H => ev_c) (by decide) (by decide))) hb (fun _ H1 x1 b1 => ?_) fun _ H1 x1 b1 => ?_
    · exact s_ret ev_c fun H2 e2 => q 35 H2 (by decide) (x1.trans (ExB.of e2)) (b1.ex e2)
    · exact s_retC (ec_ix (al := SG) (fun H => ev_c) (ei_draw (K := K) (many := 11) rfl (fun H => ev_c) (by decide) (by decide)) (by decide) fun d hd => ⟨hd.1, hd.2⟩) b1 fun c H2 hc x2 b2 => q c H2 hc (x1.trans x2) b2
def sp_law_any_row (K : PySem.W.Frag) : Sp := fun vs H Q _ => ∃ b : Addr, vs = [.ref b] ∧ Bx H b ∧ ∀ (l : List Nat) H', l.length ≤ 60 → Good l → ExB b H H' → Bx H' b → Q (.str (S l)) H'
theorem ok_law_any_row (T : Tx K mg w) : OkD P w K mg base 3 d_law_any_row ps_law_any_row (sp_law_any_row K) := by
  refine (h_law_any_row T).ok sc_law_any_row (fun vs H Q E h => ?_) (fun cdv A outer s H vs Q E hr h => ⟨_,
      (pss_cons (ps_set (i := 1) sc_law_any_row.nd rfl (Or.inl rfl) (pe_call (ok_law_draw (P := P) (w := w) (base := base) T) (hr.mono (by decide)) (by rfl) (m_law_draw T) (k_law_draw T) (b_law_draw T) .nil passN (pa_cons (pv 0) (pa_cons pe_int pa_nil))))
      (pss_cons (ps_if (pt_cmpR op_eq (pe_call (ok_law_draw (P := P) (w := w) (base := base) T) (hr.mono (by decide)) (by rfl) (m_law_draw T) (k_law_draw T) (b_law_draw T) .nil passN (pa_cons (pv 0) (pa_cons pe_int pa_nil))) pe_int (nomark _)) (pss_one (ps_set (i := 1) sc_law_any_row.nd rfl (Or.inl rfl) (pe_call (ok_law_draw (P := P) (w := w) (base := base) T) (hr.mono (by decide)) (by rfl) (m_law_draw T) (k_law_draw T) (b_law_draw T) .nil passN (pa_cons (pv 0) (pa_cons pe_int pa_nil))))) pss_nil)
      (pss_one (ps_ret (pe_join pe_str (pe_lc (own := [("k", 2)]) (g := gName 2) rfl sc_law_any_row.nd (pi_range1 rfl (m_range T) (pa_cons (pv 1) pa_nil)) (blkOk_by (own := [("k", 2)]) (N := ns_law_any_row) (sc := (defScope st_law_any_row)) (by decide +kernel)) (fun _ _ _ _ _ => pg_name (i := 2) sc_law_any_row.nd rfl (Or.inl rfl)) (fun _ _ _ _ _ => pts_nil) (fun _ _ _ _ _ => (pe_call (ok_law_sign (P := P) (w := w) (base := base) T) (hr.mono (by decide)) (by rfl) (m_law_sign T) (k_law_sign T) (b_law_sign T) .nil passN (pa_cons (pv 0) pa_nil))))))))), ?_⟩)
  · obtain ⟨b, rfl, _⟩ := h
    rfl
  · obtain ⟨b, rfl, hb, q⟩ := h
    simp only [k_e]
    refine q_asgI' (ei_draw (K := K) (many := 10) rfl (fun H => ev_c) (by decide) (by decide)) hb fun n0 H1 hn0 x1 b1 => ?_
    try dsimp only [List.set]
    refine q_whenTI1 (Pe := fun n => 0 ≤ n ∧ n ≤ 60) (eti_eq (n := 1) (ei_draw (K := K) (many := 8) rfl (fun H => ev_c) (by decide) (by decide))) (ei_draw (K := K) (many := 61) rfl (fun H => ev_c) (by decide) (by decide)) b1 ⟨n0, rfl, hn0.1, by omega⟩ fun n H2 hn x2 b2 => ?_
    try dsimp only [List.set]
    have hn : 0 ≤ n ∧ n ≤ 60 := by omega
    obtain ⟨n, rfl⟩ : ∃ k : Nat, n = (k : Int) := ⟨n.toNat, by omega⟩
    refine ret_fst (bx_joinC (b := b) (Pc := (· ∈ SG)) (fun x => rfl) (ea_cons (by exact ev_var rfl) ea_nil) (fun x H3 b3 Q3 q3 => ⟨_, rfl, b, rfl, b3, q3⟩) b2 (by omega) fun cs H3 hl hc x3 b3 => q cs H3 (by omega) hc ((x1.trans x2).trans x3) b3)
def ins (l : List Nat) (i c : Nat) : List Nat := l.take i ++ [c] ++ l.drop i
def sp_law_with_one (K : PySem.W.Frag) : Sp := fun vs H Q _ => ∃ (b : Addr) (l pool : List Nat) (pv : V), vs = [.ref b, .str (S l), pv] ∧ Bx H b ∧ l.length ≤ 100 ∧ 0 < pool.length ∧ pool.length ≤ 100 ∧ (pv = .str (S pool) ∨ ∃ p, pv = .ref p ∧ p ≠ b ∧ H p = some (.lst (pool.map fun c => V.str (S [c])))) ∧
  ∀ i c H', i ≤ l.length → c ∈ pool → ExB b H H' → Bx H' b → Q (.str (S (ins l i c))) H'
theorem ok_law_with_one (T : Tx K mg w) : OkD P w K mg base 2 d_law_with_one ps_law_with_one (sp_law_with_one K) := by
  refine (h_law_with_one T).ok sc_law_with_one (fun vs H Q E h => ?_) (fun cdv A outer s H vs Q E hr h => ⟨_,
      (pss_cons (ps_set (i := 3) sc_law_with_one.nd rfl (Or.inl rfl) (pe_ix (ix_or ix_list ix_str) (pv 2) (pe_call (ok_law_draw (P := P) (w := w) (base := base) T) (hr.mono (by decide)) (by rfl) (m_law_draw T) (k_law_draw T) (b_law_draw T) .nil passN (pa_cons (pv 0) (pa_cons (pe_callB (call_or call_len call_len_str) (by rfl) (m_len T) (by decide +kernel) (pa_cons (pv 2) pa_nil)) pa_nil))) (fun _ _ => rfl)))
      (pss_cons (ps_set (i := 4) sc_law_with_one.nd rfl (Or.inl rfl) (pe_call (ok_law_draw (P := P) (w := w) (base := base) T) (hr.mono (by decide)) (by rfl) (m_law_draw T) (k_law_draw T) (b_law_draw T) .nil passN (pa_cons (pv 0) (pa_cons (pe_op op_add (pe_callB call_len_str (by rfl) (m_len T) (by decide +kernel) (pa_cons (pv 1) pa_nil)) pe_int) pa_nil))))
      (pss_one (ps_ret (pe_op op_add_str (pe_op op_add_str (pe_slice sl_str (pv 1) po_none (po_some (pv 4))) (pv 3)) (pe_slice sl_str (pv 1) (po_some (pv 4)) po_none)))))), ?_⟩)
  · obtain ⟨b, l, pool, pv, rfl, _⟩ := h
    rfl
  · obtain ⟨b, l, pool, pv, rfl, hb, hl, p0, p1, hpv, q⟩ := h
    refine q_asgCh (b := b) (pool := pool) (Lc.op_fst ⟨_, rfl, ?_⟩)
    have hlen : ∀ (σ : L2.St), σ[2]? = some (some pv) → Ev (tCB (fun xs H Q => (∃ x n, xs = [x] ∧ LenV K x H n ∧ Q (.int n) H) ∨ ∃ z, xs = [.str z] ∧ z.length ≤ sizeLine ∧ Q (.int z.length) H) (tCons (tVar 2) tNil)) σ H (.int (pool.length : Int)) := fun σ hv H1 e1 Q1 q1 => by
      refine cb_on (Lc.cons_fst ⟨_, hv, ?_⟩)
      rcases hpv with rfl | ⟨p, rfl, hpb, hp⟩
      · have := rc_lenStr (H := H1) (l := pool) (by omega) H1 (Ex.refl H1) _ q1
        exact .inr this
      · have h2 := rc_lenL (K := K) (sq_of (K := K) (e1 _ _ hp))
        rw [List.length_map] at h2
        exact .inl (h2 H1 (Ex.refl H1) _ q1)
    refine sp_draw_then (b := b) (many := (pool.length : Int)) rfl hb (hlen _ rfl) (by omega) (Nat.lt_of_le_of_lt (show (pool.length : Int).natAbs ≤ 100 by omega) (by decide)) fun d H1 d0 d1 x1 b1 => ?_
    have hd : d.toNat < pool.length := by omega
    have hpick : ∃ c, c ∈ pool ∧ ((fun x y H Q => rIxL K x y H Q ∨ rIxS x y H Q) : R2) pv (.int d) H1 = ((fun x y H Q => rIxL K x y H Q ∨ rIxS x y H Q) : R2) pv (.int d) H1 := ⟨pool.getD d.toNat 0, getD_in hd, rfl⟩
    have hpick2 : ∀ Q : VK, (∀ H2, Ex H1 H2 → Q (.str (S [pool.getD d.toNat 0])) H2) → rIxL K pv (.int d) H1 Q ∨ rIxS pv (.int d) H1 Q := fun Q k => by
      rcases hpv with rfl | ⟨p, rfl, hpb, hp⟩
      · exact .inr ((rv_ixSS (l := pool) (i := d) (by omega) d0 d1) H1 (Ex.refl H1) Q k)
      · have hat : atI (pool.map fun c => V.str (S [c])) d = some (.str (S [pool.getD d.toNat 0])) := by
          have := atI_i (xs := pool.map fun c => V.str (S [c])) d0 (by rw [List.length_map]; exact d1) V.non
          rw [this, List.getD_eq_getElem?_getD, List.getElem?_map, List.getD_eq_getElem?_getD, List.getElem?_eq_getElem hd]
          rfl
        exact .inl ((rv_ixL (K := K) (sq_of (x1 _ _ hpb hp)) hat) H1 (Ex.refl H1) Q k)
    refine hpick2 _ fun H2 e2 => ?_
    have hc := getD_in hd
    generalize pool.getD d.toNat 0 = c at hc ⊢
    have x2 := x1.trans (ExB.of e2)
    have b2 := b1.ex e2
    try dsimp only [List.set]
    refine q_asgI' (ei_draw (K := K) (many := (l.length : Int) + 1) rfl (fun H => ev_op (ev_lenT (by exact ev_var rfl) (by omega)) ev_c rv_I0) (by omega) (Nat.lt_of_le_of_lt (show ((l.length : Int) + 1).natAbs ≤ 101 by omega) (by decide))) b2 fun i H3 hi x3 b3 => ?_
    obtain ⟨i, rfl⟩ : ∃ k : Nat, i = (k : Int) := ⟨i.toNat, by omega⟩
    try dsimp only [List.set]
    refine s_ret (v := .str (S (ins l i c))) (ev_op (ev_op (ev_to (k := i) (by exact ev_var rfl) (by exact ev_var rfl) (by omega)) (by exact ev_var rfl) (rv_catSS (a := l.take i) (b := [c]) (by rw [List.length_take]; simp; omega))) (ev_from (k := i) (by exact ev_var rfl) (by exact ev_var rfl) (by omega)) (rv_catSS (by rw [List.length_append, List.length_take, List.length_drop]; simp; omega))) fun H4 e4 => ?_
    exact q i c H4 (by omega) hc ((x2.trans x3).trans (ExB.of e4)) (b3.ex e4)

end
end K49
namespace Lc
open PySem PySem.Spec PyProof.Rows L2 Evl
open PySem.StrLaws PySem.Builtin PySem.Builtin.Str
/-! ### where a sign stands in a text -/
theorem occ_full (s sub : PySem.Str) (hi : Nat) : ∀ (l : List Nat) (st : Array Nat × Nat), 1 ≤ st.fst.size → (forIn l st (occBody s sub hi 1)).run.fst = st.fst
  | [], st, h => rfl
  | a :: l, st, h => by
    rw [List.forIn_cons]
    unfold occBody
    have c2 : ¬ (((st.fst.size < 1 ∧ st.snd ≤ a) ∧ a + sub.length ≤ hi) ∧ subAt s sub a = true) := fun h' => by have := h'.1.1.1; omega
    rw [if_neg c2]
    exact occ_full s sub hi l st h
theorem occ_one (s sub : PySem.Str) (hi : Nat) : ∀ (a : List Nat) (free k : Nat) (b : List Nat), (∀ i ∈ a ++ k :: b, free ≤ i) → (∀ i ∈ a, ¬ (i + sub.length ≤ hi ∧ subAt s sub i = true)) → (k + sub.length ≤ hi ∧ subAt s sub k = true) → (forIn (a ++ k :: b) ((#[] : Array Nat), free) (occBody s sub hi 1)).run.fst = #[k]
  | [], free, k, b, hf, _, hk => by
    rw [List.nil_append, List.forIn_cons]
    unfold occBody
    have c1 : ((((#[] : Array Nat), free).fst.size < 1 ∧ ((#[] : Array Nat), free).snd ≤ k) ∧ k + sub.length ≤ hi) ∧ subAt s sub k = true := ⟨⟨⟨by simp, hf k (by simp)⟩, hk.1⟩, hk.2⟩
    rw [if_pos c1]
    exact occ_full s sub hi b _ (by simp)
  | x :: a, free, k, b, hf, hn, hk => by
    rw [List.cons_append, List.forIn_cons]
    unfold occBody
    have c2 : ¬ (((((#[] : Array Nat), free).fst.size < 1 ∧ ((#[] : Array Nat), free).snd ≤ x) ∧ x + sub.length ≤ hi) ∧ subAt s sub x = true) := fun h => hn x List.mem_cons_self ⟨h.1.2, h.2⟩
    rw [if_neg c2]
    exact occ_one s sub hi a free k b (fun i hi' => hf i (List.mem_cons_of_mem _ hi')) (fun i hi' => hn i (List.mem_cons_of_mem _ hi')) hk
theorem find1 {l : List Nat} {c : Nat} (h : c ∈ l) : Txt.find (S l) (S [c]) = ((l.idxOf c : Nat) : Int) := by
  have hi := List.idxOf_lt_length_of_mem h
  have hL : (S l).length = l.length := S_len l
  have e : List.range' 0 ((S l).length + 1 - 0) = List.range' 0 (l.idxOf c) ++ l.idxOf c :: List.range' (l.idxOf c + 1) ((S l).length - l.idxOf c) := by
    rw [hL, show l.length + 1 - 0 = l.idxOf c + ((l.length - l.idxOf c) + 1) by omega, ← List.range'_append_1, List.range'_succ, Nat.zero_add]
  unfold Txt.find
  have key : occurrences (S l) (S [c]) 0 (S l).length 1 = [l.idxOf c] := by
    rw [occ_eq, e, occ_one (S l) (S [c]) (S l).length (List.range' 0 (l.idxOf c)) 0 (l.idxOf c) _ (fun _ _ => Nat.zero_le _) ?_ ?_]
    · intro i him hc
      have hlt : i < l.idxOf c := by
        have := List.mem_range'.mp him
        obtain ⟨j, hj, rfl⟩ := this
        omega
      have h2 := (subAt_one (S l) c i).mp hc
      have h3 : l[i]? = some c := h2
      have h4 := List.not_of_lt_findIdx (xs := l) (p := (· == c)) (i := i) hlt
      obtain ⟨h5, h6⟩ := List.getElem?_eq_some_iff.mp h3
      rw [h6] at h4
      simp at h4
    · refine (subAt_one (S l) c (l.idxOf c)).mpr ?_
      show l[l.idxOf c]? = some c
      rw [List.getElem?_eq_getElem hi, List.getElem_idxOf hi]
  rw [key]
end Lc
namespace K49
open PySem PySem.Spec PyProof.Rows L2 Lc Evl
section
variable {P : Program} {w : World} {K : PySem.W.Frag} {mg : Str → Option Value} {base : Heap}
/-! ### signs drawn -/
theorem sub_sg {t : List Nat} (h : t.Sublist SG) (hn : t ≠ []) : isSg t = true := isSg_of hn (fun c hc => h.subset hc) (List.Pairwise.sublist h (by decide : SG.Pairwise (· < ·)))
theorem isSg_1 : isSg [35, 46, 97] = true := by decide +kernel
theorem isSg_2 : isSg [35, 46, 58, 65, 97] = true := by decide +kernel
theorem isSg_3 : isSg [46] = true := by decide +kernel
def sp_law_some_signs (K : PySem.W.Frag) : Sp := fun vs H Q _ => ∃ b : Addr, vs = [.ref b] ∧ Bx H b ∧ ∀ l H', isSg l = true → ExB b H H' → Bx H' b → Q (.str (S l)) H'
theorem k_s1 : Str.ofString "#.a" = S [35, 46, 97] := by decide +kernel
theorem k_s2 : Str.ofString "#.:Aa" = S [35, 46, 58, 65, 97] := by decide +kernel
theorem k_s3 : Str.ofString "." = S [46] := by decide +kernel
theorem ok_law_some_signs (T : Tx K mg w) : OkD P w K mg base 2 d_law_some_signs ps_law_some_signs (sp_law_some_signs K) := by
  refine (h_law_some_signs T).ok sc_law_some_signs (fun vs H Q E h => ?_) (fun cdv A outer s H vs Q E hr h => ⟨_,
      (pss_cons (ps_set (i := 1) sc_law_some_signs.nd rfl (Or.inl rfl) (pe_call (ok_law_draw (P := P) (w := w) (base := base) T) (hr.mono (by decide)) (by rfl) (m_law_draw T) (k_law_draw T) (b_law_draw T) .nil passN (pa_cons (pv 0) (pa_cons pe_int pa_nil))))
      (pss_cons (ps_if (pt_cmpR op_lt (pv 1) pe_int (nomark _)) (pss_one (ps_ret (pe_ix ix_list (pe_lst (pa_cons pe_str (pa_cons pe_str pa_nil))) (pv 1) (fun _ _ => rfl)))) pss_nil)
      (pss_cons (ps_set (i := 2) sc_law_some_signs.nd rfl (Or.inl rfl) pe_str)
      (pss_cons (ps_for (passes_of rfl) rfl (pi_str pe_str) (pg_name (i := 3) sc_law_some_signs.nd rfl (Or.inl rfl)) (pss_one (ps_if (PW.pt (pw_or (pt_cmpR op_eq (pe_call (ok_law_draw (P := P) (w := w) (base := base) T) (hr.mono (by decide)) (by rfl) (m_law_draw T) (k_law_draw T) (b_law_draw T) .nil passN (pa_cons (pv 0) (pa_cons pe_int pa_nil))) pe_int (nomark _)) (pw_or1 (PW.pt (pw_and (pt_cmpR op_lt (pv 1) pe_int (nomark _)) (pw_and1 (pt_cmpR op_eq (pv 3) pe_str (nomark _)))))))) (pss_one (ps_set (i := 2) sc_law_some_signs.nd rfl (Or.inl rfl) (pe_op op_add_str (pv 2) (pv 3)))) pss_nil)))
      (pss_cons (ps_if (pt_cmpR op_eq (pv 2) pe_str (nomark _)) (pss_one (ps_ret pe_str)) pss_nil)
      (pss_one (ps_ret (pv 2)))))))), ?_⟩)
  · obtain ⟨b, rfl, _⟩ := h
    rfl
  · obtain ⟨b, rfl, hb, q⟩ := h
    simp only [k_sg, k_wall, k_e, k_s1, k_s2, k_s3]
    refine q_asgI' (ei_draw (K := K) (many := 5) rfl (fun H => ev_c) (by decide) (by decide)) hb fun wy H1 hwy x1 b1 => ?_
    try dsimp only [List.set]
    refine q_when (b := decide (wy < 2)) (et_test (ev_op (by exact ev_var rfl) ev_c rv_I0)) (fun hc H2 e2 => ?_) fun hc H2 e2 => ?_
    · have hw2 : wy = 0 ∨ wy = 1 := by
        have := of_decide_eq_true hc
        omega
      refine ret_fst (Lc.op_fst ?_)
      refine el_lst (vs := [.str (S [35, 46, 97]), .str (S [35, 46, 58, 65, 97])]) (ea_cons ev_c (ea_cons ev_c ea_nil)) (by simp) H2 (Ex.refl H2) _ fun p H3 hp e3 h3 => ⟨_, rfl, ?_⟩
      have x3 := (x1.trans (ExB.of e2)).trans (ExB.of e3)
      have b3 := (b1.ex e2).ex e3
      rcases hw2 with rfl | rfl
      · exact (rv_ixL (K := K) (sq_of h3) rfl) H3 (Ex.refl H3) _ fun H4 e4 => q _ H4 isSg_1 (x3.trans (ExB.of e4)) (b3.ex e4)
      · exact (rv_ixL (K := K) (sq_of h3) rfl) H3 (Ex.refl H3) _ fun H4 e4 => q _ H4 isSg_2 (x3.trans (ExB.of e4)) (b3.ex e4)
    refine q_asg (v := .str (S [])) ev_c fun H3 e3 => ?_
    try dsimp only [List.set]
    have x3 := (x1.trans (ExB.of e2)).trans (ExB.of e3)
    have b3 := (b1.ex e2).ex e3
    refine q_forS (l := SG) ev_c (fun i σ' H' => ExB b H H' ∧ Bx H' b ∧ ∃ (t : List Nat) (v3 : Option V), t.Sublist (SG.take i) ∧ σ' = [some (.ref b), some (.int wy), some (.str (S t)), v3])
      (fun H4 e4 => ⟨x3.trans (ExB.of e4), b3.ex e4, [], none, List.nil_sublist _, rfl⟩) ?_ ?_
    · rintro i c σ' H4 hi ⟨x4, b4, t, v3, ht, rfl⟩
      have tl : t.length ≤ 11 := by
        have h1 := ht.length_le
        have h2 := List.length_take_le i SG
        have h3 : SG.length = 11 := rfl
        rw [List.length_take] at h1
        omega
      have e1 : SG.take (i + 1) = SG.take i ++ [c] := by rw [List.take_add_one, hi]; rfl
      refine s_whenTI (Pb := fun _ => True) (eti_imp (eti_or (eti_eq (n := 1) (ei_draw (K := K) (many := 2) rfl (fun H => ev_c) (by decide) (by decide))) fun _ => eti_is (c := decide (wy < 4) && decide ([c] = [35])) fun H5 => et_and (et_test (ev_op (by exact ev_var rfl) ev_c rv_I0)) fun _ => et_test (ev_op (by exact ev_var rfl) ev_c rv_eqSS)) fun _ _ => trivial) b4 (fun _ H5 x5 b5 => ?_) fun _ H5 x5 b5 => ?_
      · exact s_asg (v := .str (S (t ++ [c]))) (ev_op (by exact ev_var rfl) (by exact ev_var rfl) (rv_catSS (by simp; omega))) fun H6 e6 => ⟨(x4.trans x5).trans (ExB.of e6), b5.ex e6, t ++ [c], _, by rw [e1]; exact ht.append (List.Sublist.refl _), rfl⟩
      · exact ⟨x4.trans x5, b5, t, _, by rw [e1]; exact ht.trans (List.sublist_append_left _ _), rfl⟩
    · rintro σ' H4 ⟨x4, b4, t, v3, ht, rfl⟩
      have ht : t.Sublist SG := by rwa [List.take_length] at ht
      refine q_when (b := decide (t = [])) (et_test (ev_op (by exact ev_var rfl) ev_c rv_eqSS)) (fun hc H5 e5 => ?_) fun hc H5 e5 => ?_
      · exact s_ret ev_c fun H6 e6 => q [46] H6 isSg_3 (x4.trans (ExB.of (e5.trans e6))) ((b4.ex e5).ex e6)
      · exact s_ret (by exact ev_var rfl) fun H6 e6 => q t H6 (sub_sg ht (of_decide_eq_false hc)) (x4.trans (ExB.of (e5.trans e6))) ((b4.ex e5).ex e6)
/-! ### tables drawn -/
structure TBl (H : Hp) (tt a f : Addr) (rs : List Addr) (l : List Nat) (G : List (List Int)) (F : List Int) : Prop where
  t : H tt = some (.tup [.str (S l), .ref a, .ref f])
  a : H a = some (.lst (rs.map V.ref))
  r : Rw .lst H rs G
  f : H f = some (.lst (F.map V.int))
theorem TBl.ex {H H' : Hp} {tt a f : Addr} {rs : List Addr} {l : List Nat} {G : List (List Int)} {F : List Int} (h : TBl H tt a f rs l G F) (e : Ex H H') : TBl H' tt a f rs l G F := ⟨e _ _ h.t, e _ _ h.a, h.r.ex e, e _ _ h.f⟩
def Dr (l : List Nat) (G : List (List Int)) (F : List Int) : Prop := isAr l G = true ∧ F.Pairwise (· < ·) ∧ inF G.length F ∧ G.length ≤ 5 ∧ F.length ≤ 5
theorem row_ok {k n : Nat} {row : List Int} (h1 : row.length = k) (h2 : ∀ x ∈ row, 0 ≤ x ∧ x < (n : Int)) : isRow k n row = true := by
  unfold isRow
  rw [decide_eq_true h1, Bool.true_and, List.all_eq_true]
  intro x hx
  unfold inR
  rw [decide_eq_true (h2 x hx).1, decide_eq_true (h2 x hx).2]
  rfl
theorem ar_of {l : List Nat} {G : List (List Int)} {n : Nat} (hn : 0 < n) (hl : G.length = n) (h : ∀ k, k < n → isRow l.length n (G.getD k []) = true) : isAr l G = true := by
  unfold isAr
  rw [hl, show (decide (n = 0)) = false from decide_eq_false (by omega)]
  refine Bool.and_eq_true_iff.mpr ⟨rfl, List.all_eq_true.mpr fun row hrow => ?_⟩
  obtain ⟨k, hk, e⟩ := List.getElem_of_mem hrow
  have := h k (by omega)
  rw [List.getD_eq_getElem?_getD, List.getElem?_eq_getElem hk] at this
  rw [← e]
  exact this
def sp_law_tables (K : PySem.W.Frag) : Sp := fun vs H Q _ => ∃ (b : Addr) (l : List Nat), vs = [.ref b, .str (S l)] ∧ Bx H b ∧ l.length ≤ 100 ∧ ∀ tt a f rs G F H', Dr l G F → (∀ x, x = tt ∨ x = a ∨ x = f ∨ x ∈ rs → x ≠ b) → TBl H' tt a f rs l G F → ExB b H H' → Bx H' b → Q (.ref tt) H'
theorem app_R {σ : L2.St} {H : Hp} {l b : Addr} {xs : List V} {i : Nat} {te : TE} {D : Ends} {Pr : List Int → Prop} (hv : σ[i]? = some (some (.ref l))) (hl : H l = some (.lst xs)) (hlb : l ≠ b) (hb : Bx H b) (hz : xs.length < 100000) (h : EvRB b te σ H Pr) (k : ∀ p row H2, H p = none → ExB b H H2 → Bx H2 b → H2 p = some (.lst (row.map V.int)) → Pr row → D.nx σ (upd H2 l (.lst (xs ++ [.ref p])))) : tDrop (tBM K "list" rAppend (tVar i) (tCons te tNil)) D σ H :=
  ⟨_, hv, Or.inl ⟨rfl, xs, sq_of hl⟩, h H (ExB.refl H) hb _ fun p row H2 hp e2 b2 h2 hr => ⟨l, xs, .ref p, rfl, rfl, e2 l _ hlb hl, sz_lt hz, k p row H2 hp e2 b2 h2 hr⟩⟩
theorem ok_law_tables (T : Tx K mg w) : OkD P w K mg base 2 d_law_tables ps_law_tables (sp_law_tables K) := by
  refine (h_law_tables T).ok sc_law_tables (fun vs H Q E h => ?_) (fun cdv A outer s H vs Q E hr h => ⟨_,
      (pss_cons (ps_set (i := 2) sc_law_tables.nd rfl (Or.inr rfl) (pe_op op_add pe_int (pe_call (ok_law_draw (P := P) (w := w) (base := base) T) (hr.mono (by decide)) (by rfl) (m_law_draw T) (k_law_draw T) (b_law_draw T) .nil passN (pa_cons (pv 0) (pa_cons pe_int pa_nil)))))
      (pss_cons (ps_set (i := 3) sc_law_tables.nd rfl (Or.inl rfl) (pe_lst pa_nil))
      (pss_cons (ps_set (i := 4) sc_law_tables.nd rfl (Or.inl rfl) (pe_lst pa_nil))
      (pss_cons (ps_for (passes_of rfl) rfl (pi_range1 rfl (m_range T) (pa_cons (pv 2) pa_nil)) (pg_name (i := 5) sc_law_tables.nd rfl (Or.inl rfl)) (pss_cons (ps_expr (pe_bm PySem.F.plainAttrs_list PySem.F.slot_list_append PySem.F.type_list_append mt_append (pv 3) (pa_cons (pe_lc (own := [("sign", 6)]) (g := gName 6) rfl sc_law_tables.nd (pi_str (pv 1)) (blkOk_by (own := [("sign", 6)]) (N := ns_law_tables) (sc := (defScope st_law_tables)) (by decide +kernel)) (fun _ _ _ _ _ => pg_name (i := 6) sc_law_tables.nd rfl (Or.inl rfl)) (fun _ _ _ _ _ => pts_nil) (fun _ _ _ _ _ => (pe_call (ok_law_draw (P := P) (w := w) (base := base) T) (hr.mono (by decide)) (by rfl) (m_law_draw T) (k_law_draw T) (b_law_draw T) .nil passN (pa_cons (pv 0) (pa_cons (pv 2) pa_nil))))) pa_nil)))
      (pss_one (ps_if (pt_cmpR op_eq (pe_call (ok_law_draw (P := P) (w := w) (base := base) T) (hr.mono (by decide)) (by rfl) (m_law_draw T) (k_law_draw T) (b_law_draw T) .nil passN (pa_cons (pv 0) (pa_cons pe_int pa_nil))) pe_int (nomark _)) (pss_one (ps_expr (pe_bm PySem.F.plainAttrs_list PySem.F.slot_list_append PySem.F.type_list_append mt_append (pv 4) (pa_cons (pv 5) pa_nil)))) pss_nil))))
      (pss_one (ps_ret (pe_tup (pa_cons (pv 1) (pa_cons (pv 3) (pa_cons (pv 4) pa_nil)))))))))), ?_⟩)
  · obtain ⟨b, l, rfl, _⟩ := h
    rfl
  · obtain ⟨b, l, rfl, hb, hl, q⟩ := h
    refine q_asgI' (Pd := fun n => 1 ≤ n ∧ n ≤ 5) (ei_op ei_c (ei_draw (K := K) (many := 5) rfl (fun H => ev_c) (by decide) (by decide)) fun x y hx hy => by subst hx; omega) hb fun n H1 hn x1 b1 => ?_
    obtain ⟨n, rfl⟩ : ∃ k : Nat, n = (k : Int) := ⟨n.toNat, by omega⟩
    try dsimp only [List.set]
    refine q_asgL (el_lst ea_nil (by simp)) fun a H2 ha e2 h2 => ?_
    try dsimp only [List.set]
    refine q_asgL (el_lst ea_nil (by simp)) fun f H3 hf e3 h3 => ?_
    try dsimp only [List.set]
    have ab : a ≠ b := bx_ne b1 ha
    have fb : f ≠ b := bx_ne (b1.ex e2) hf
    have fa : f ≠ a := fun z => by rw [z, h2] at hf; cases hf
    have e23 := e2.trans e3
    have b3 := b1.ex e23
    have x3 := x1.trans (ExB.of e23)
    have aH : H a = none := fresh_b x1 b1 ha
    have fH : H f = none := fresh_b (x1.trans (ExB.of e2)) (b1.ex e2) hf
    refine q_forR1 (n := (n : Int)) (by exact ea_cons (ev_var rfl) ea_nil) (by omega) (fun i σ' H' => ExB b H H' ∧ Bx H' b ∧ ∃ (rs : List Addr) (G : List (List Int)) (F : List Int) (v5 : Option V), H' a = some (.lst (rs.map V.ref)) ∧ Rw .lst H' rs G ∧ G.length = i ∧ (∀ k, k < i → isRow l.length n (G.getD k []) = true) ∧ (∀ r ∈ rs, r ≠ b ∧ r ≠ a ∧ r ≠ f) ∧ H' f = some (.lst (F.map V.int)) ∧ F.Pairwise (· < ·) ∧ (∀ x ∈ F, 0 ≤ x ∧ x < (i : Int)) ∧ F.length ≤ i ∧ σ' = [some (.ref b), some (.str (S l)), some (.int (n : Int)), some (.ref a), some (.ref f), v5, none])
      (fun H4 e4 => ⟨x3.trans (ExB.of e4), b3.ex e4, [], [], [], none, (e3.trans e4) _ _ h2, ⟨rfl, fun k hk => absurd hk (Nat.not_lt_zero _)⟩, rfl, fun k hk => absurd hk (Nat.not_lt_zero _), fun r hr => (by cases hr), e4 _ _ h3, List.Pairwise.nil, fun x hx => (by cases hx), Nat.zero_le _, rfl⟩) ?_ ?_
    · rintro i σ' H4 hi ⟨x4, b4, rs, G, F, v5, h4a, h4r, hGl, hrow, hrs, h4f, hF, hFi, hFl, rfl⟩
      dsimp only [List.set]
      refine q_seq2 (app_R (b := b) (Pr := fun row => row.length = l.length ∧ ∀ x ∈ row, 0 ≤ x ∧ x < (n : Int)) rfl h4a ab b4 (by rw [List.length_map, h4r.len]; omega) (rb_S (fun H => by exact ev_var rfl) (by omega) (fun x => rfl) fun x => ei_draw (K := K) (many := (n : Int)) rfl (fun H => by exact ev_var rfl) (by omega) (Nat.lt_of_le_of_lt (show (n : Int).natAbs ≤ 5 by omega) (by decide))) fun p row H5 hp x5 b5 h5 hr5 => ?_)
      have pb : p ≠ b := bx_ne b4 hp
      have pa : p ≠ a := fun z => by rw [z, h4a] at hp; cases hp
      have pf : p ≠ f := fun z => by rw [z, h4f] at hp; cases hp
      have an : a ∉ rs := fun hm => (hrs a hm).2.1 rfl
      have r5 : Rw .lst H5 rs G := h4r.exB x5 fun r hr => (hrs r hr).1
      have r6 := rw_push (ob := .lst (rs.map V.ref ++ [.ref p])) r5 h5 pa an
      have x6 : ExB b H (upd H5 a (.lst (rs.map V.ref ++ [.ref p]))) := (x4.trans x5).mut aH
      have b6 : Bx (upd H5 a (.lst (rs.map V.ref ++ [.ref p]))) b := b5.put2 ab
      have a6 : upd H5 a (.lst (rs.map V.ref ++ [.ref p])) a = some (.lst ((rs ++ [p]).map V.ref)) := by rw [upd_same, List.map_append]; rfl
      have f6 : upd H5 a (.lst (rs.map V.ref ++ [.ref p])) f = some (.lst (F.map V.int)) := by rw [upd_ne fa]; exact x5 _ _ fb h4f
      generalize upd H5 a (.lst (rs.map V.ref ++ [.ref p])) = H6 at r6 x6 b6 a6 f6 ⊢
      dsimp only
      have hrow2 : ∀ k, k < i + 1 → isRow l.length n ((G ++ [row]).getD k []) = true := fun k hk => by
        rcases Nat.lt_succ_iff_lt_or_eq.mp hk with h | rfl
        · rw [List.getD_eq_getElem?_getD, List.getElem?_append_left (by omega), ← List.getD_eq_getElem?_getD]
          exact hrow k h
        · rw [List.getD_eq_getElem?_getD, List.getElem?_append_right (by omega), hGl, Nat.sub_self]
          exact row_ok hr5.1 hr5.2
      have hrs2 : ∀ r ∈ rs ++ [p], r ≠ b ∧ r ≠ a ∧ r ≠ f := fun r hr => by
        rcases List.mem_append.mp hr with h | h
        · exact hrs r h
        · rw [List.mem_singleton.mp h]
          exact ⟨pb, pa, pf⟩
      have hGl2 : (G ++ [row]).length = i + 1 := by rw [List.length_append, hGl]; rfl
      refine s_whenTI (Pb := fun _ => True) (eti_imp (eti_eq (n := 1) (ei_draw (K := K) (many := 2) rfl (fun H => ev_c) (by decide) (by decide))) fun _ _ => trivial) b6 (fun _ H7 x7 b7 => ?_) fun _ H7 x7 b7 => ?_
      · have r7 := r6.exB x7 fun r hr => (hrs2 r hr).1
        refine s_app (x7 _ _ fb f6) (by exact ev_var rfl) (by exact ev_var rfl) (by rw [List.length_map]; omega) fun H8 e8 => ?_
        refine ⟨(((x6.trans x7).trans (ExB.of e8))).mut fH, (b7.ex e8).put2 fb, rs ++ [p], G ++ [row], F ++ [(i : Int)], some (.int (i : Int)), ?_, ⟨r7.len, fun k hk => ?_⟩, hGl2, hrow2, hrs2, ?_, ?_, ?_, ?_, rfl⟩
        · rw [upd_ne fa.symm]
          exact e8 _ _ (x7 _ _ ab a6)
        · have hm := getD_mem (rs := rs ++ [p]) (k := k) (by rw [r7.len]; exact hk)
          rw [upd_ne (hrs2 _ hm).2.2]
          exact e8 _ _ (r7.row k hk)
        · rw [upd_same, List.map_append]
          rfl
        · refine List.pairwise_append.mpr ⟨hF, List.pairwise_singleton _ _, fun x hx y hy => ?_⟩
          rw [List.mem_singleton.mp hy]
          exact (hFi x hx).2
        · intro x hx
          rcases List.mem_append.mp hx with h | h
          · have := hFi x h
            omega
          · rw [List.mem_singleton.mp h]
            omega
        · rw [List.length_append, List.length_singleton]
          omega
      · have r7 := r6.exB x7 fun r hr => (hrs2 r hr).1
        exact ⟨x6.trans x7, b7, rs ++ [p], G ++ [row], F, _, x7 _ _ ab a6, r7, hGl2, hrow2, hrs2, x7 _ _ fb f6, hF, fun x hx => by have := hFi x hx; omega, by omega, rfl⟩
    · rintro σ' H4 ⟨x4, b4, rs, G, F, v5, h4a, h4r, hGl, hrow, hrs, h4f, hF, hFi, hFl, rfl⟩
      rw [Int.toNat_natCast] at hGl hrow hFi hFl
      refine ret_fst (eu_tup (ea_cons (by exact ev_var rfl) (ea_cons (by exact ev_var rfl) (ea_cons (by exact ev_var rfl) ea_nil))) (by simp) H4 (Ex.refl H4) _ fun tt H5 htt e5 h5 => ?_)
      refine q tt a f rs G F H5 ⟨ar_of (by omega) hGl hrow, hF, fun x hx => by rw [hGl]; exact hFi x hx, by omega, by omega⟩ (fun x hx => ?_) ⟨h5, e5 _ _ h4a, h4r.ex e5, e5 _ _ h4f⟩ (x4.trans (ExB.of e5)) (b4.ex e5)
      rcases hx with rfl | rfl | rfl | hx
      · exact bx_ne b4 htt
      · exact ab
      · exact fb
      · exact (hrs x hx).1

end
end K49
namespace K49
open PySem PySem.Spec PyProof.Rows L2 Lc Evl
section
variable {P : Program} {w : World} {K : PySem.W.Frag} {mg : Str → Option Value} {base : Heap}
theorem rc_isLst {H : Hp} {p : Addr} {xs : List V} (h : H p = some (.lst xs)) : RC (rIsi K) [.ref p, .ty "list"] H (.bl true) := fun H1 e _ q => ⟨.ref p, .ty "list", .type "list", .type "list", true, rfl, .ty _, .base (.lst (e _ _ h)), kit_ty (by decide +kernel), q H1 (Ex.refl H1)⟩
theorem rc_isBl {H : Hp} {b : Bool} : RC (rIsi K) [.bl b, .ty "bool"] H (.bl true) := fun H1 e _ q => ⟨.bl b, .ty "bool", .type "bool", .type "bool", true, rfl, .ty _, .base (.bl _), kit_ty (by decide +kernel), q H1 (Ex.refl H1)⟩
/-! ### rows drawn -/
def sp_law_row (K : PySem.W.Frag) : Sp := fun vs H Q _ => ∃ (b : Addr) (l : List Nat), vs = [.ref b, .str (S l)] ∧ Bx H b ∧ 0 < l.length ∧ l.length ≤ 100 ∧ ∀ (r : List Nat) H', r.length ≤ 60 → (∀ c ∈ r, c ∈ l) → ExB b H H' → Bx H' b → Q (.str (S r)) H'
theorem ok_law_row (T : Tx K mg w) : OkD P w K mg base 2 d_law_row ps_law_row (sp_law_row K) := by
  refine (h_law_row T).ok sc_law_row (fun vs H Q E h => ?_) (fun cdv A outer s H vs Q E hr h => ⟨_,
      (pss_cons (ps_set (i := 2) sc_law_row.nd rfl (Or.inl rfl) (pe_call (ok_law_draw (P := P) (w := w) (base := base) T) (hr.mono (by decide)) (by rfl) (m_law_draw T) (k_law_draw T) (b_law_draw T) .nil passN (pa_cons (pv 0) (pa_cons pe_int pa_nil))))
      (pss_cons (ps_if (pt_cmpR op_eq (pe_call (ok_law_draw (P := P) (w := w) (base := base) T) (hr.mono (by decide)) (by rfl) (m_law_draw T) (k_law_draw T) (b_law_draw T) .nil passN (pa_cons (pv 0) (pa_cons pe_int pa_nil))) pe_int (nomark _)) (pss_one (ps_set (i := 2) sc_law_row.nd rfl (Or.inl rfl) (pe_call (ok_law_draw (P := P) (w := w) (base := base) T) (hr.mono (by decide)) (by rfl) (m_law_draw T) (k_law_draw T) (b_law_draw T) .nil passN (pa_cons (pv 0) (pa_cons pe_int pa_nil))))) pss_nil)
      (pss_one (ps_ret (pe_join pe_str (pe_lc (own := [("k", 3)]) (g := gName 3) rfl sc_law_row.nd (pi_range1 rfl (m_range T) (pa_cons (pv 2) pa_nil)) (blkOk_by (own := [("k", 3)]) (N := ns_law_row) (sc := (defScope st_law_row)) (by decide +kernel)) (fun _ _ _ _ _ => pg_name (i := 3) sc_law_row.nd rfl (Or.inl rfl)) (fun _ _ _ _ _ => pts_nil) (fun _ _ _ _ _ => (pe_ix ix_str (pv 1) (pe_call (ok_law_draw (P := P) (w := w) (base := base) T) (hr.mono (by decide)) (by rfl) (m_law_draw T) (k_law_draw T) (b_law_draw T) .nil passN (pa_cons (pv 0) (pa_cons (pe_callB call_len_str (by rfl) (m_len T) (by decide +kernel) (pa_cons (pv 1) pa_nil)) pa_nil))) (fun _ _ => rfl))))))))), ?_⟩)
  · obtain ⟨b, l, rfl, _⟩ := h
    rfl
  · obtain ⟨b, l, rfl, hb, l0, hl, q⟩ := h
    simp only [k_e]
    refine q_asgI' (ei_draw (K := K) (many := 10) rfl (fun H => ev_c) (by decide) (by decide)) hb fun n0 H1 hn0 x1 b1 => ?_
    try dsimp only [List.set]
    refine q_whenTI1 (Pe := fun n => 0 ≤ n ∧ n ≤ 60) (eti_eq (n := 1) (ei_draw (K := K) (many := 8) rfl (fun H => ev_c) (by decide) (by decide))) (ei_draw (K := K) (many := 41) rfl (fun H => ev_c) (by decide) (by decide)) b1 ⟨n0, rfl, hn0.1, by omega⟩ fun n H2 hn x2 b2 => ?_
    try dsimp only [List.set]
    have hn : 0 ≤ n ∧ n ≤ 60 := by omega
    obtain ⟨n, rfl⟩ : ∃ k : Nat, n = (k : Int) := ⟨n.toNat, by omega⟩
    refine ret_fst (bx_joinC (b := b) (Pc := (· ∈ l)) (fun x => rfl) (ea_cons (by exact ev_var rfl) ea_nil) (fun x => ec_ix (fun H => by exact ev_var rfl) (ei_draw (K := K) (many := (l.length : Int)) rfl (fun H => ev_lenT (by exact ev_var rfl) (by omega)) (by omega) (Nat.lt_of_le_of_lt (show (l.length : Int).natAbs ≤ 100 by omega) (by decide))) (by omega) fun d hd => hd) b2 (by omega) fun cs H3 hl hc x3 b3 => q cs H3 (by omega) hc ((x1.trans x2).trans x3) b3)
/-! ### rows held -/
theorem ev_findS {σ : L2.St} {H : Hp} {to te : TE} {l : List Nat} {c : Nat} (h1 : Ev to σ H (.str (S l))) (h2 : Ev te σ H (.str (S [c]))) (hc : c ∈ l) : Ev (tM1 (fun x xs H Q => ∃ a b, x = .str a ∧ xs = [.str b] ∧ Q (.int (Txt.find a b)) H) to te) σ H (.int ((l.idxOf c : Nat) : Int)) := fun H1 e1 Q q =>
  h1 H1 e1 _ fun H2 e2 => ⟨⟨_, rfl⟩, h2 H2 (e1.trans e2) _ fun H3 e3 => ⟨S l, S [c], rfl, rfl, by rw [find1 hc]; exact q H3 (e2.trans e3)⟩⟩
def sp_law_holds (K : PySem.W.Frag) : Sp := fun vs H Q _ => ∃ (tt a f : Addr) (rs : List Addr) (l : List Nat) (G : List (List Int)) (F : List Int) (r : List Nat), vs = [.ref tt, .str (S r)] ∧ TBl H tt a f rs l G F ∧ isAr l G = true ∧ (∀ c ∈ r, c ∈ l) ∧ r.length ≤ 1000 ∧ l.length ≤ 100 ∧ RetV (.bl (acc l G F r)) H Q
theorem ok_law_holds (T : Tx K mg w) : OkD P w K mg base 1 d_law_holds ps_law_holds (sp_law_holds K) := by
  refine (h_law_holds T).ok sc_law_holds (fun vs H Q E h => ?_) (fun cdv A outer s H vs Q E hr h => ⟨_,
      (pss_cons (ps_set (i := 2) sc_law_holds.nd rfl (Or.inl rfl) pe_int)
      (pss_cons (ps_for (passes_of rfl) rfl (pi_str (pv 1)) (pg_name (i := 3) sc_law_holds.nd rfl (Or.inl rfl)) (pss_one (ps_set (i := 2) sc_law_holds.nd rfl (Or.inl rfl) (pe_ix ix_list (pe_ix ix_list (pe_ix ix_tup (pv 0) pe_int (fun _ _ => rfl)) (pv 2) (fun _ _ => rfl)) (pe_m1 PySem.F.slot_str_find PySem.F.type_str_find mt_find (pe_ix ix_tup (pv 0) pe_int (fun _ _ => rfl)) (pv 3)) (fun _ _ => rfl)))))
      (pss_one (ps_ret (pe_cmpR (show OpR _ _ (rIn K false) from op_in_seq) (pv 2) (pe_ix ix_tup (pv 0) pe_int (fun _ _ => rfl)) (by rfl)))))), ?_⟩)
  · obtain ⟨tt, a, f, rs, l, G, F, r, rfl, _⟩ := h
    rfl
  · obtain ⟨tt, a, f, rs, l, G, F, r, rfl, hT, har, hr, hrl, hll, q⟩ := h
    obtain ⟨g0, gk⟩ := isAr_ok har
    have ix : ∀ {σ : L2.St} {H1 : Hp} {i : Int} {y : V}, Ex H H1 → σ[0]? = some (some (.ref tt)) → atI [V.str (S l), V.ref a, V.ref f] i = some y → Ev (tOp (rIxT K) (tVar 0) (tC (.int i))) σ H1 y := fun e h0 hi => ev_op (ev_var h0) ev_c (rv_ixT (st_of (e _ _ hT.t)) hi)
    refine q_asg (v := .int 0) ev_c fun H1 e1 => ?_
    try dsimp only [List.set]
    refine q_forS (l := r) (by exact ev_var rfl) (fun i σ' H' => Ex H1 H' ∧ ∃ v3, σ' = [some (.ref tt), some (.str (S r)), some (.int (rnn l G 0 (r.take i))), v3])
      (fun H2 e2 => ⟨e2, none, rfl⟩) ?_ ?_
    · rintro i c σ' H2 hi ⟨e2, v3, rfl⟩
      have e12 := e1.trans e2
      obtain ⟨_, hcr, hil⟩ := getD_lt hi
      have hcl := hr c hcr
      have hix := List.idxOf_lt_length_of_mem hcl
      have hst := run_in har (r.take i) 0 (fun d hd => hr d (List.mem_of_mem_take hd)) (by omega) (by omega)
      have hT2 := hT.ex e12
      have hrow := hT2.r.row (rnn l G 0 (r.take i)).toNat (by omega)
      have hgk := gk (rnn l G 0 (r.take i)).toNat (by omega)
      dsimp only [List.set]
      refine s_asg (v := .int ((G.getD (rnn l G 0 (r.take i)).toNat []).getD (l.idxOf c) 0)) (ev_op (ev_op (ix e12 rfl rfl) (by exact ev_var rfl) (rv_ixL (sq_of hT2.a) (atI_ref hst.1 (by rw [hT2.r.len]; exact hst.2)))) (ev_findS (ix e12 rfl rfl) (by exact ev_var rfl) hcl) (rv_ixL (sq_of hrow) (by
        have := atI_int (row := G.getD (rnn l G 0 (r.take i)).toNat []) (i := ((l.idxOf c : Nat) : Int)) (by omega) (by rw [hgk.1]; omega)
        rwa [Int.toNat_natCast] at this))) fun H3 e3 => ⟨e2.trans e3, some (.str (S [c])), ?_⟩
      rw [List.take_add_one, hi, run_app]
      rfl
    · rintro σ' H2 ⟨e2, v3, rfl⟩
      have e12 := e1.trans e2
      rw [List.take_length]
      refine s_ret (v := .bl (acc l G F r)) (ev_is (ev_op (by exact ev_var rfl) (ix e12 rfl rfl) (rv_inL (neg := false) (sq_of (hT.ex e12).f) rfl (flat_F F))) (by rw [if_neg (by decide), inV_F]; rfl)) fun H3 e3 => q H3 (e12.trans e3)
/-! ### pieces told -/
def RetS (ws : List (List Nat)) (H : Hp) (Q : VK) : Prop := ∀ p H', H p = none → Ex H H' → H' p = some (.lst (ws.map fun w => V.str (S w))) → Q (.ref p) H'
theorem atI_lastM {xs : List V} {v : V} : atI (xs ++ [v]) (-1) = some v := atI_last xs v
theorem ixN_last (n : Nat) : ixN (n + 1) (-1) = some n := by
  unfold ixN
  rw [if_neg (by decide), if_pos (by omega)]
  congr 1
  omega
theorem s_setLast {σ : L2.St} {H : Hp} {D : Ends} {te ta tb : TE} {l : Addr} {xs : List V} {v0 v : V} (hl : H l = some (.lst (xs ++ [v0]))) (h : Ev te σ H v) (ho : Ev ta σ H (.ref l)) (hi : Ev tb σ H (.int (-1))) (k : ∀ H1, Ex H H1 → D.nx σ (upd H1 l (.lst (xs ++ [v])))) : tAsg te (gSub ta tb rSetL) D σ H := h H (Ex.refl H) _ fun H1 e1 => ho H1 e1 _ fun H2 e2 => hi H2 (e1.trans e2) _ fun H3 e3 =>
  ⟨l, xs ++ [v0], -1, xs.length, rfl, rfl, ((e1.trans e2).trans e3) l _ hl, by rw [List.length_append, List.length_singleton]; exact ixN_last _, by
    have := k H3 ((e1.trans e2).trans e3)
    rwa [show (xs ++ [v0]).set xs.length v = xs ++ [v] by rw [List.set_append_right _ _ (Nat.le_refl _), Nat.sub_self]; rfl]⟩
theorem sps_last (d : Nat) (l : List Nat) : ∃ ws w, sps d l = ws ++ [w] := ⟨(sps d l).dropLast, (sps d l).getLast (sps_ne l), (List.dropLast_concat_getLast _).symm⟩
def sp_law_due_pieces (K : PySem.W.Frag) : Sp := fun vs H Q _ => ∃ r : List Nat, vs = [.str (S r)] ∧ r.length ≤ 1000 ∧ RetS (sps 35 r) H Q
theorem ok_law_due_pieces (T : Tx K mg w) : OkD P w K mg base 1 d_law_due_pieces ps_law_due_pieces (sp_law_due_pieces K) := by
  refine (h_law_due_pieces T).ok sc_law_due_pieces (fun vs H Q E h => ?_) (fun cdv A outer s H vs Q E hr h => ⟨_,
      (pss_cons (ps_set (i := 1) sc_law_due_pieces.nd rfl (Or.inl rfl) (pe_lst (pa_cons pe_str pa_nil)))
      (pss_cons (ps_for (passes_of rfl) rfl (pi_str (pv 0)) (pg_name (i := 2) sc_law_due_pieces.nd rfl (Or.inl rfl)) (pss_one (ps_if (pt_cmpR op_eq (pv 2) pe_str (nomark _)) (pss_one (ps_expr (pe_bm PySem.F.plainAttrs_list PySem.F.slot_list_append PySem.F.type_list_append mt_append (pv 1) (pa_cons pe_str pa_nil)))) (pss_one (ps_asg (pe_op op_add_str (pe_ix ix_list (pv 1) (pe_un un_neg pe_int) (fun _ _ => rfl)) (pv 2)) (pg_sub (pv 1) (pe_un un_neg pe_int) set_list))))))
      (pss_one (ps_ret (pv 1))))), ?_⟩)
  · obtain ⟨r, rfl, _⟩ := h
    rfl
  · obtain ⟨r, rfl, hr, q⟩ := h
    simp only [k_e, k_wall]
    refine q_asgL (xs := [.str (S [])]) (el_lst (ea_cons ev_c ea_nil) (by simp)) fun a H1 ha e1 h1 => ?_
    try dsimp only [List.set]
    refine q_forS (l := r) (by exact ev_var rfl) (fun i σ' H' => Ex H H' ∧ H' a = some (.lst ((sps 35 (r.take i)).map fun w => V.str (S w))) ∧ ∃ v2, σ' = [some (.str (S r)), some (.ref a), v2])
      (fun H2 e2 => ⟨e1.trans e2, e2 _ _ h1, none, rfl⟩) ?_ ?_
    · rintro i c σ' H2 hi ⟨e2, h2, v2, rfl⟩
      obtain ⟨_, hcr, hil⟩ := getD_lt hi
      have et : r.take (i + 1) = r.take i ++ [c] := by rw [List.take_add_one, hi]; rfl
      have hsl : (sps 35 (r.take i)).length ≤ 1001 := by
        have h3 := sps_len (d := 35) (r.take i)
        rw [List.length_take] at h3
        omega
      have hwl : ∀ w ∈ sps 35 (r.take i), w.length ≤ 1000 := fun w hw => by
        have h3 := (sps_mem (d := 35) _ _ hw).2
        rw [List.length_take] at h3
        omega
      dsimp only [List.set]
      refine s_if (b := decide ([c] = [35])) (et_test (ev_op (by exact ev_var rfl) ev_c rv_eqSS)) (fun hc H3 e3 => ?_) fun hc H3 e3 => ?_
      · obtain rfl : c = 35 := by simpa using hc
        refine s_app (e3 _ _ h2) (by exact ev_var rfl) ev_c (by rw [List.length_map]; omega) fun H4 e4 => ⟨((e2.trans e3).trans e4).mut ha, ?_, _, rfl⟩
        rw [upd_same, et, sps_snoc_d, List.map_append]
        rfl
      · have hc35 : c ≠ 35 := by simpa using hc
        obtain ⟨ws, w, hw⟩ := sps_last 35 (r.take i)
        have hs := sps_snoc hc35 _ ws w hw
        rw [hw, List.map_append] at h2
        have h3 := e3 _ _ h2
        rw [hw, List.length_append, List.length_singleton] at hsl
        have hwl := hwl w (by rw [hw]; simp)
        refine s_setLast (v := .str (S (w ++ [c]))) h3 (ev_op (ev_op (by exact ev_var rfl) (ev_un ev_c ru_neg) (rv_ixL (sq_of h3) atI_lastM)) (by exact ev_var rfl) (rv_catSS (by simp; omega))) (by exact ev_var rfl) (ev_un ev_c ru_neg) fun H4 e4 => ⟨((e2.trans e3).trans e4).mut ha, ?_, _, rfl⟩
        rw [upd_same, et, hs, List.map_append]
        rfl
    · rintro σ' H2 ⟨e2, h2, v2, rfl⟩
      rw [List.take_length] at h2
      exact s_ret (by exact ev_var rfl) fun H3 e3 => q a H3 ha (e2.trans e3) (e3 _ _ h2)
theorem tx_at {ws : List (List Nat)} {i : Nat} (h : i < ws.length) : atI (ws.map fun w => V.str (S w)) (i : Int) = some (.str (S (ws.getD i []))) := by
  have := atI_i (xs := ws.map fun w => V.str (S w)) (i := (i : Int)) (by omega) (by rw [List.length_map]; omega) V.non
  rw [this, Int.toNat_natCast, List.getD_eq_getElem?_getD, List.getElem?_map, List.getD_eq_getElem?_getD, List.getElem?_eq_getElem h]
  rfl
def sp_law_is_pieces (K : PySem.W.Frag) : Sp := fun vs H Q _ => ∃ (p p2 : Addr) (ws : List (List Nat)), vs = [.ref p, .ref p2] ∧ H p = some (.lst (ws.map fun w => V.str (S w))) ∧ H p2 = some (.lst (ws.map fun w => V.str (S w))) ∧ ws.length ≤ 10000 ∧ RetV (.bl true) H Q
theorem ok_law_is_pieces (T : Tx K mg w) : OkD P w K mg base 1 d_law_is_pieces ps_law_is_pieces (sp_law_is_pieces K) := by
  refine (h_law_is_pieces T).ok sc_law_is_pieces (fun vs H Q E h => ?_) (fun cdv A outer s H vs Q E hr h => ⟨_,
      (pss_cons (ps_if (PW.pt (pw_or (pt_not (pt_val (pe_callB call_isi (by rfl) (m_isinstance T) (by decide +kernel) (pa_cons (pv 0) (pa_cons (pe_bltn (v := .ty "list") (u := .type "list") (by rfl) (m_list T) (by decide +kernel) rfl) pa_nil))))) (pw_or1 (pt_cmpR op_ne (pe_callB call_len (by rfl) (m_len T) (by decide +kernel) (pa_cons (pv 0) pa_nil)) (pe_callB call_len (by rfl) (m_len T) (by decide +kernel) (pa_cons (pv 1) pa_nil)) (nomark _))))) (pss_one (ps_ret pe_bl)) pss_nil)
      (pss_cons (ps_for (passes_of rfl) rfl (pi_range1 rfl (m_range T) (pa_cons (pe_callB call_len (by rfl) (m_len T) (by decide +kernel) (pa_cons (pv 1) pa_nil)) pa_nil)) (pg_name (i := 2) sc_law_is_pieces.nd rfl (Or.inl rfl)) (pss_one (ps_if (PW.pt (pw_or (pt_not (pt_val (pe_callB call_isi (by rfl) (m_isinstance T) (by decide +kernel) (pa_cons (pe_ix ix_list (pv 0) (pv 2) (fun _ _ => rfl)) (pa_cons (pe_bltn (v := .ty "str") (u := .type "str") (by rfl) (m_str T) (by decide +kernel) rfl) pa_nil))))) (pw_or1 (pt_cmpR op_ne (pe_ix ix_list (pv 0) (pv 2) (fun _ _ => rfl)) (pe_ix ix_list (pv 1) (pv 2) (fun _ _ => rfl)) (nomark _))))) (pss_one (ps_ret pe_bl)) pss_nil)))
      (pss_one (ps_ret pe_bl)))), ?_⟩)
  · obtain ⟨p, p2, ws, rfl, _⟩ := h
    rfl
  · obtain ⟨p, p2, ws, rfl, hp, hp2, hl, q⟩ := h
    have ll : ∀ {H1 : Hp} {p : Addr}, H1 p = some (.lst (ws.map fun w => V.str (S w))) → RC (fun xs H Q => ∃ x n, xs = [x] ∧ LenV K x H n ∧ Q (.int n) H) [.ref p] H1 (.int (ws.length : Nat)) := fun h => by
      have h2 := rc_lenL (K := K) (sq_of (K := K) h)
      rwa [List.length_map] at h2
    refine q_when (b := !true || !decide ((ws.length : Int) = (ws.length : Int))) (et_or (et_not (et_B (ev_cb (ea_cons (by exact ev_var rfl) (ea_cons ev_c ea_nil)) (rc_isLst hp)))) fun _ => et_test (ev_op (ev_cb (ea_cons (by exact ev_var rfl) ea_nil) (ll hp)) (ev_cb (ea_cons (by exact ev_var rfl) ea_nil) (ll hp2)) rv_neII)) (fun hb => by simp at hb) fun _ H1 e1 => ?_
    refine q_forR1 (n := (ws.length : Int)) (ea_cons (ev_cb (ea_cons (by exact ev_var rfl) ea_nil) (ll (e1 _ _ hp2))) ea_nil) (by omega) (fun i σ' H' => Ex H H' ∧ ∃ v2, σ' = [some (.ref p), some (.ref p2), v2])
      (fun H2 e2 => ⟨e1.trans e2, none, rfl⟩) ?_ ?_
    · rintro i σ' H2 hi ⟨e2, v2, rfl⟩
      have hi2 : i < ws.length := by omega
      dsimp only [List.set]
      refine s_when (b := !true || !decide (ws.getD i [] = ws.getD i [])) (et_or (et_not (et_B (ev_cb (ea_cons (ev_op (by exact ev_var rfl) (by exact ev_var rfl) (rv_ixL (sq_of (e2 _ _ hp)) (tx_at hi2))) (ea_cons ev_c ea_nil)) rc_isStr))) fun _ => et_test (ev_op (ev_op (by exact ev_var rfl) (by exact ev_var rfl) (rv_ixL (sq_of (e2 _ _ hp)) (tx_at hi2))) (ev_op (by exact ev_var rfl) (by exact ev_var rfl) (rv_ixL (sq_of (e2 _ _ hp2)) (tx_at hi2))) rv_neSS)) (fun hb => by simp at hb) fun _ H3 e3 => ⟨e2.trans e3, _, rfl⟩
    · rintro σ' H2 ⟨e2, v2, rfl⟩
      exact s_ret ev_c fun H3 e3 => q H3 (e2.trans e3)
theorem bl_at {bs : List Bool} {i : Nat} (h : i < bs.length) : atI (bs.map V.bl) (i : Int) = some (.bl (bs.getD i false)) := by
  have := atI_i (xs := bs.map V.bl) (i := (i : Int)) (by omega) (by rw [List.length_map]; omega) V.non
  rw [this, Int.toNat_natCast, List.getD_eq_getElem?_getD, List.getElem?_map, List.getD_eq_getElem?_getD, List.getElem?_eq_getElem h]
  rfl
def sp_law_is_truths (K : PySem.W.Frag) : Sp := fun vs H Q _ => ∃ (p p2 : Addr) (bs : List Bool), vs = [.ref p, .ref p2] ∧ H p = some (.lst (bs.map V.bl)) ∧ H p2 = some (.lst (bs.map V.bl)) ∧ bs.length ≤ 10000 ∧ RetV (.bl true) H Q
theorem ok_law_is_truths (T : Tx K mg w) : OkD P w K mg base 1 d_law_is_truths ps_law_is_truths (sp_law_is_truths K) := by
  refine (h_law_is_truths T).ok sc_law_is_truths (fun vs H Q E h => ?_) (fun cdv A outer s H vs Q E hr h => ⟨_,
      (pss_cons (ps_if (PW.pt (pw_or (pt_not (pt_val (pe_callB call_isi (by rfl) (m_isinstance T) (by decide +kernel) (pa_cons (pv 0) (pa_cons (pe_bltn (v := .ty "list") (u := .type "list") (by rfl) (m_list T) (by decide +kernel) rfl) pa_nil))))) (pw_or1 (pt_cmpR op_ne (pe_callB call_len (by rfl) (m_len T) (by decide +kernel) (pa_cons (pv 0) pa_nil)) (pe_callB call_len (by rfl) (m_len T) (by decide +kernel) (pa_cons (pv 1) pa_nil)) (nomark _))))) (pss_one (ps_ret pe_bl)) pss_nil)
      (pss_cons (ps_for (passes_of rfl) rfl (pi_range1 rfl (m_range T) (pa_cons (pe_callB call_len (by rfl) (m_len T) (by decide +kernel) (pa_cons (pv 1) pa_nil)) pa_nil)) (pg_name (i := 2) sc_law_is_truths.nd rfl (Or.inl rfl)) (pss_one (ps_if (PW.pt (pw_or (pt_not (pt_val (pe_callB call_isi (by rfl) (m_isinstance T) (by decide +kernel) (pa_cons (pe_ix ix_list (pv 0) (pv 2) (fun _ _ => rfl)) (pa_cons (pe_bltn (v := .ty "bool") (u := .type "bool") (by rfl) (m_bool T) (by decide +kernel) rfl) pa_nil))))) (pw_or1 (pt_cmpR op_ne (pe_ix ix_list (pv 0) (pv 2) (fun _ _ => rfl)) (pe_ix ix_list (pv 1) (pv 2) (fun _ _ => rfl)) (nomark _))))) (pss_one (ps_ret pe_bl)) pss_nil)))
      (pss_one (ps_ret pe_bl)))), ?_⟩)
  · obtain ⟨p, p2, bs, rfl, _⟩ := h
    rfl
  · obtain ⟨p, p2, bs, rfl, hp, hp2, hl, q⟩ := h
    have ll : ∀ {H1 : Hp} {p : Addr}, H1 p = some (.lst (bs.map V.bl)) → RC (fun xs H Q => ∃ x n, xs = [x] ∧ LenV K x H n ∧ Q (.int n) H) [.ref p] H1 (.int (bs.length : Nat)) := fun h => by
      have h2 := rc_lenL (K := K) (sq_of (K := K) h)
      rwa [List.length_map] at h2
    refine q_when (b := !true || !decide ((bs.length : Int) = (bs.length : Int))) (et_or (et_not (et_B (ev_cb (ea_cons (by exact ev_var rfl) (ea_cons ev_c ea_nil)) (rc_isLst hp)))) fun _ => et_test (ev_op (ev_cb (ea_cons (by exact ev_var rfl) ea_nil) (ll hp)) (ev_cb (ea_cons (by exact ev_var rfl) ea_nil) (ll hp2)) rv_neII)) (fun hb => by simp at hb) fun _ H1 e1 => ?_
    refine q_forR1 (n := (bs.length : Int)) (ea_cons (ev_cb (ea_cons (by exact ev_var rfl) ea_nil) (ll (e1 _ _ hp2))) ea_nil) (by omega) (fun i σ' H' => Ex H H' ∧ ∃ v2, σ' = [some (.ref p), some (.ref p2), v2])
      (fun H2 e2 => ⟨e1.trans e2, none, rfl⟩) ?_ ?_
    · rintro i σ' H2 hi ⟨e2, v2, rfl⟩
      have hi2 : i < bs.length := by omega
      dsimp only [List.set]
      refine s_when (b := !true || !decide (V.bl (bs.getD i false) = V.bl (bs.getD i false))) (et_or (et_not (et_B (ev_cb (ea_cons (ev_op (by exact ev_var rfl) (by exact ev_var rfl) (rv_ixL (sq_of (e2 _ _ hp)) (bl_at hi2))) (ea_cons ev_c ea_nil)) rc_isBl))) fun _ => et_test (ev_op (ev_op (by exact ev_var rfl) (by exact ev_var rfl) (rv_ixL (sq_of (e2 _ _ hp)) (bl_at hi2))) (ev_op (by exact ev_var rfl) (by exact ev_var rfl) (rv_ixL (sq_of (e2 _ _ hp2)) (bl_at hi2))) (rv_ne rfl))) (fun hb => by simp at hb) fun _ H3 e3 => ⟨e2.trans e3, _, rfl⟩
    · rintro σ' H2 ⟨e2, v2, rfl⟩
      exact s_ret ev_c fun H3 e3 => q H3 (e2.trans e3)

end
end K49
namespace L2N
open PySem PySem.Spec PyProof.Rows L2
/-! ### several clauses, each with a name for what it catches -/
/-- what the clauses wish of an exception, one after the other: the second of each is the slot of its name -/
def wAsM (K : PySem.W.Frag) (Wout : WX) (D : Ends) : List (Value × Nat × (Addr → Value → Option Addr → TS)) → WX
  | [] => Wout
  | (c, i, ts) :: r => fun cls d σ H => ∃ b, PySem.W.exmOne K cls c = some b ∧
      (b = true → ∀ a, H a = none → ts a cls d { nx := fun σ' H' => D.nx (σ'.set i none) H', rt := D.rt, bk := fun σ' H' => D.bk (σ'.set i none) H', ct := fun σ' H' => D.ct (σ'.set i none) H' } (σ.set i (some (.ref a))) H) ∧
      (b = false → wAsM K Wout D r cls d σ H)
inductive HdsAs (X : Cx) : List ExceptHandler → List (Value × Nat × (Addr → Value → Option Addr → TS)) → Prop
  | nil : HdsAs X [] []
  | cons {x n : Str} {i : Nat} {c : Value} {ts : Addr → Value → Option Addr → TS} {b₀ : Stmt} {suite : List Stmt} {np pos' : Pos} {hds : List ExceptHandler} {l : List (Value × Nat × (Addr → Value → Option Addr → TS))}
      (hi : X.N[i]? = some n) (hln : X.env.kindOf n = some .local) (hc : Names X x c)
      (hsu : ∀ (a : Addr) (oe : Obj) (cls : Value) (d : Option Addr) (pn : List (Addr × Obj)), Zn cls d oe → (∃ vs, oe.data = .fields vs) → PSs (X.suite a ((a, oe) :: pn)) (b₀ :: suite) (ts a cls d)) (r : HdsAs X hds l) :
      HdsAs X (.ExceptHandler (some (.Name x np)) (some n) (b₀ :: suite) pos' :: hds) ((c, i, ts) :: l)
section
variable {X : Cx} {body : List Stmt} {h₀ : ExceptHandler} {hds : List ExceptHandler} {l : List (Value × Nat × (Addr → Value → Option Addr → TS))} {pos : Pos} {tb : WX → TS} {Wout : WX}
theorem ps_try_asMany (hs : X.stack = X.env :: X.outer) (hf : X.env.frame = some X.env.locals) (hN : X.N.Nodup) (tk : Takes X Wout)
    (hb : ∀ (W : WX) (pn : List (Addr × Obj)) (xe : Value → Shared → Prop), Takes (X.tr pn xe) W → PassesOwn (model X.prog X.w) X.A X.env xe → PSs (X.tr pn xe) body (tb W))
    (hh : HdsAs X (h₀ :: hds) l) : PS X (.Try body (h₀ :: hds) [] [] pos) (fun D σ H => tb (wAsM X.K Wout D l) D σ H) := by
  refine ⟨fun pins s σ H D I h => ?_⟩
  have ok := I.ok
  have hfr : X.A.frames = some (X.env :: X.outer) := by rw [ok.frames, hs]
  refine wpAny_Try_except ?_
  refine wpAny_mono ((hb (wAsM X.K Wout D l) (X.pn ++ pins) (fun e s₁ => wpAny (model X.prog X.w) X.A (noteFrame e X.env) (fun _ s₂ => wpAny (model X.prog X.w) X.A (setFlight e none) (fun _ s₃ =>
    wpAny (model X.prog X.w) X.A (handleBy e X.env (h₀ :: hds)) (SP X pins D) X.xe s₃) X.xe s₂) X.xe s₁) (fun u s' xx => ?_) PassesOwn.looking).run [] s σ H D (I.toTry _) h) (fun f s1 hsp => ?_) (fun e s1 he => he)
  · -- the catch
    obtain ⟨a, B, sI, pins', σ', H', cls, d, rfl, J', nb, up, sky, na, os, ag, w⟩ := xx
    have J : Inv X pins σ' H' sI := J'.ofTry ok
    have sky' : Sky B (X.env :: X.outer) a (Zn cls d) X.env.locals s'.heap := by rw [← hs]; exact sky
    show wpAny (model X.prog X.w) X.A (noteFrame (.ref a) X.env) _ _ _
    refine Sky.land Zn.steady hfr hf sky' fun h3 fl3 up3 => ?_
    have J3 : Inv X pins σ' H' { s' with heap := h3 } := J.landed nb fl3.1 (up.trans up3) os ag
    obtain ⟨oe3, vs3, he3, hz3, hd3⟩ := fl3.there
    have notFr : ∀ {h : Heap} {o : Obj} {vs : Array Value}, h.FunFrames B (X.env :: X.outer) → h.get? a = some o → o.data = .fields vs → a ∉ frs (X.env :: X.outer) := fun {h o vs} ff e dd hm => by
      obtain ⟨_, o', e', hnf⟩ := ff.mem hm
      rw [e] at e'; cases e'
      exact hnf _ dd
    have nfr := notFr fl3.2.2.1 he3 hd3
    have nL : a ≠ X.env.locals := fun z => nfr (List.mem_filterMap.mpr ⟨X.env, List.mem_cons_self, by rw [hf, z]⟩)
    have nF : a ∉ X.fs := fun hm => by
      obtain ⟨e, he, q⟩ := List.mem_filterMap.mp hm
      exact nfr (List.mem_filterMap.mpr ⟨e, List.mem_cons_of_mem _ he, q⟩)
    have S3 := J3.suite he3 hd3 na nL nF
    have go : ∀ {hds' : List ExceptHandler} {l' : List (Value × Nat × (Addr → Value → Option Addr → TS))}, HdsAs X hds' l' → wAsM X.K Wout D l' cls d σ' H' →
        wpAny (model X.prog X.w) X.A (handleBy (.ref a) X.env hds') (SP X pins D) X.xe { s' with heap := h3 } := by
      intro hds' l' hk
      induction hk with
      | nil =>
        intro w
        refine wpAny_handleBy_nil ?_
        obtain ⟨k1, k2, k3, oe, vs, T, oT, ts', he, hz, hd, h1, hr⟩ := id fl3
        unfold PySem.passOn
        refine wpAny_bind (wpAny_field he hd h1 ?_)
        rw [if_neg (show ¬ ((Value.ref T == Value.none) = true) from by simp)]
        have fin : wpAny (model X.prog X.w) X.A (setFlight (.ref a) X.env.frame) (fun _ s4 => wpAny (model X.prog X.w) X.A (throw (.ref a) : Sem Flow) (SP X pins D) X.xe s4) X.xe { s' with heap := h3 } := by
          rw [hf]
          refine HandSPX.setFlight_upZ fl3 fun h4 hh4 up4 => wpAny_throw (tk _ _ ?_)
          exact ⟨a, B, sI, pins, σ', H', cls, d, rfl, J, nb, (up.trans up3).trans up4, .inr (.inr (by rw [hs]; exact hh4)), na, os, ag, w⟩
        first
          | exact wpAny_bind (wpAny_pure (wpAny_bind fin))
          | exact wpAny_bind fin
      | @cons x n i c ts b₀ suite np pos' hds2 l2 hi hln hc hsu r ih =>
        intro w
        obtain ⟨b, hb1, hyes, hno⟩ := w
        refine wpAny_handleBy_cons (codeAny_handlers_test ?_) (by intro q; cases q)
        have LT : PySem.W.Looks (model X.prog X.w) h3 (typeOf (.ref a)) cls := fun A Q E s k q => wpAny_typeOf_ref (k _ _ he3) (by rw [hz3.1]; exact q)
        have LM := PySem.W.exm_one (M := model X.prog X.w) (J3.kIn) LT hb1
        have test : ∀ {Q : Value → Shared → Prop} {E : Value → Shared → Prop}, Q c { s' with heap := h3 } → wpAny (model X.prog X.w) (X.A.mark (some (.ref a))) (eval (.Name x np) X.env) Q E { s' with heap := h3 } := fun {Q E} q => by
          obtain ⟨hg, hdbg, hm | ⟨hm, hv, hnn⟩⟩ := hc
          · exact ld_glob (X := X.suite a ((a, oe3) :: (X.pn ++ pins))) S3 hg hm q hdbg
          · exact ld_blt (X := X.suite a ((a, oe3) :: (X.pn ++ pins))) S3 hg hm hv q hnn hdbg
        refine test (LM.here ?_)
        cases b with
        | true =>
          refine codeAny_handlers_suite_as ?_
          refine HandSPX.lands_againZ fl3 fun h4 fl4 up4 => ?_
          have J4 : Inv X pins σ' H' { s' with heap := h4 } := J.landed nb fl4.1 ((up.trans up3).trans up4) os ag
          obtain ⟨oe4, vs4, he4, hz4, hd4⟩ := fl4.there
          have S4 := J4.suite he4 hd4 na nL nF
          have hloc : Loc X.env.scope n := .inl hln
          refine store_ok (X := X.suite a ((a, oe4) :: (X.pn ++ pins))) (v := .ref a) S4 hN hi hloc rfl (fun s5 S5 => ?_) (.inr hln)
          refine wpAny_mono ((hsu a oe4 cls d (X.pn ++ pins) hz4 ⟨_, hd4⟩).run [] s5 _ H' _ S5 (hyes rfl a na)) (fun f s6 hsp => ?_) (fun _ _ z => False.elim z)
          have end_ : ∀ {σ6 : St} {H6 : Hp} {Q : Shared → Prop}, Inv (X.suite a ((a, oe4) :: (X.pn ++ pins))) [] σ6 H6 s6 → (∀ s7, Inv X pins (σ6.set i none) H6 s7 → Q s7) →
              wpAny (model X.prog X.w) X.A (do bindName X.env n .none; unbindBehindTheSuite X.env n pos') (fun _ s7 => Q s7) X.xe s6 := fun {σ6 H6 Q} S6 hq => gone_ok (S6.unsuite ok) hN hi hln hq
          cases f with
          | next =>
            obtain ⟨σ6, H6, S6, q6⟩ := hsp
            exact end_ S6 fun s7 J7 => ⟨_, _, J7, q6⟩
          | brk =>
            obtain ⟨σ6, H6, S6, q6⟩ := hsp
            exact end_ S6 fun s7 J7 => ⟨_, _, J7, q6⟩
          | cont =>
            obtain ⟨σ6, H6, S6, q6⟩ := hsp
            exact end_ S6 fun s7 J7 => ⟨_, _, J7, q6⟩
          | ret u =>
            obtain ⟨v6, σ6, H6, S6, r6, q6⟩ := hsp
            exact end_ S6 fun s7 J7 => ⟨_, _, _, J7, r6, q6⟩
        | false =>
          show wpAny _ X.A (handleBy (.ref a) X.env hds2) _ _ _
          exact ih (hno rfl)
    exact go hh w
  · cases f with
    | next =>
      obtain ⟨σ', H', J', q⟩ := hsp
      exact wpAny_execs_nil ⟨σ', H', J'.ofTry ok, q⟩
    | brk =>
      obtain ⟨σ', H', J', q⟩ := hsp
      exact ⟨σ', H', J'.ofTry ok, q⟩
    | cont =>
      obtain ⟨σ', H', J', q⟩ := hsp
      exact ⟨σ', H', J'.ofTry ok, q⟩
    | ret u =>
      obtain ⟨v, σ', H', J', r, q⟩ := hsp
      exact ⟨v, σ', H', J'.ofTry ok, r, q⟩
end
end L2N
namespace K49
open PySem PySem.Spec PyProof.Rows L2 Lc Evl
section
variable {P : Program} {w : World} {K : PySem.W.Frag} {mg : Str → Option Value} {base : Heap}
/-! ### what is refused, and how -/
theorem rc_isG (H : Hp) {c f : Str} {a d : Addr} {x : V} {cv : V} {u : Value} {bb : Bool} (hd : H d = some (.xd [(f, x)])) (hc : ClsV cv u) (hk : PySem.W.kitOne K (.ref (He.ga K c)) u = some bb) : RC (rIsG K (He.ga K c) a (.ref (He.ga K c)) (some d)) [.ref a, cv] H (.bl bb) := fun H1 e Q q => ⟨cv, u, bb, d, _, rfl, hc, rfl, rfl, e _ _ hd, hk, q H1 (Ex.refl H1)⟩
def RetT (vs : List V) (H : Hp) (Q : VK) : Prop := ∀ p H', H p = none → Ex H H' → H' p = some (.tup vs) → Q (.ref p) H'
theorem RetT.go {vs : List V} {H H1 : Hp} {σ : L2.St} {ta : TA} {Q : VK} (q : RetT vs H Q) (e : Ex H H1) (h : EvA ta σ H1 vs) (hl : vs.length ≤ 100000) : tTup ta σ H1 Q :=
  eu_tup h hl H1 (Ex.refl H1) _ fun p H2 hp e2 h2 => q p H2 (fresh_back e hp) (e.trans e2) h2
theorem ev_xf {σ : L2.St} {H : Hp} {te : TE} {a d C : Addr} {f : Str} {x : V} (h : Ev te σ H (.ref a)) (hd : H d = some (.xd [(f, x)])) : Ev (tXf a (.ref C) (some d) C f te) σ H x := fun H1 e Q q => h H1 e _ fun H2 e2 => ⟨rfl, rfl, d, _, x, rfl, e2 _ _ (e _ _ hd), by simp [List.lookup], q H2 e2⟩
theorem isl {σ : L2.St} {H : Hp} {i : Nat} {c f : Str} {a d : Addr} {x : V} {cv : V} {u : Value} {bb : Bool} (hv : σ[i]? = some (some (.ref a))) (hd : H d = some (.xd [(f, x)])) (hc : ClsV cv u) (hk : PySem.W.kitOne K (.ref (He.ga K c)) u = some bb) : Ev (tCB (rIsG K (He.ga K c) a (.ref (He.ga K c)) (some d)) (tCons (tVar i) (tCons (tC cv) tNil))) σ H (.bl bb) :=
  ev_cb (ea_cons (ev_var hv) (ea_cons ev_c ea_nil)) (rc_isG _ hd hc hk)
def sp_law_pieces_fault (K : PySem.W.Frag) : Sp := fun vs H Q _ => ∃ l : List Nat, vs = [.str (S l)] ∧ Row l ∧ ¬ Good l ∧ RetT [.str (S l), .bl true] H Q
theorem ok_law_pieces_fault (T : Tx K mg w) : OkD P w K mg base 5 d_law_pieces_fault ps_law_pieces_fault (sp_law_pieces_fault K) := by
  refine (h_law_pieces_fault T).ok sc_law_pieces_fault (fun vs H Q E h => ?_) (fun cdv A outer s H vs Q E hr h => ⟨_,
      (pss_cons (L2N.ps_try_as (i := 1) (Wout := fun _ _ _ _ => False) rfl rfl sc_law_pieces_fault.nd rfl rfl ⟨rfl, by decide, Or.inl (m_InvalidRow T)⟩ takes0N
        (fun W pn xe tk _ => pss_one (ps_expr (pe_callSD (ok_pieces (P := P) (w := w) (base := base) T) (hr.mono (by decide)) (by rfl) (m_pieces T) (k_pieces T) (b_pieces T) .nil (fun σ => L2N.passAt tk σ) (pa_cons (pv 0) pa_nil))))
        (fun a oe cls d pn hz hf => pss_cons (ps_set (i := 2) sc_law_pieces_fault.nd rfl (Or.inl rfl) (pe_and (pe_callB (call_isG (D := He.ga K "InvalidRow") (exc_InvalidRow T) hz.zc hf) (by rfl) (m_isinstance T) (by decide +kernel) (pa_cons (pv 1) (pa_cons (pe_glob (v := .ref (He.ga K "LeapError")) rfl (m_LeapError T) rfl) pa_nil))) (pe_and (pe_callB (call_isG (D := He.ga K "InvalidRow") (exc_InvalidRow T) hz.zc hf) (by rfl) (m_isinstance T) (by decide +kernel) (pa_cons (pv 1) (pa_cons (pe_bltn (v := .ty "ValueError") (u := .type "ValueError") (by rfl) (m_ValueError T) (by decide +kernel) rfl) pa_nil))) (pe_one (pe_not (pe_callB (call_isG (D := He.ga K "InvalidRow") (exc_InvalidRow T) hz.zc hf) (by rfl) (m_isinstance T) (by decide +kernel) (pa_cons (pv 1) (pa_cons (pe_glob (v := .ref (He.ga K "InvalidPlace")) rfl (m_InvalidPlace T) rfl) pa_nil))))))))
          (pss_one (ps_ret (pe_tup (pa_cons (pe_xf (x_InvalidRow T).xf (x_InvalidRow T).no hz.zc hf (pv 1)) (pa_cons (pv 2) pa_nil)))))))
      (pss_one (ps_ret (pe_tup (pa_cons pe_str (pa_cons pe_bl pa_nil)))))), ?_⟩)
  · obtain ⟨l, rfl, _⟩ := h
    rfl
  · obtain ⟨l, rfl, hl, hg, q⟩ := h
    refine ⟨_, rfl, l, rfl, hl, fun h => absurd h hg, fun _ d H1 hd e1 hxd => ?_⟩
    refine ⟨true, exm_InvalidRow_InvalidRow T, fun _ a ha => ?_, fun z => by cases z⟩
    dsimp only [List.set]
    refine q_asg (v := .bl (true && (true && !false))) (ev_andV (isl rfl hxd (.own _) (kit_InvalidRow_LeapError T)) fun _ => ev_andV (isl rfl hxd (.ty _) (kitV_InvalidRow T)) fun _ => ev_notV (isl rfl hxd (.own _) (kit_InvalidRow_InvalidPlace T))) fun H2 e2 => ?_
    exact ret_fst (q.go (e1.trans e2) (ea_cons (ev_xf (ev_var rfl) (e2 _ _ hxd)) (ea_cons (by exact ev_var rfl) ea_nil)) (by simp))
def sp_law_gap_fault (K : PySem.W.Frag) : Sp := fun vs H Q _ => ∃ (l : List Nat) (g : Int), vs = [.str (S l), .int g] ∧ Row l ∧ g.natAbs.log2 < 1900 ∧ (Good l → okG l g = false ∧ RetT [.str "place", .int g, .bl true] H Q) ∧ (¬ Good l → RetT [.str "row", .str (S l), .bl true] H Q)
theorem ok_law_gap_fault (T : Tx K mg w) : OkD P w K mg base 5 d_law_gap_fault ps_law_gap_fault (sp_law_gap_fault K) := by
  refine (h_law_gap_fault T).ok sc_law_gap_fault (fun vs H Q E h => ?_) (fun cdv A outer s H vs Q E hr h => ⟨_,
      (pss_cons (L2N.ps_try_asMany (Wout := fun _ _ _ _ => False) rfl rfl sc_law_gap_fault.nd takes0N
        (fun W pn xe tk _ => pss_one (ps_expr (pe_callSD (ok_walled (P := P) (w := w) (base := base) T) (hr.mono (by decide)) (by rfl) (m_walled T) (k_walled T) (b_walled T) .nil (fun σ => L2N.passAt tk σ) (pa_cons (pv 0) (pa_cons (pv 1) pa_nil)))))
        (L2N.HdsAs.cons (i := 2) rfl rfl ⟨rfl, by decide, Or.inl (m_InvalidRow T)⟩ (fun a oe cls d pn hz hf => pss_cons (ps_set (i := 3) sc_law_gap_fault.nd rfl (Or.inl rfl) (pe_and (pe_callB (call_isG (D := He.ga K "InvalidRow") (exc_InvalidRow T) hz.zc hf) (by rfl) (m_isinstance T) (by decide +kernel) (pa_cons (pv 2) (pa_cons (pe_glob (v := .ref (He.ga K "LeapError")) rfl (m_LeapError T) rfl) pa_nil))) (pe_and (pe_callB (call_isG (D := He.ga K "InvalidRow") (exc_InvalidRow T) hz.zc hf) (by rfl) (m_isinstance T) (by decide +kernel) (pa_cons (pv 2) (pa_cons (pe_bltn (v := .ty "ValueError") (u := .type "ValueError") (by rfl) (m_ValueError T) (by decide +kernel) rfl) pa_nil))) (pe_one (pe_not (pe_callB (call_isG (D := He.ga K "InvalidRow") (exc_InvalidRow T) hz.zc hf) (by rfl) (m_isinstance T) (by decide +kernel) (pa_cons (pv 2) (pa_cons (pe_glob (v := .ref (He.ga K "InvalidPlace")) rfl (m_InvalidPlace T) rfl) pa_nil))))))))
          (pss_one (ps_ret (pe_tup (pa_cons pe_str (pa_cons (pe_xf (x_InvalidRow T).xf (x_InvalidRow T).no hz.zc hf (pv 2)) (pa_cons (pv 3) pa_nil))))))) (L2N.HdsAs.cons (i := 2) rfl rfl ⟨rfl, by decide, Or.inl (m_InvalidPlace T)⟩ (fun a oe cls d pn hz hf => pss_one (ps_ret (pe_tup (pa_cons pe_str (pa_cons (pe_xf (x_InvalidPlace T).xf (x_InvalidPlace T).no hz.zc hf (pv 2)) (pa_cons (pe_and (pe_callB (call_isG (D := He.ga K "InvalidPlace") (exc_InvalidPlace T) hz.zc hf) (by rfl) (m_isinstance T) (by decide +kernel) (pa_cons (pv 2) (pa_cons (pe_glob (v := .ref (He.ga K "LeapError")) rfl (m_LeapError T) rfl) pa_nil))) (pe_one (pe_callB (call_isG (D := He.ga K "InvalidPlace") (exc_InvalidPlace T) hz.zc hf) (by rfl) (m_isinstance T) (by decide +kernel) (pa_cons (pv 2) (pa_cons (pe_bltn (v := .ty "ValueError") (u := .type "ValueError") (by rfl) (m_ValueError T) (by decide +kernel) rfl) pa_nil))))) pa_nil)))))) L2N.HdsAs.nil)))
      (pss_one (ps_ret (pe_tup (pa_cons pe_str (pa_cons pe_str (pa_cons pe_bl pa_nil))))))), ?_⟩)
  · obtain ⟨l, g, rfl, _⟩ := h
    rfl
  · obtain ⟨l, g, rfl, hl, hg2, q1, q2⟩ := h
    refine ⟨_, rfl, _, rfl, l, g, rfl, hl, hg2, fun h hk => (by rw [(q1 h).1] at hk; cases hk), fun h _ d H1 hd e1 hxd => ?_, fun h d H1 hd e1 hxd => ?_⟩
    · refine ⟨false, exm_InvalidPlace_InvalidRow T, (fun z => by cases z), fun _ => ⟨true, exm_InvalidPlace_InvalidPlace T, fun _ a ha => ?_, fun z => by cases z⟩⟩
      dsimp only [List.set]
      exact ret_fst ((q1 h).2.go e1 (ea_cons ev_c (ea_cons (ev_xf (ev_var rfl) hxd) (ea_cons (ev_andV (isl rfl hxd (.own _) (kit_InvalidPlace_LeapError T)) fun _ => isl rfl hxd (.ty _) (kitV_InvalidPlace T)) ea_nil))) (by simp))
    · refine ⟨true, exm_InvalidRow_InvalidRow T, fun _ a ha => ?_, fun z => by cases z⟩
      dsimp only [List.set]
      refine q_asg (v := .bl (true && (true && !false))) (ev_andV (isl rfl hxd (.own _) (kit_InvalidRow_LeapError T)) fun _ => ev_andV (isl rfl hxd (.ty _) (kitV_InvalidRow T)) fun _ => ev_notV (isl rfl hxd (.own _) (kit_InvalidRow_InvalidPlace T))) fun H2 e2 => ?_
      exact ret_fst ((q2 h).go (e1.trans e2) (ea_cons ev_c (ea_cons (ev_xf (ev_var rfl) (e2 _ _ hxd)) (ea_cons (by exact ev_var rfl) ea_nil))) (by simp))
def sp_law_effects_fault (K : PySem.W.Frag) : Sp := fun vs H Q _ => ∃ (o : Addr) (l : List Nat) (G : List (List Int)) (F : List Int) (r : List Nat), vs = [.ref o, .str (S r)] ∧ Mc K H o l G F ∧ r.length ≤ 900 ∧ (∀ c ∈ r, c < 128) ∧
  (35 ∈ l → (¬ ∀ c ∈ r, c ∈ l) ∧ RetT [.str "row", .str (S r), .bl true] H Q) ∧ (35 ∉ l → RetT [.str "machine", .str "signs", .bl true] H Q)
theorem ok_law_effects_fault (T : Tx K mg w) : OkD P w K mg base 7 d_law_effects_fault ps_law_effects_fault (sp_law_effects_fault K) := by
  refine (h_law_effects_fault T).ok sc_law_effects_fault (fun vs H Q E h => ?_) (fun cdv A outer s H vs Q E hr h => ⟨_,
      (pss_cons (L2N.ps_try_asMany (Wout := fun _ _ _ _ => False) rfl rfl sc_law_effects_fault.nd takes0N
        (fun W pn xe tk _ => pss_one (ps_expr (pe_callSD (ok_wall_effects (P := P) (w := w) (base := base) T) (hr.mono (by decide)) (by rfl) (m_wall_effects T) (k_wall_effects T) (b_wall_effects T) .nil (fun σ => L2N.passAt tk σ) (pa_cons (pv 0) (pa_cons (pv 1) pa_nil)))))
        (L2N.HdsAs.cons (i := 2) rfl rfl ⟨rfl, by decide, Or.inl (m_InvalidMachine T)⟩ (fun a oe cls d pn hz hf => pss_cons (ps_set (i := 3) sc_law_effects_fault.nd rfl (Or.inl rfl) (pe_and (pe_callB (call_isG (D := He.ga K "InvalidMachine") (exc_InvalidMachine T) hz.zc hf) (by rfl) (m_isinstance T) (by decide +kernel) (pa_cons (pv 2) (pa_cons (pe_glob (v := .ref (He.ga K "LeapError")) rfl (m_LeapError T) rfl) pa_nil))) (pe_and (pe_callB (call_isG (D := He.ga K "InvalidMachine") (exc_InvalidMachine T) hz.zc hf) (by rfl) (m_isinstance T) (by decide +kernel) (pa_cons (pv 2) (pa_cons (pe_bltn (v := .ty "ValueError") (u := .type "ValueError") (by rfl) (m_ValueError T) (by decide +kernel) rfl) pa_nil))) (pe_one (pe_not (pe_callB (call_isG (D := He.ga K "InvalidMachine") (exc_InvalidMachine T) hz.zc hf) (by rfl) (m_isinstance T) (by decide +kernel) (pa_cons (pv 2) (pa_cons (pe_glob (v := .ref (He.ga K "InvalidRow")) rfl (m_InvalidRow T) rfl) pa_nil))))))))
          (pss_one (ps_ret (pe_tup (pa_cons pe_str (pa_cons (pe_xf (x_InvalidMachine T).xf (x_InvalidMachine T).no hz.zc hf (pv 2)) (pa_cons (pv 3) pa_nil))))))) (L2N.HdsAs.cons (i := 2) rfl rfl ⟨rfl, by decide, Or.inl (m_InvalidRow T)⟩ (fun a oe cls d pn hz hf => pss_one (ps_ret (pe_tup (pa_cons pe_str (pa_cons (pe_xf (x_InvalidRow T).xf (x_InvalidRow T).no hz.zc hf (pv 2)) (pa_cons (pe_and (pe_callB (call_isG (D := He.ga K "InvalidRow") (exc_InvalidRow T) hz.zc hf) (by rfl) (m_isinstance T) (by decide +kernel) (pa_cons (pv 2) (pa_cons (pe_glob (v := .ref (He.ga K "LeapError")) rfl (m_LeapError T) rfl) pa_nil))) (pe_one (pe_callB (call_isG (D := He.ga K "InvalidRow") (exc_InvalidRow T) hz.zc hf) (by rfl) (m_isinstance T) (by decide +kernel) (pa_cons (pv 2) (pa_cons (pe_bltn (v := .ty "ValueError") (u := .type "ValueError") (by rfl) (m_ValueError T) (by decide +kernel) rfl) pa_nil))))) pa_nil)))))) L2N.HdsAs.nil)))
      (pss_one (ps_ret (pe_tup (pa_cons pe_str (pa_cons pe_str (pa_cons pe_bl pa_nil))))))), ?_⟩)
  · obtain ⟨o, l, G, F, r, rfl, _⟩ := h
    rfl
  · obtain ⟨o, l, G, F, r, rfl, hm, hr1, hlow, q1, q2⟩ := h
    refine ⟨_, rfl, _, rfl, o, l, G, F, r, rfl, hm, hr1, hlow, fun h1 h2 => absurd h2 (q1 h1).1, fun h d H1 hd e1 hxd => ?_, fun h _ d H1 hd e1 hxd => ?_⟩
    · refine ⟨true, exm_InvalidMachine_InvalidMachine T, fun _ a ha => ?_, fun z => by cases z⟩
      dsimp only [List.set]
      refine q_asg (v := .bl (true && (true && !false))) (ev_andV (isl rfl hxd (.own _) (kit_InvalidMachine_LeapError T)) fun _ => ev_andV (isl rfl hxd (.ty _) (kitV_InvalidMachine T)) fun _ => ev_notV (isl rfl hxd (.own _) (kit_InvalidMachine_InvalidRow T))) fun H2 e2 => ?_
      exact ret_fst ((q2 h).go (e1.trans e2) (ea_cons ev_c (ea_cons (ev_xf (ev_var rfl) (e2 _ _ hxd)) (ea_cons (by exact ev_var rfl) ea_nil))) (by simp))
    · refine ⟨false, exm_InvalidRow_InvalidMachine T, (fun z => by cases z), fun _ => ⟨true, exm_InvalidRow_InvalidRow T, fun _ a ha => ?_, fun z => by cases z⟩⟩
      dsimp only [List.set]
      exact ret_fst ((q1 h).2.go e1 (ea_cons ev_c (ea_cons (ev_xf (ev_var rfl) hxd) (ea_cons (ev_andV (isl rfl hxd (.own _) (kit_InvalidRow_LeapError T)) fun _ => isl rfl hxd (.ty _) (kitV_InvalidRow T)) ea_nil))) (by simp))

end
end K49
namespace Lc
open PySem PySem.Spec PyProof.Rows L2 Evl
section
variable {K : PySem.W.Frag} {H : Hp}
/-! ### tuples of plain values, beside each other -/
def dat : V → PyData
  | .bl b => .bool b
  | .int i => .int i
  | .str s => .str s
  | _ => .none
def Atm (v : V) : Prop := (∃ b, v = .bl b) ∨ (∃ i, v = .int i) ∨ ∃ l : List Nat, v = .str (S l) ∧ ∀ c ∈ l, c < 128
theorem atm_bl {b : Bool} : Atm (.bl b) := .inl ⟨b, rfl⟩
theorem atm_int {i : Int} : Atm (.int i) := .inr (.inl ⟨i, rfl⟩)
theorem atm_str {l : List Nat} (h : ∀ c ∈ l, c < 128) : Atm (.str (S l)) := .inr (.inr ⟨l, rfl, h⟩)
theorem dp_dat {v : V} (h : Atm v) : Dp K H v (dat v) := by
  rcases h with ⟨b, rfl⟩ | ⟨i, rfl⟩ | ⟨l, rfl, _⟩
  · exact .bl b
  · exact .int i
  · exact .str _
theorem dp_dats : ∀ {vs : List V}, (∀ v ∈ vs, Atm v) → DpAll K H vs (vs.map dat)
  | [], _ => .nil
  | v :: vs, h => .cons (dp_dat (h v List.mem_cons_self)) (dp_dats fun x hx => h x (List.mem_cons_of_mem _ hx))
theorem lay_S {l : List Nat} (h : ∀ c ∈ l, c < 128) : PyData.strOk (S l) = true := by
  show l.toArray.all (fun x => decide (x < 1114112)) = true
  rw [List.all_toArray, List.all_eq_true]
  intro c hc
  have := h c hc
  exact decide_eq_true (by omega)
theorem lay_dat {v : V} (h : Atm v) : (dat v).canLay0 = true ∧ (dat v).depth = 0 ∧ PyData.eqv (dat v) (dat v) = true := by
  rcases h with ⟨b, rfl⟩ | ⟨i, rfl⟩ | ⟨l, rfl, hl⟩
  · exact ⟨rfl, by simp [dat, PyData.depth], by simp [dat, PyData.eqv]⟩
  · exact ⟨rfl, by simp [dat, PyData.depth], by simp [dat, PyData.eqv]⟩
  · exact ⟨by simp [dat, PyData.canLay0, lay_S hl], by simp [dat, PyData.depth], by simp [dat, PyData.eqv]⟩
theorem lay_all : ∀ {ds : List PyData} {n : Nat}, (∀ d ∈ ds, d.canLay0 = true ∧ d.depth ≤ n ∧ PyData.eqv d d = true) → PyData.canLayAll0 ds = true ∧ PyData.depthAll ds ≤ n ∧ PyData.eqvAll ds ds = true
  | [], _, _ => ⟨rfl, by simp [PyData.depthAll], by simp [PyData.eqvAll]⟩
  | d :: ds, n, h => by
    obtain ⟨a1, a2, a3⟩ := h d List.mem_cons_self
    obtain ⟨b1, b2, b3⟩ := lay_all (ds := ds) fun x hx => h x (List.mem_cons_of_mem _ hx)
    refine ⟨?_, ?_, ?_⟩
    · show (PyData.canLay0 d && PyData.canLayAll0 ds) = true
      rw [a1, b1]
      rfl
    · simp only [PyData.depthAll]
      omega
    · simp [PyData.eqvAll, a3, b3]
theorem shpT {ds : List PyData} {n : Nat} (hn : n ≤ 60) (h : ∀ d ∈ ds, d.canLay0 = true ∧ d.depth ≤ n ∧ PyData.eqv d d = true) : SeqAt.shaped (.tuple ds) = true ∧ PyData.eqv (.tuple ds) (.tuple ds) = true := by
  obtain ⟨b1, b2, b3⟩ := lay_all h
  unfold SeqAt.shaped
  rw [Bool.and_eq_true]
  refine ⟨⟨b1, decide_eq_true ?_⟩, ?_⟩
  · simp only [PyData.depth]
    omega
  · simp [PyData.eqv, b3]
theorem dats_ok {vs : List V} (h : ∀ v ∈ vs, Atm v) : ∀ d ∈ vs.map dat, d.canLay0 = true ∧ d.depth ≤ 0 ∧ PyData.eqv d d = true := by
  intro d hd
  obtain ⟨v, hv, rfl⟩ := List.mem_map.mp hd
  obtain ⟨a, b, c⟩ := lay_dat (h v hv)
  exact ⟨a, by omega, c⟩
section
variable {σ : L2.St} {tc tt : TE} {vs : List V}
theorem ne_tup (h1 : EvU tc σ H vs) (h2 : ∀ H1, Ex H H1 → EvU tt σ H1 vs) (ha : ∀ v ∈ vs, Atm v) : Ev (tOp (rNeD K) tc tt) σ H (.bl false) := fun H1 e1 Q q =>
  h1 H1 e1 _ fun t H2 ht e2 g2 => h2 H2 (e1.trans e2) H2 (Ex.refl H2) _ fun t2 H3 ht2 e3 g3 => ⟨_, _, .tup (st_of (e3 _ _ g2)) (dp_dats ha), .tup (st_of g3) (dp_dats ha), (shpT (by decide) (dats_ok ha)).1, (shpT (by decide) (dats_ok ha)).1, by
    rw [(shpT (by decide) (dats_ok ha)).2]
    exact q H3 (e2.trans e3)⟩
theorem eq_tup (h1 : EvU tc σ H vs) (h2 : ∀ H1, Ex H H1 → EvU tt σ H1 vs) (ha : ∀ v ∈ vs, Atm v) : Ev (tOp (rEqD K) tc tt) σ H (.bl true) := fun H1 e1 Q q =>
  h1 H1 e1 _ fun t H2 ht e2 g2 => h2 H2 (e1.trans e2) H2 (Ex.refl H2) _ fun t2 H3 ht2 e3 g3 => ⟨_, _, .tup (st_of (e3 _ _ g2)) (dp_dats ha), .tup (st_of g3) (dp_dats ha), (shpT (by decide) (dats_ok ha)).1, (shpT (by decide) (dats_ok ha)).1, by
    rw [(shpT (by decide) (dats_ok ha)).2]
    exact q H3 (e2.trans e3)⟩
end
end
end Lc
namespace K49
open PySem PySem.Spec PyProof.Rows L2 Lc Evl
section
variable {P : Program} {w : World} {K : PySem.W.Frag} {mg : Str → Option Value} {base : Heap}
/-! ### pieces, walls and refusals, as they should be -/
abbrev txs (r : List Nat) : List V := (sps 35 r).map fun w => V.str (S w)
theorem txs_len {r : List Nat} (h : r.length ≤ 1000) : (sps 35 r).length ≤ 10000 := by
  have := sps_len (d := 35) r
  omega
theorem s_setAt {σ : L2.St} {H : Hp} {D : Ends} {te ta tb : TE} {l : Addr} {xs : List V} {i : Nat} {v : V} (hl : H l = some (.lst xs)) (h : Ev te σ H v) (ho : Ev ta σ H (.ref l)) (hi : Ev tb σ H (.int (i : Int))) (hi2 : i < xs.length) (k : ∀ H1, Ex H H1 → D.nx σ (upd H1 l (.lst (xs.set i v)))) : tAsg te (gSub ta tb rSetL) D σ H := h H (Ex.refl H) _ fun H1 e1 => ho H1 e1 _ fun H2 e2 => hi H2 (e1.trans e2) _ fun H3 e3 =>
  ⟨l, xs, (i : Int), i, rfl, rfl, ((e1.trans e2).trans e3) l _ hl, by unfold ixN; rw [if_pos (by omega)]; rw [if_pos (by omega)]; rfl, k H3 ((e1.trans e2).trans e3)⟩
theorem el_due {σ : L2.St} {H : Hp} {te : TE} {r : List Nat} (h : Ev te σ H (.str (S r))) (hr : r.length ≤ 1000) : EvL (tCall (sp_law_due_pieces K) [] E0 (tCons te tNil)) σ H (txs r) := fun H1 e1 Q q => h H1 e1 _ fun H2 e2 =>
  ⟨r, rfl, hr, fun p H3 hp e3 h3 => q p H3 (fresh_back e2 hp) (e2.trans e3) h3⟩
theorem el_pieces {σ : L2.St} {H : Hp} {te : TE} {r : List Nat} (h : Ev te σ H (.str (S r))) (hr : r.length ≤ 1000) (hg : Good r) : EvL (tCall (sp_pieces K) [] E0 (tCons te tNil)) σ H (txs r) := fun H1 e1 Q q => h H1 e1 _ fun H2 e2 =>
  ⟨r, rfl, ⟨hr, hg.low⟩, fun _ p H3 hp e3 h3 => q p H3 (fresh_back e2 hp) (e2.trans e3) h3, fun h => absurd hg h⟩
theorem ev_isp {σ : L2.St} {H : Hp} {ta tb : TE} {r : List Nat} (h1 : EvL ta σ H (txs r)) (h2 : ∀ H1, Ex H H1 → EvL tb σ H1 (txs r)) (hr : r.length ≤ 1000) : Ev (tCall (sp_law_is_pieces K) [] E0 (tCons ta (tCons tb tNil))) σ H (.bl true) := fun H1 e1 Q q => h1 H1 e1 _ fun p H2 hp e2 g2 => h2 H2 (e1.trans e2) H2 (Ex.refl H2) _ fun p2 H3 hp2 e3 g3 =>
  ⟨p, p2, _, rfl, e3 _ _ g2, g3, txs_len hr, fun H4 e4 => q H4 ((e2.trans e3).trans e4)⟩
theorem ev_ispV {σ : L2.St} {H : Hp} {ta tb : TE} {p : Addr} {r : List Nat} (h1 : EvL ta σ H (txs r)) (h2 : ∀ H1, Ex H H1 → Ev tb σ H1 (.ref p)) (hp : H p = some (.lst (txs r))) (hr : r.length ≤ 1000) : Ev (tCall (sp_law_is_pieces K) [] E0 (tCons ta (tCons tb tNil))) σ H (.bl true) := fun H1 e1 Q q => h1 H1 e1 _ fun p1 H2 hp1 e2 g2 => h2 H2 (e1.trans e2) H2 (Ex.refl H2) _ fun H3 e3 =>
  ⟨p1, p, _, rfl, e3 _ _ g2, ((e1.trans e2).trans e3) _ _ hp, txs_len hr, fun H4 e4 => q H4 ((e2.trans e3).trans e4)⟩
theorem ev_ispVV {σ : L2.St} {H : Hp} {ta tb : TE} {p1 p : Addr} {r : List Nat} (h1 : Ev ta σ H (.ref p1)) (h2 : ∀ H1, Ex H H1 → Ev tb σ H1 (.ref p)) (hp1 : H p1 = some (.lst (txs r))) (hp : H p = some (.lst (txs r))) (hr : r.length ≤ 1000) : Ev (tCall (sp_law_is_pieces K) [] E0 (tCons ta (tCons tb tNil))) σ H (.bl true) := fun H1 e1 Q q => h1 H1 e1 _ fun H2 e2 => h2 H2 (e1.trans e2) H2 (Ex.refl H2) _ fun H3 e3 =>
  ⟨p1, p, _, rfl, ((e1.trans e2).trans e3) _ _ hp1, ((e1.trans e2).trans e3) _ _ hp, txs_len hr, fun H4 e4 => q H4 ((e2.trans e3).trans e4)⟩
theorem sum_le {α : Type} {f : α → Nat} {m : Nat} : ∀ {l : List α}, (∀ x ∈ l, f x ≤ m) → (l.map f).sum ≤ l.length * m
  | [], _ => by simp
  | x :: l, h => by
    have a := h x List.mem_cons_self
    have b := sum_le (l := l) fun y hy => h y (List.mem_cons_of_mem _ hy)
    rw [List.map_cons, List.sum_cons, List.length_cons, Nat.add_mul, Nat.one_mul]
    omega
theorem ev_joinW {σ : L2.St} {H : Hp} {ta te : TE} {p : Addr} {r : List Nat} (ha : Ev ta σ H (.str (S [35]))) (hv : ∀ H1, Ex H H1 → Ev te σ H1 (.ref p)) (hp : H p = some (.lst (txs r))) (hr : r.length ≤ 1000) :
    Ev (tM1 (fun x xs H Q => ∃ a p, ∃ ys : List Str, x = .str a ∧ xs = [.ref p] ∧ (SqL K H p (ys.map V.str) ∨ SqT K H p (ys.map V.str)) ∧ (ys.map (·.length)).sum + ys.length * a.length ≤ 16777216 ∧ Q (.str (Txt.join a ys)) H) ta te) σ H (.str (S r)) := fun H1 e _ q =>
  ha H1 e _ fun H2 e2 => ⟨⟨_, rfl⟩, hv H2 (e.trans e2) H2 (Ex.refl H2) _ fun H3 e3 => ⟨S [35], p, (sps 35 r).map S, rfl, rfl, .inl (sq_of (by
    have := ((e.trans e2).trans e3) _ _ hp
    rw [List.map_map]
    exact this)), by
    have h1 : ((((sps 35 r).map S)).map (·.length)).sum ≤ ((sps 35 r).map S).length * 1000 := sum_le fun x hx => by
      obtain ⟨w, hw, rfl⟩ := List.mem_map.mp hx
      have := (sps_mem (d := 35) _ _ hw).2
      rw [S_len]
      omega
    have h2 := sps_len (d := 35) r
    rw [List.length_map] at h1 ⊢
    have h3 : (S [35]).length = 1 := rfl
    rw [h3]
    omega, by
    rw [join_jws, jws_sps]
    exact q H3 (e2.trans e3)⟩⟩
theorem wp_good {l : List Nat} (h : Good l) (i : Nat) : Good (wp l i) := fun c hc => by
  rcases wp_mem hc with rfl | hc
  · decide
  · exact h c hc
/-- a gap that is refused -/
theorem ev_gapNe {σ : L2.St} {H : Hp} {tl tg : TE} {l : List Nat} {g : Int} (hl : Row l) (hg : Good l) (h1 : Ev tl σ H (.str (S l))) (h2 : ∀ H1, Ex H H1 → Ev tg σ H1 (.int g)) (hb : okG l g = false) (hz : g.natAbs.log2 < 1900) : Ev (tOp (rNeD K) (tCall (sp_law_gap_fault K) [] E0 (tCons tl (tCons tg tNil))) (tTup (tCons (tC (.str "place")) (tCons tg (tCons (tC (.bl true)) tNil))))) σ H (.bl false) := by
  refine ne_tup (vs := [.str "place", .int g, .bl true]) (fun H1 e1 Q q => h1 H1 e1 _ fun H2 e2 => h2 H2 (e1.trans e2) H2 (Ex.refl H2) _ fun H3 e3 => ⟨l, g, rfl, hl, hz, fun _ => ⟨hb, fun p H4 hp e4 h4 => q p H4 (fresh_back (e2.trans e3) hp) ((e2.trans e3).trans e4) h4⟩, fun h => absurd hg h⟩) (fun H1 e1 => eu_tup (ea_cons ev_c (ea_cons (h2 H1 e1) (ea_cons ev_c ea_nil))) (by simp)) ?_
  intro v hv
  simp only [List.mem_cons, List.not_mem_nil, or_false] at hv
  rcases hv with rfl | rfl | rfl
  · exact atm_str (l := [112, 108, 97, 99, 101]) (by decide)
  · exact atm_int
  · exact atm_bl
theorem ev_gapNeR {σ : L2.St} {H : Hp} {tl tg : TE} {l : List Nat} {g : Int} (hl : Row l) (hg : ¬ Good l) (h1 : ∀ H1, Ex H H1 → Ev tl σ H1 (.str (S l))) (h2 : ∀ H1, Ex H H1 → Ev tg σ H1 (.int g)) (hz : g.natAbs.log2 < 1900) : Ev (tOp (rNeD K) (tCall (sp_law_gap_fault K) [] E0 (tCons tl (tCons tg tNil))) (tTup (tCons (tC (.str "row")) (tCons tl (tCons (tC (.bl true)) tNil))))) σ H (.bl false) := by
  refine ne_tup (vs := [.str "row", .str (S l), .bl true]) (fun H1 e1 Q q => h1 H1 e1 H1 (Ex.refl H1) _ fun H2 e2 => h2 H2 (e1.trans e2) H2 (Ex.refl H2) _ fun H3 e3 => ⟨l, g, rfl, hl, hz, fun h => absurd h hg, fun _ p H4 hp e4 h4 => q p H4 (fresh_back (e2.trans e3) hp) ((e2.trans e3).trans e4) h4⟩) (fun H1 e1 => eu_tup (ea_cons ev_c (ea_cons (h1 H1 e1) (ea_cons ev_c ea_nil))) (by simp)) ?_
  intro v hv
  simp only [List.mem_cons, List.not_mem_nil, or_false] at hv
  rcases hv with rfl | rfl | rfl
  · exact atm_str (l := [114, 111, 119]) (by decide)
  · exact atm_str hl.2
  · exact atm_bl
theorem ev_piecesEq {σ : L2.St} {H : Hp} {tl : TE} {l : List Nat} (hl : Row l) (hg : ¬ Good l) (h1 : ∀ H1, Ex H H1 → Ev tl σ H1 (.str (S l))) : Ev (tOp (rEqD K) (tCall (sp_law_pieces_fault K) [] E0 (tCons tl tNil)) (tTup (tCons tl (tCons (tC (.bl true)) tNil)))) σ H (.bl true) := by
  refine eq_tup (vs := [.str (S l), .bl true]) (fun H1 e1 Q q => h1 H1 e1 H1 (Ex.refl H1) _ fun H2 e2 => ⟨l, rfl, hl, hg, fun p H4 hp e4 h4 => q p H4 (fresh_back e2 hp) (e2.trans e4) h4⟩) (fun H1 e1 => eu_tup (ea_cons (h1 H1 e1) (ea_cons ev_c ea_nil)) (by simp)) ?_
  intro v hv
  simp only [List.mem_cons, List.not_mem_nil, or_false] at hv
  rcases hv with rfl | rfl
  · exact atm_str hl.2
  · exact atm_bl

end
end K49
namespace K49
open PySem PySem.Spec PyProof.Rows L2 Lc Evl
section
variable {P : Program} {w : World} {K : PySem.W.Frag} {mg : Str → Option Value} {base : Heap}
theorem lg_small {i : Int} (h : i.natAbs ≤ 1000000000000000000000000000000) : i.natAbs.log2 < 1900 := by
  by_cases h0 : i.natAbs = 0
  · rw [h0]
    decide
  · exact (Nat.log2_lt h0).mpr (Nat.lt_of_le_of_lt h (by decide))
def sp_law_pieces_right (K : PySem.W.Frag) : Sp := fun vs H Q _ => ∃ (l st : List Nat) (b : Addr) (gs : List Int), vs = [.str (S l), .str (S st), .ref b] ∧ l.length ≤ 100 ∧ Good l ∧ Row st ∧ ¬ Good st ∧ H b = some (.lst (gs.map V.int)) ∧ gs.length ≤ 10 ∧ (∀ g ∈ gs, okG l g = false ∧ g.natAbs.log2 < 1900) ∧ RetV (.bl true) H Q
theorem int_at {gs : List Int} {i : Nat} {x : V} (h : (gs.map V.int)[i]? = some x) : ∃ g ∈ gs, x = .int g := by
  rw [List.getElem?_map] at h
  cases hg : gs[i]? with
  | none => rw [hg] at h; cases h
  | some g =>
    rw [hg] at h
    exact ⟨g, List.mem_of_getElem? hg, (Option.some.inj h).symm⟩
theorem ok_law_pieces_right (T : Tx K mg w) : OkD P w K mg base 6 d_law_pieces_right ps_law_pieces_right (sp_law_pieces_right K) := by
  refine (h_law_pieces_right T).ok sc_law_pieces_right (fun vs H Q E h => ?_) (fun cdv A outer s H vs Q E hr h => ⟨_,
      (pss_cons (ps_set (i := 3) sc_law_pieces_right.nd rfl (Or.inl rfl) (pe_call (ok_law_due_pieces (P := P) (w := w) (base := base) T) (hr.mono (by decide)) (by rfl) (m_law_due_pieces T) (k_law_due_pieces T) (b_law_due_pieces T) .nil passN (pa_cons (pv 0) pa_nil)))
      (pss_cons (ps_set (i := 4) sc_law_pieces_right.nd rfl (Or.inl rfl) (pe_call (ok_pieces (P := P) (w := w) (base := base) T) (hr.mono (by decide)) (by rfl) (m_pieces T) (k_pieces T) (b_pieces T) .nil passN (pa_cons (pv 0) pa_nil)))
      (pss_cons (ps_if (PW.pt (pw_or (pt_not (pt_val (pe_call (ok_law_is_pieces (P := P) (w := w) (base := base) T) (hr.mono (by decide)) (by rfl) (m_law_is_pieces T) (k_law_is_pieces T) (b_law_is_pieces T) .nil passN (pa_cons (pv 4) (pa_cons (pv 3) pa_nil))))) (pw_or1 (pt_cmpR op_ne (pe_join pe_str (pv 4)) (pv 0) (nomark _))))) (pss_one (ps_ret pe_bl)) pss_nil)
      (pss_cons (ps_expr (pe_bm PySem.F.plainAttrs_list PySem.F.slot_list_append PySem.F.type_list_append mt_append (pv 4) (pa_cons pe_str pa_nil)))
      (pss_cons (ps_asg (pe_op op_add_str (pe_ix ix_list (pv 4) pe_int (fun _ _ => rfl)) pe_str) (pg_sub (pv 4) pe_int set_list))
      (pss_cons (ps_for (passes_of rfl) rfl (pi_range1 rfl (m_range T) (pa_cons (pe_op op_add (pe_callB call_len_str (by rfl) (m_len T) (by decide +kernel) (pa_cons (pv 0) pa_nil)) pe_int) pa_nil)) (pg_name (i := 5) sc_law_pieces_right.nd rfl (Or.inl rfl)) (pss_cons (ps_set (i := 6) sc_law_pieces_right.nd rfl (Or.inl rfl) (pe_call (ok_walled (P := P) (w := w) (base := base) T) (hr.mono (by decide)) (by rfl) (m_walled T) (k_walled T) (b_walled T) .nil passN (pa_cons (pv 0) (pa_cons (pv 5) pa_nil))))
      (pss_cons (ps_if (PW.pt (pw_or (pt_not (pt_val (pe_callB call_isi (by rfl) (m_isinstance T) (by decide +kernel) (pa_cons (pv 6) (pa_cons (pe_bltn (v := .ty "str") (u := .type "str") (by rfl) (m_str T) (by decide +kernel) rfl) pa_nil))))) (pw_or1 (pt_cmpR op_ne (pv 6) (pe_op op_add_str (pe_op op_add_str (pe_slice sl_str (pv 0) po_none (po_some (pv 5))) pe_str) (pe_slice sl_str (pv 0) (po_some (pv 5)) po_none)) (nomark _))))) (pss_one (ps_ret pe_bl)) pss_nil)
      (pss_one (ps_if (pt_not (pt_val (pe_call (ok_law_is_pieces (P := P) (w := w) (base := base) T) (hr.mono (by decide)) (by rfl) (m_law_is_pieces T) (k_law_is_pieces T) (b_law_is_pieces T) .nil passN (pa_cons (pe_call (ok_pieces (P := P) (w := w) (base := base) T) (hr.mono (by decide)) (by rfl) (m_pieces T) (k_pieces T) (b_pieces T) .nil passN (pa_cons (pv 6) pa_nil)) (pa_cons (pe_call (ok_law_due_pieces (P := P) (w := w) (base := base) T) (hr.mono (by decide)) (by rfl) (m_law_due_pieces T) (k_law_due_pieces T) (b_law_due_pieces T) .nil passN (pa_cons (pv 6) pa_nil)) pa_nil))))) (pss_one (ps_ret pe_bl)) pss_nil)))))
      (pss_cons (ps_for (passes_of rfl) rfl (pi_list (pv 2)) (pg_name (i := 5) sc_law_pieces_right.nd rfl (Or.inl rfl)) (pss_one (ps_if (pt_cmpR (op_neD hr.units) (pe_call (ok_law_gap_fault (P := P) (w := w) (base := base) T) (hr.mono (by decide)) (by rfl) (m_law_gap_fault T) (k_law_gap_fault T) (b_law_gap_fault T) .nil passN (pa_cons (pv 0) (pa_cons (pv 5) pa_nil))) (pe_tup (pa_cons pe_str (pa_cons (pv 5) (pa_cons pe_bl pa_nil)))) (nomark _)) (pss_one (ps_ret pe_bl)) pss_nil)))
      (pss_cons (ps_for (passes_of rfl) rfl (pi_list (pe_op op_cat (pv 2) (pe_lst (pa_cons pe_int pa_nil)))) (pg_name (i := 5) sc_law_pieces_right.nd rfl (Or.inl rfl)) (pss_one (ps_if (pt_cmpR (op_neD hr.units) (pe_call (ok_law_gap_fault (P := P) (w := w) (base := base) T) (hr.mono (by decide)) (by rfl) (m_law_gap_fault T) (k_law_gap_fault T) (b_law_gap_fault T) .nil passN (pa_cons (pv 1) (pa_cons (pv 5) pa_nil))) (pe_tup (pa_cons pe_str (pa_cons (pv 1) (pa_cons pe_bl pa_nil)))) (nomark _)) (pss_one (ps_ret pe_bl)) pss_nil)))
      (pss_one (ps_ret (pe_and (pe_call (ok_law_is_pieces (P := P) (w := w) (base := base) T) (hr.mono (by decide)) (by rfl) (m_law_is_pieces T) (k_law_is_pieces T) (b_law_is_pieces T) .nil passN (pa_cons (pe_call (ok_pieces (P := P) (w := w) (base := base) T) (hr.mono (by decide)) (by rfl) (m_pieces T) (k_pieces T) (b_pieces T) .nil passN (pa_cons (pv 0) pa_nil)) (pa_cons (pv 3) pa_nil))) (pe_one (pe_cmpR (op_eqD hr.units) (pe_call (ok_law_pieces_fault (P := P) (w := w) (base := base) T) (hr.mono (by decide)) (by rfl) (m_law_pieces_fault T) (k_law_pieces_fault T) (b_law_pieces_fault T) .nil passN (pa_cons (pv 1) pa_nil)) (pe_tup (pa_cons (pv 1) (pa_cons pe_bl pa_nil))) (nomark _)))))))))))))), ?_⟩)
  · obtain ⟨l, st, b, gs, rfl, _⟩ := h
    rfl
  · obtain ⟨l, st, b, gs, rfl, hl, hg, hst, hsg, hb, hgl, hgs, q⟩ := h
    have hr : l.length ≤ 1000 := by omega
    have k_ee : Str.ofString "e" = S [101] := by decide +kernel
    simp only [k_wall, k_ee]
    refine q_asgL (el_due (by exact ev_var rfl) hr) fun a H1 ha e1 h1 => ?_
    try dsimp only [List.set]
    refine q_asgL (el_pieces (by exact ev_var rfl) hr hg) fun p H2 hp e2 h2 => ?_
    try dsimp only [List.set]
    have hap : a ≠ p := fun z => by rw [z, hp] at h1; cases h1
    have hp0 : H p = none := fresh_back e1 hp
    refine q_when (b := !true || !decide (l = l)) (et_or (et_not (et_B (ev_ispVV (by exact ev_var rfl) (fun _ _ => by exact ev_var rfl) h2 (e2 _ _ h1) hr))) fun _ => et_test (ev_op (ev_joinW ev_c (fun _ _ => by exact ev_var rfl) h2 hr) (by exact ev_var rfl) rv_neSS)) (fun hb => by simp at hb) fun _ H3 e3 => ?_
    have x3 := (e1.trans e2).trans e3
    obtain ⟨t0, ts, hts⟩ : ∃ t0 ts, sps 35 l = t0 :: ts := by
      cases hh : sps 35 l with
      | nil => exact absurd hh (sps_ne l)
      | cons t0 ts => exact ⟨t0, ts, rfl⟩
    have hz := sps_len (d := 35) l
    have ht0 : t0.length ≤ 100 := by
      have := (sps_mem (d := 35) l t0 (by rw [hts]; exact List.mem_cons_self)).2
      omega
    refine q_seq2 (s_app (e3 _ _ h2) (by exact ev_var rfl) ev_c (by rw [List.length_map]; omega) fun H4 e4 => ?_)
    have g4 : upd H4 p (.lst (txs l ++ [.str (S [101])])) p = some (.lst (.str (S t0) :: ((ts.map fun w => V.str (S w)) ++ [.str (S [101])]))) := by
      rw [upd_same]
      show some (HO.lst ((sps 35 l).map (fun w => V.str (S w)) ++ _)) = _
      rw [hts]
      rfl
    have x4 : Ex H (upd H4 p (.lst (txs l ++ [.str (S [101])]))) := (x3.trans e4).mut hp0
    have a4 : upd H4 p (.lst (txs l ++ [.str (S [101])])) a = some (.lst (txs l)) := by
      rw [upd_ne hap]
      exact (e3.trans e4) _ _ (e2 _ _ h1)
    generalize upd H4 p (.lst (txs l ++ [.str (S [101])])) = H5 at g4 x4 a4 ⊢
    dsimp only
    refine q_seq2 (s_setAt (i := 0) (v := .str (S (t0 ++ [35]))) g4 (ev_op (ev_op (by exact ev_var rfl) ev_c (rv_ixL (sq_of g4) (atI_i (xs := .str (S t0) :: ((ts.map fun w => V.str (S w)) ++ [.str (S [101])])) (i := 0) (by omega) (by simp; omega) V.non))) ev_c (rv_catSS (a := t0) (b := [35]) (by simp; omega))) (by exact ev_var rfl) ev_c (by simp) fun H6 e6 => ?_)
    have x6 : Ex H (upd H6 p (.lst (((V.str (S t0)) :: ((ts.map fun w => V.str (S w)) ++ [.str (S [101])])).set 0 (.str (S (t0 ++ [35])))))) := (x4.trans e6).mut hp0
    have a6 : (upd H6 p (.lst (((V.str (S t0)) :: ((ts.map fun w => V.str (S w)) ++ [.str (S [101])])).set 0 (.str (S (t0 ++ [35])))))) a = some (.lst (txs l)) := by
      rw [upd_ne hap]
      exact e6 _ _ a4
    generalize (upd H6 p (.lst (((V.str (S t0)) :: ((ts.map fun w => V.str (S w)) ++ [.str (S [101])])).set 0 (.str (S (t0 ++ [35])))))) = H7 at x6 a6 ⊢
    dsimp only
    refine q_forR1 (n := (l.length : Int) + 1) (ea_cons (ev_op (ev_cb (ea_cons (by exact ev_var rfl) ea_nil) (rc_lenStr (by omega))) ev_c rv_I0) ea_nil) (by omega) (fun i σ' H' => Ex H7 H' ∧ ∃ v5 v6, σ' = [some (.str (S l)), some (.str (S st)), some (.ref b), some (.ref a), some (.ref p), v5, v6])
      (fun H8 e8 => ⟨e8, none, none, rfl⟩) ?_ ?_
    · rintro i σ' H8 hi ⟨e8, v5, v6, rfl⟩
      have hi2 : i ≤ l.length := by omega
      have hr2 : (wp l i).length ≤ 1000 := by rw [wp_len]; omega
      try dsimp only [List.set]
      refine q_asg (v := .str (S (wp l i))) (ev_call (ea_cons (by exact ev_var rfl) (ea_cons (by exact ev_var rfl) ea_nil)) fun H9 e9 Q9 q9 E9 => ⟨l, (i : Int), rfl, ⟨hr, hg.low⟩, lg_small (by omega), fun _ _ => by rw [Int.toNat_natCast]; exact q9, fun _ h => ?_, fun h => absurd hg h⟩) fun H9 e9 => ?_
      · unfold okG at h
        rw [decide_eq_true (show (0 : Int) ≤ i by omega), decide_eq_true (show (i : Int) ≤ l.length by omega)] at h
        cases h
      try dsimp only [List.set]
      refine q_when (b := !true || !decide (wp l i = wp l i)) (et_or (et_not (et_B (ev_cb (ea_cons (by exact ev_var rfl) (ea_cons ev_c ea_nil)) rc_isStr))) fun _ => et_test (ev_op (by exact ev_var rfl) (ev_wp (fun _ _ => by exact ev_var rfl) (fun _ _ => by exact ev_var rfl) hr hi2) rv_neSS)) (fun hb => by simp at hb) fun _ H10 e10 => ?_
      refine s_when (b := !true) (et_not (et_B (ev_isp (el_pieces (by exact ev_var rfl) hr2 (wp_good hg i)) (fun _ _ => el_due (by exact ev_var rfl) hr2) hr2))) (fun hb => by simp at hb) fun _ H11 e11 => ⟨((e8.trans e9).trans e10).trans e11, _, _, rfl⟩
    rintro σ' H8 ⟨e8, v5, v6, rfl⟩
    have b8 := (x6.trans e8) _ _ hb
    refine q_forLn (by exact ev_var rfl) (sq_of b8) (fun i σ' H' => Ex H8 H' ∧ ∃ v5, σ' = [some (.str (S l)), some (.str (S st)), some (.ref b), some (.ref a), some (.ref p), v5, v6])
      (fun H9 e9 => ⟨e9, v5, rfl⟩) (fun i σ' H' _ h => sq_of (h.1 _ _ b8)) ?_ ?_
    · rintro i x σ' H9 hi ⟨e9, v5, rfl⟩
      obtain ⟨g, hgm, rfl⟩ := int_at hi
      try dsimp only [List.set]
      exact s_when (b := false) (et_test (ev_gapNe ⟨hr, hg.low⟩ hg (by exact ev_var rfl) (fun _ _ => by exact ev_var rfl) (hgs g hgm).1 (hgs g hgm).2)) (fun hb => by simp at hb) fun _ H10 e10 => ⟨e9.trans e10, _, rfl⟩
    rintro σ' H9 ⟨e9, v5, rfl⟩
    have b9 := e9 _ _ b8
    refine q_forNLn (xs := (gs ++ [0]).map V.int) (fun H10 e10 Q10 q10 => ?_) (fun pp i σ' H' => Ex H9 H' ∧ H' pp = some (.lst ((gs ++ [0]).map V.int)) ∧ ∃ v5, σ' = [some (.str (S l)), some (.str (S st)), some (.ref b), some (.ref a), some (.ref p), v5, v6])
      (fun pp H10 hpp e10 h10 => ⟨e10, h10, v5, rfl⟩) (fun pp i σ' H' _ h => sq_of h.2.1) ?_ ?_
    · have h0 : EvL (tLst (tCons (tC (.int 0)) tNil)) [some (.str (S l)), some (.str (S st)), some (.ref b), some (.ref a), some (.ref p), v5, v6] H9 [.int 0] := el_lst (ea_cons ev_c ea_nil) (by simp)
      have h1 : Ev (tVar 2) [some (.str (S l)), some (.str (S st)), some (.ref b), some (.ref a), some (.ref p), v5, v6] H9 (.ref b) := ev_var rfl
      refine h1 H10 e10 _ fun H11 e11 => h0 H11 (e10.trans e11) _ fun p1 H12 hp1 e12 h12 => ⟨b, p1, _, _, rfl, rfl, ((e10.trans e11).trans e12) _ _ b9, h12, sz_of (by simp; omega), fun p2 hp2 => ?_⟩
      refine q10 p2 _ (fresh_back e11 (fresh_back e12 hp2)) ((e11.trans e12).trans (Ex.new hp2)) ?_
      rw [upd_same, List.map_append]
      rfl
    · rintro pp i x σ' H10 hi ⟨e10, h10, v5, rfl⟩
      obtain ⟨g, hgm, rfl⟩ := int_at hi
      have hz : g.natAbs.log2 < 1900 := by
        rcases List.mem_append.mp hgm with hgm | hgm
        · exact (hgs g hgm).2
        · rw [List.mem_singleton.mp hgm]
          exact lg_small (by omega)
      try dsimp only [List.set]
      exact s_when (b := false) (et_test (ev_gapNeR hst hsg (fun _ _ => by exact ev_var rfl) (fun _ _ => by exact ev_var rfl) hz)) (fun hb => by simp at hb) fun _ H11 e11 => ⟨e10.trans e11, e11 _ _ h10, _, rfl⟩
    rintro pp σ' H10 ⟨e10, h10, v5, rfl⟩
    have x10 : Ex H7 H10 := (e8.trans e9).trans e10
    exact s_ret (v := .bl (true && true)) (ev_andV (ev_ispV (el_pieces (by exact ev_var rfl) hr hg) (fun _ _ => by exact ev_var rfl) (x10 _ _ a6) hr) fun _ => ev_piecesEq hst hsg fun _ _ => by exact ev_var rfl) fun H11 e11 => q H11 ((x6.trans x10).trans e11)

end
end K49
namespace K49
open PySem PySem.Spec PyProof.Rows L2 Lc Evl
section
variable {P : Program} {w : World} {K : PySem.W.Frag} {mg : Str → Option Value} {base : Heap}
/-! ### effects of walls, as they should be -/
abbrev bls (l : List Nat) (G : List (List Int)) (F : List Int) (r : List Nat) : List V := (effs l G F r).map V.bl
theorem effs_len (l : List Nat) (G : List (List Int)) (F : List Int) (r : List Nat) : (effs l G F r).length = r.length + 1 := by
  unfold effs
  rw [List.length_map, List.length_range]
theorem el_effects {σ : L2.St} {H : Hp} {tm te : TE} {o : Addr} {l : List Nat} {G : List (List Int)} {F : List Int} {r : List Nat} (hm : Mc K H o l G F) (h1 : Ev tm σ H (.ref o)) (h2 : ∀ H1, Ex H H1 → Ev te σ H1 (.str (S r))) (hr : r.length ≤ 900) (hlow : ∀ c ∈ r, c < 128) (hw : 35 ∈ l) (hrl : ∀ c ∈ r, c ∈ l) : EvL (tCall (sp_wall_effects K) [] E0 (tCons tm (tCons te tNil))) σ H (bls l G F r) := fun H1 e1 Q q => h1 H1 e1 _ fun H2 e2 => h2 H2 (e1.trans e2) H2 (Ex.refl H2) _ fun H3 e3 =>
  ⟨o, l, G, F, r, rfl, hm.ex ((e1.trans e2).trans e3), hr, hlow, fun _ _ p H4 hp e4 h4 => q p H4 (fresh_back (e2.trans e3) hp) ((e2.trans e3).trans e4) h4, fun h => absurd hw h, fun _ h => absurd hrl h⟩
theorem ev_ist {σ : L2.St} {H : Hp} {ta tb : TE} {p : Addr} {bs : List Bool} (h1 : EvL ta σ H (bs.map V.bl)) (h2 : ∀ H1, Ex H H1 → Ev tb σ H1 (.ref p)) (hp : H p = some (.lst (bs.map V.bl))) (hr : bs.length ≤ 10000) : Ev (tCall (sp_law_is_truths K) [] E0 (tCons ta (tCons tb tNil))) σ H (.bl true) := fun H1 e1 Q q => h1 H1 e1 _ fun p1 H2 hp1 e2 g2 => h2 H2 (e1.trans e2) H2 (Ex.refl H2) _ fun H3 e3 =>
  ⟨p1, p, _, rfl, e3 _ _ g2, ((e1.trans e2).trans e3) _ _ hp, hr, fun H4 e4 => q H4 ((e2.trans e3).trans e4)⟩
theorem ev_istV {σ : L2.St} {H : Hp} {ta tb : TE} {p1 p : Addr} {bs : List Bool} (h1 : Ev ta σ H (.ref p1)) (h2 : ∀ H1, Ex H H1 → Ev tb σ H1 (.ref p)) (hp1 : H p1 = some (.lst (bs.map V.bl))) (hp : H p = some (.lst (bs.map V.bl))) (hr : bs.length ≤ 10000) : Ev (tCall (sp_law_is_truths K) [] E0 (tCons ta (tCons tb tNil))) σ H (.bl true) := fun H1 e1 Q q => h1 H1 e1 _ fun H2 e2 => h2 H2 (e1.trans e2) H2 (Ex.refl H2) _ fun H3 e3 =>
  ⟨p1, p, _, rfl, ((e1.trans e2).trans e3) _ _ hp1, ((e1.trans e2).trans e3) _ _ hp, hr, fun H4 e4 => q H4 ((e2.trans e3).trans e4)⟩
theorem ev_effNeM {σ : L2.St} {H : Hp} {tm tl : TE} {o : Addr} {l : List Nat} {G : List (List Int)} {F : List Int} {r : List Nat} (hm : Mc K H o l G F) (h0 : Ev tm σ H (.ref o)) (h1 : ∀ H1, Ex H H1 → Ev tl σ H1 (.str (S r))) (hr : r.length ≤ 900) (hlow : ∀ c ∈ r, c < 128) (hw : 35 ∉ l) : Ev (tOp (rNeD K) (tCall (sp_law_effects_fault K) [] E0 (tCons tm (tCons tl tNil))) (tTup (tCons (tC (.str "machine")) (tCons (tC (.str "signs")) (tCons (tC (.bl true)) tNil))))) σ H (.bl false) := by
  refine ne_tup (vs := [.str "machine", .str "signs", .bl true]) (fun H1 e1 Q q => h0 H1 e1 _ fun H2 e2 => h1 H2 (e1.trans e2) H2 (Ex.refl H2) _ fun H3 e3 => ⟨o, l, G, F, r, rfl, hm.ex ((e1.trans e2).trans e3), hr, hlow, fun h => absurd h hw, fun _ p H4 hp e4 h4 => q p H4 (fresh_back (e2.trans e3) hp) ((e2.trans e3).trans e4) h4⟩) (fun H1 e1 => eu_tup (ea_cons ev_c (ea_cons ev_c (ea_cons ev_c ea_nil))) (by simp)) ?_
  intro v hv
  simp only [List.mem_cons, List.not_mem_nil, or_false] at hv
  rcases hv with rfl | rfl | rfl
  · exact atm_str (l := [109, 97, 99, 104, 105, 110, 101]) (by decide)
  · exact atm_str (l := [115, 105, 103, 110, 115]) (by decide)
  · exact atm_bl
theorem ev_effNeR {σ : L2.St} {H : Hp} {tm tl : TE} {o : Addr} {l : List Nat} {G : List (List Int)} {F : List Int} {r : List Nat} (hm : Mc K H o l G F) (h0 : Ev tm σ H (.ref o)) (h1 : ∀ H1, Ex H H1 → Ev tl σ H1 (.str (S r))) (hr : r.length ≤ 900) (hlow : ∀ c ∈ r, c < 128) (hw : 35 ∈ l) (hs : ¬ ∀ c ∈ r, c ∈ l) : Ev (tOp (rNeD K) (tCall (sp_law_effects_fault K) [] E0 (tCons tm (tCons tl tNil))) (tTup (tCons (tC (.str "row")) (tCons tl (tCons (tC (.bl true)) tNil))))) σ H (.bl false) := by
  refine ne_tup (vs := [.str "row", .str (S r), .bl true]) (fun H1 e1 Q q => h0 H1 e1 _ fun H2 e2 => h1 H2 (e1.trans e2) H2 (Ex.refl H2) _ fun H3 e3 => ⟨o, l, G, F, r, rfl, hm.ex ((e1.trans e2).trans e3), hr, hlow, fun _ => ⟨hs, fun p H4 hp e4 h4 => q p H4 (fresh_back (e2.trans e3) hp) ((e2.trans e3).trans e4) h4⟩, fun h => absurd hw h⟩) (fun H1 e1 => eu_tup (ea_cons ev_c (ea_cons (h1 H1 e1) (ea_cons ev_c ea_nil))) (by simp)) ?_
  intro v hv
  simp only [List.mem_cons, List.not_mem_nil, or_false] at hv
  rcases hv with rfl | rfl | rfl
  · exact atm_str (l := [114, 111, 119]) (by decide)
  · exact atm_str hlow
  · exact atm_bl
def sp_law_effects_right (K : PySem.W.Frag) : Sp := fun vs H Q _ => ∃ (o tt a f : Addr) (rs : List Addr) (l : List Nat) (G : List (List Int)) (F : List Int) (r st : List Nat), vs = [.ref o, .ref tt, .str (S r), .str (S st)] ∧ Mc K H o l G F ∧ TBl H tt a f rs l G F ∧ r.length ≤ 100 ∧ (∀ c ∈ r, c ∈ l) ∧ st.length ≤ 900 ∧ (∀ c ∈ st, c < 128) ∧ (¬ ∀ c ∈ st, c ∈ l) ∧ RetV (.bl true) H Q
theorem ok_law_effects_right (T : Tx K mg w) : OkD P w K mg base 8 d_law_effects_right ps_law_effects_right (sp_law_effects_right K) := by
  refine (h_law_effects_right T).ok sc_law_effects_right (fun vs H Q E h => ?_) (fun cdv A outer s H vs Q E hr h => ⟨_,
      (pss_cons (ps_if (pt_cmpR op_notIn_sign pe_str (pe_ix ix_tup (pv 1) pe_int (fun _ _ => rfl)) (by rfl)) (pss_cons (ps_for (passes_of rfl) rfl (pi_list (pe_lst (pa_cons (pv 2) (pa_cons (pv 3) pa_nil)))) (pg_name (i := 6) sc_law_effects_right.nd rfl (Or.inl rfl)) (pss_one (ps_if (pt_cmpR (op_neD hr.units) (pe_call (ok_law_effects_fault (P := P) (w := w) (base := base) T) (hr.mono (by decide)) (by rfl) (m_law_effects_fault T) (k_law_effects_fault T) (b_law_effects_fault T) .nil passN (pa_cons (pv 0) (pa_cons (pv 6) pa_nil))) (pe_tup (pa_cons pe_str (pa_cons pe_str (pa_cons pe_bl pa_nil)))) (nomark _)) (pss_one (ps_ret pe_bl)) pss_nil)))
      (pss_one (ps_ret pe_bl))) pss_nil)
      (pss_cons (ps_setLc (i := 4) (own := [("gap", 7)]) (g := gName 7) rfl sc_law_effects_right.nd rfl rfl (sw_true rfl rfl rfl (by decide +kernel)) (pi_range1 rfl (m_range T) (pa_cons (pe_op op_add (pe_callB call_len_str (by rfl) (m_len T) (by decide +kernel) (pa_cons (pv 2) pa_nil)) pe_int) pa_nil)) (blkOk_by (own := [("gap", 7)]) (N := ns_law_effects_right) (sc := (defScope st_law_effects_right)) (by decide +kernel)) (fun _ _ _ _ _ => pg_name (i := 7) sc_law_effects_right.nd rfl (Or.inl rfl)) (fun _ _ _ _ _ => pts_nil) (fun _ _ _ _ _ => (pe_call (ok_law_holds (P := P) (w := w) (base := base) T) (hr.mono (by decide)) (by rfl) (m_law_holds T) (k_law_holds T) (b_law_holds T) .nil passN (pa_cons (pv 1) (pa_cons (pe_op op_add_str (pe_op op_add_str (pe_slice sl_str (pv 2) po_none (po_some (pv 7))) pe_str) (pe_slice sl_str (pv 2) (po_some (pv 7)) po_none)) pa_nil)))))
      (pss_cons (ps_set (i := 5) sc_law_effects_right.nd rfl (Or.inl rfl) (pe_call (ok_wall_effects (P := P) (w := w) (base := base) T) (hr.mono (by decide)) (by rfl) (m_wall_effects T) (k_wall_effects T) (b_wall_effects T) .nil passN (pa_cons (pv 0) (pa_cons (pv 2) pa_nil))))
      (pss_cons (ps_if (pt_not (pt_val (pe_call (ok_law_is_truths (P := P) (w := w) (base := base) T) (hr.mono (by decide)) (by rfl) (m_law_is_truths T) (k_law_is_truths T) (b_law_is_truths T) .nil passN (pa_cons (pv 5) (pa_cons (pv 4) pa_nil))))) (pss_one (ps_ret pe_bl)) pss_nil)
      (pss_cons (ps_asg (pe_not (pe_ix ix_list (pv 5) (pe_un un_neg pe_int) (fun _ _ => rfl))) (pg_sub (pv 5) (pe_un un_neg pe_int) set_list))
      (pss_cons (ps_expr (pe_bm PySem.F.plainAttrs_list PySem.F.slot_list_append PySem.F.type_list_append mt_append (pv 5) (pa_cons pe_bl pa_nil)))
      (pss_cons (ps_if (pt_cmpR (op_neD hr.units) (pe_call (ok_law_effects_fault (P := P) (w := w) (base := base) T) (hr.mono (by decide)) (by rfl) (m_law_effects_fault T) (k_law_effects_fault T) (b_law_effects_fault T) .nil passN (pa_cons (pv 0) (pa_cons (pv 3) pa_nil))) (pe_tup (pa_cons pe_str (pa_cons (pv 3) (pa_cons pe_bl pa_nil)))) (nomark _)) (pss_one (ps_ret pe_bl)) pss_nil)
      (pss_one (ps_ret (pe_call (ok_law_is_truths (P := P) (w := w) (base := base) T) (hr.mono (by decide)) (by rfl) (m_law_is_truths T) (k_law_is_truths T) (b_law_is_truths T) .nil passN (pa_cons (pe_call (ok_wall_effects (P := P) (w := w) (base := base) T) (hr.mono (by decide)) (by rfl) (m_wall_effects T) (k_wall_effects T) (b_wall_effects T) .nil passN (pa_cons (pv 0) (pa_cons (pv 2) pa_nil))) (pa_cons (pv 4) pa_nil)))))))))))), ?_⟩)
  · obtain ⟨o, tt, a, f, rs, l, G, F, r, st, rfl, _⟩ := h
    rfl
  · obtain ⟨o, tt, a, f, rs, l, G, F, r, st, rfl, hm, hT, hrl, hr, hsl, hs128, hs, q⟩ := h
    have hsg := hm.1
    have har := hm.2.1
    have ll := sg_len hsg
    have hlow : ∀ c ∈ r, c < 128 := fun c hc => isSg_low hsg c (hr c hc)
    simp only [k_wall]
    have ix : ∀ {σ : L2.St} {H1 : Hp} {i : Int} {y : V}, Ex H H1 → σ[1]? = some (some (.ref tt)) → atI [V.str (S l), V.ref a, V.ref f] i = some y → Ev (tOp (rIxT K) (tVar 1) (tC (.int i))) σ H1 y := fun e h0 hi => ev_op (ev_var h0) ev_c (rv_ixT (st_of (e _ _ hT.t)) hi)
    refine q_when (b := !decide (35 ∈ l)) (et_test (ev_op ev_c (ix (Ex.refl H) rfl rfl) rv_notInSS)) (fun hb H1 e1 => ?_) fun hb H1 e1 => ?_
    · have hw : 35 ∉ l := of_decide_eq_false (not_t hb)
      refine q_forNLn (xs := [.str (S r), .str (S st)]) (el_lst (ea_cons (by exact ev_var rfl) (ea_cons (by exact ev_var rfl) ea_nil)) (by simp)) (fun pp i σ' H' => Ex H1 H' ∧ H' pp = some (.lst [.str (S r), .str (S st)]) ∧ ∃ v6, σ' = [some (.ref o), some (.ref tt), some (.str (S r)), some (.str (S st)), none, none, v6, none])
        (fun pp H2 hpp e2 h2 => ⟨e2, h2, none, rfl⟩) (fun pp i σ' H' _ h => sq_of h.2.1) ?_ ?_
      · rintro pp i x σ' H2 hi ⟨e2, h2, v6, rfl⟩
        have hx : ∃ z : List Nat, x = .str (S z) ∧ z.length ≤ 900 ∧ ∀ c ∈ z, c < 128 := by
          match i, hi with
          | 0, hi => exact ⟨r, (Option.some.inj hi).symm, by omega, hlow⟩
          | 1, hi => exact ⟨st, (Option.some.inj hi).symm, hsl, hs128⟩
          | n + 2, hi => simp at hi
        obtain ⟨z, rfl, hz, hz128⟩ := hx
        try dsimp only [List.set]
        exact s_when (b := false) (et_test (ev_effNeM (hm.ex (e1.trans e2)) (by exact ev_var rfl) (fun _ _ => by exact ev_var rfl) hz hz128 hw)) (fun hb => by simp at hb) fun _ H3 e3 => ⟨e2.trans e3, e3 _ _ h2, _, rfl⟩
      · rintro pp σ' H2 ⟨e2, h2, v6, rfl⟩
        exact s_ret ev_c fun H3 e3 => q H3 ((e1.trans e2).trans e3)
    have hw : 35 ∈ l := of_decide_eq_true (not_f hb)
    have hel := effs_len l G F r
    refine q_asgL (xs := bls l G F r) ?_ fun p H2 hp e2 h2 => ?_
    · unfold bls effs
      rw [List.map_map]
      refine el_mapR (n := r.length + 1) (V.bl ∘ fun k => acc l G F (wp r k)) (ea_cons (ev_is (ev_op (ev_cb (ea_cons (by exact ev_var rfl) ea_nil) (rc_lenStr (by omega))) ev_c rv_I0) (by rw [Int.natCast_add]; rfl)) ea_nil) (by omega) (fun x => rfl) fun k H4 hk e4 => ?_
      exact ev_call (ea_cons (by exact ev_var rfl) (ea_cons (ev_wp (fun _ _ => by exact ev_var rfl) (fun _ _ => by exact ev_var rfl) (by omega) (by omega)) ea_nil)) fun H5 e5 Q5 q5 E5 => ⟨tt, a, f, rs, l, G, F, wp r k, rfl, hT.ex ((e1.trans e4).trans e5), har, fun c hc => (by rcases wp_mem hc with rfl | h; exact hw; exact hr c h), by rw [wp_len]; omega, by omega, q5⟩
    try dsimp only [List.set]
    have e12 := e1.trans e2
    refine q_asgL (el_effects (hm.ex e12) (by exact ev_var rfl) (fun _ _ => by exact ev_var rfl) (by omega) hlow hw hr) fun p2 H3 hp2 e3 h3 => ?_
    try dsimp only [List.set]
    have hpp : p ≠ p2 := fun z => by rw [z, hp2] at h2; cases h2
    have e13 := e12.trans e3
    have p20 : H p2 = none := fresh_back e12 hp2
    refine q_when (b := !true) (et_not (et_B (ev_istV (by exact ev_var rfl) (fun _ _ => by exact ev_var rfl) h3 (e3 _ _ h2) (by omega)))) (fun hb => by simp at hb) fun _ H4 e4 => ?_
    obtain ⟨bs, b0, hbs⟩ : ∃ bs b0, bls l G F r = bs.map V.bl ++ [.bl b0] := ⟨(List.range r.length).map fun k => acc l G F (wp r k), acc l G F (wp r r.length), by
      unfold bls effs
      rw [List.range_succ, List.map_append, List.map_append]
      rfl⟩
    have hbl : bs.length = r.length := by
      have := congrArg List.length hbs
      rw [List.length_map, hel, List.length_append, List.length_map, List.length_singleton] at this
      omega
    have h4 := e4 _ _ h3
    have g4 : H4 p2 = some (.lst (bs.map V.bl ++ [.bl b0])) := by rw [← hbs]; exact h4
    try dsimp only
    refine q_seq2 (s_setLast (v := .bl (!b0)) g4 (ev_notV (ev_op (by exact ev_var rfl) (ev_un ev_c ru_neg) (rv_ixL (sq_of g4) atI_lastM))) (by exact ev_var rfl) (ev_un ev_c ru_neg) fun H5 e5 => ?_)
    have x5 : Ex H (upd H5 p2 (.lst (bs.map V.bl ++ [.bl (!b0)]))) := ((e13.trans e4).trans e5).mut p20
    have g5 : upd H5 p2 (.lst (bs.map V.bl ++ [.bl (!b0)])) p2 = some (.lst (bs.map V.bl ++ [.bl (!b0)])) := upd_same
    have a5 : upd H5 p2 (.lst (bs.map V.bl ++ [.bl (!b0)])) p = some (.lst (bls l G F r)) := by
      rw [upd_ne hpp]
      exact ((e3.trans e4).trans e5) _ _ h2
    generalize upd H5 p2 (.lst (bs.map V.bl ++ [.bl (!b0)])) = H6 at x5 g5 a5 ⊢
    try dsimp only
    refine q_seq2 (s_app g5 (by exact ev_var rfl) ev_c (by simp; omega) fun H7 e7 => ?_)
    have x7 : Ex H (upd H7 p2 (.lst (bs.map V.bl ++ [.bl (!b0)] ++ [.bl true]))) := (x5.trans e7).mut p20
    have a7 : upd H7 p2 (.lst (bs.map V.bl ++ [.bl (!b0)] ++ [.bl true])) p = some (.lst (bls l G F r)) := by
      rw [upd_ne hpp]
      exact e7 _ _ a5
    generalize upd H7 p2 (.lst (bs.map V.bl ++ [.bl (!b0)] ++ [.bl true])) = H8 at x7 a7 ⊢
    try dsimp only
    refine q_when (b := false) (et_test (ev_effNeR (hm.ex x7) (by exact ev_var rfl) (fun _ _ => by exact ev_var rfl) hsl hs128 hw hs)) (fun hb => by simp at hb) fun _ H9 e9 => ?_
    have x9 := x7.trans e9
    exact s_ret (ev_ist (el_effects (hm.ex x9) (by exact ev_var rfl) (fun _ _ => by exact ev_var rfl) (by omega) hlow hw hr) (fun _ _ => by exact ev_var rfl) (e9 _ _ a7) (by omega)) fun H10 e10 => q H10 (x9.trans e10)

end
end K49
namespace K49
open PySem PySem.Spec PyProof.Rows L2 Lc Evl
section
variable {P : Program} {w : World} {K : PySem.W.Frag} {mg : Str → Option Value} {base : Heap}
/-! ### the law -/
theorem el_nums {σ : L2.St} {H : Hp} : EvL (tLst (tCons (tC (.int 3)) (tCons (tOp (rI CPow fun i j => V.int (i ^ j.toNat)) (tC (.int 10)) (tC (.int 20))) tNil))) σ H [.int 3, .int 100000000000000000000] := el_lst (ea_cons ev_c (ea_cons (ev_pow10 (by decide) (by decide) (by decide)) ea_nil)) (by simp)
theorem ei_far {σ : L2.St} {b : Addr} {i : Nat} (hv : σ[i]? = some (some (.ref b))) : EvI b (tCall (sp_law_draw K) [] E0 (tCons (tVar i) (tCons (tOp (rIxL K) (tLst (tCons (tC (.int 3)) (tCons (tOp (rI CPow fun i j => V.int (i ^ j.toNat)) (tC (.int 10)) (tC (.int 20))) tNil))) (tCall (sp_law_draw K) [] E0 (tCons (tVar i) (tCons (tC (.int 2)) tNil)))) tNil))) σ fun d => 0 ≤ d ∧ d < 100000000000000000000 := fun H1 hb Q q => by
  refine ⟨_, hv, Lc.cons_fst (op_fst (el_nums H1 (Ex.refl H1) _ fun p H2 hp e2 h2 => ?_))⟩
  have pb := bx_ne hb hp
  refine (ei_draw (K := K) (E := E0) hv (fun _ => ev_c) (by decide) (by decide)) H2 (hb.ex e2) _ fun d H3 hd x3 b3 => ?_
  have h3 := x3 _ _ pb h2
  obtain ⟨many, hat, m0, m1⟩ : ∃ many : Int, atI [V.int 3, V.int 100000000000000000000] d = some (.int many) ∧ 0 < many ∧ many ≤ 100000000000000000000 := by
    have : d = 0 ∨ d = 1 := by omega
    rcases this with rfl | rfl
    · exact ⟨3, rfl, by decide, by decide⟩
    · exact ⟨_, rfl, by decide, by decide⟩
  refine (rv_ixL (K := K) (sq_of h3) hat) H3 (Ex.refl H3) _ fun H4 e4 => ⟨b, many, rfl, b3.ex e4, m0, ?_, fun d2 H5 d0 d1 x5 b5 => q d2 H5 ⟨d0, by omega⟩ (((ExB.of e2).trans x3).trans ((ExB.of e4).trans x5)) b5⟩
  have : many.natAbs ≤ 100000000000000000000 := by omega
  exact Nat.lt_of_le_of_lt this (by decide)
theorem app_I {σ : L2.St} {H : Hp} {l b : Addr} {xs : List V} {i : Nat} {te : TE} {D : Ends} {Pd : Int → Prop} (hv : σ[i]? = some (some (.ref l))) (hl : H l = some (.lst xs)) (hlb : l ≠ b) (hb : Bx H b) (hz : xs.length < 100000) (h : EvI b te σ Pd) (k : ∀ d H2, Pd d → ExB b H H2 → Bx H2 b → D.nx σ (upd H2 l (.lst (xs ++ [.int d])))) : tDrop (tBM K "list" rAppend (tVar i) (tCons te tNil)) D σ H :=
  ⟨_, hv, Or.inl ⟨rfl, xs, sq_of hl⟩, h H hb _ fun d H2 hd e2 b2 => ⟨l, xs, .int d, rfl, rfl, e2 l _ hlb hl, sz_lt hz, k d H2 hd e2 b2⟩⟩
theorem dp_rows {H : Hp} : ∀ {rs : List Addr} {G : List (List Int)}, Rw .tup H rs G → DpAll K H (rs.map V.ref) (G.map fun row => PyData.tuple ((row.map V.int).map dat))
  | [], [], _ => .nil
  | r :: rs, g :: G, h => .cons (.tup (st_of (h.row 0 (by simp))) (dp_dats fun v hv => by
      obtain ⟨i, _, rfl⟩ := List.mem_map.mp hv
      exact atm_int)) (dp_rows ⟨by have := h.len; simpa using this, fun k hk => h.row (k + 1) (by simpa using hk)⟩)
  | [], g :: G, h => absurd h.len (by simp)
  | r :: rs, [], h => absurd h.len (by simp)
theorem atm_ints {F : List Int} : ∀ v ∈ F.map V.int, Atm v := fun v hv => by
  obtain ⟨i, _, rfl⟩ := List.mem_map.mp hv
  exact atm_int
theorem rows_ok {G : List (List Int)} : ∀ d ∈ G.map fun row => PyData.tuple ((row.map V.int).map dat), d.canLay0 = true ∧ d.depth ≤ 1 ∧ PyData.eqv d d = true := by
  intro d hd
  obtain ⟨row, _, rfl⟩ := List.mem_map.mp hd
  obtain ⟨b1, b2, b3⟩ := lay_all (dats_ok (atm_ints (F := row)))
  refine ⟨b1, ?_, by simp only [PyData.eqv, b3]⟩
  simp only [PyData.depth]
  omega
theorem ev_rowsNe {σ : L2.St} {H : Hp} {ta tb : TE} {t : Addr} {rs : List Addr} {G : List (List Int)} (h1 : Ev ta σ H (.ref t)) (ht : H t = some (.tup (rs.map V.ref))) (hr : Rw .tup H rs G) (h2 : ∀ H1, Ex H H1 → EvGT tb σ H1 .tup G) : Ev (tOp (rNeD K) ta tb) σ H (.bl false) := fun H1 e1 Q q =>
  h1 H1 e1 _ fun H2 e2 => h2 H2 (e1.trans e2) H2 (Ex.refl H2) _ fun p rs2 H3 hp e3 h3 hr3 _ => ⟨_, _, .tup (st_of (((e1.trans e2).trans e3) _ _ ht)) (dp_rows (hr.ex ((e1.trans e2).trans e3))), .tup (st_of h3) (dp_rows hr3), (shpT (by decide) rows_ok).1, (shpT (by decide) rows_ok).1, by
    rw [(shpT (by decide) rows_ok).2]
    exact q H3 (e2.trans e3)⟩
theorem ev_numsEq {σ : L2.St} {H : Hp} {ta tb : TE} {t : Addr} {F : List Int} (h1 : Ev ta σ H (.ref t)) (ht : H t = some (.tup (F.map V.int))) (h2 : ∀ H1, Ex H H1 → EvU tb σ H1 (F.map V.int)) : Ev (tOp (rEqD K) ta tb) σ H (.bl true) := fun H1 e1 Q q =>
  h1 H1 e1 _ fun H2 e2 => h2 H2 (e1.trans e2) H2 (Ex.refl H2) _ fun p H3 hp e3 h3 => ⟨_, _, .tup (st_of (((e1.trans e2).trans e3) _ _ ht)) (dp_dats atm_ints), .tup (st_of h3) (dp_dats atm_ints), (shpT (by decide) (dats_ok atm_ints)).1, (shpT (by decide) (dats_ok atm_ints)).1, by
    rw [(shpT (by decide) (dats_ok atm_ints)).2]
    exact q H3 (e2.trans e3)⟩
/-- signs that no row bears -/
def PX : List Nat := [101, 69, 120, 88, 32, 59, 48, 45, 95, 64, 47, 36, 70, 102, 42]
theorem k_px : Str.ofString "eExX ;0-_@/$Ff*" = S PX := by decide +kernel
theorem px_ok : ∀ c ∈ PX, c ∉ SG ∧ c < 128 := by decide +kernel
/-- the signs of the second pool -/
def PY : List Nat := [35, 46, 58, 65, 66, 67, 68, 97, 98, 99, 100, 101, 69, 120, 32, 59, 48, 45]
theorem k_py : Str.ofString "#.:ABCDabcdeEx ;0-" = S PY := by decide +kernel
theorem py_ok : ∀ c ∈ PY, c < 128 := by decide +kernel
theorem ins_len (l : List Nat) (i c : Nat) : (ins l i c).length = l.length + 1 := by
  unfold ins
  rw [List.length_append, List.length_append, List.length_take, List.length_drop]
  simp
  omega
theorem ins_mem {l : List Nat} {i c d : Nat} (h : d ∈ ins l i c) : d = c ∨ d ∈ l := by
  unfold ins at h
  rcases List.mem_append.mp h with h | h
  · rcases List.mem_append.mp h with h | h
    · exact .inr (List.mem_of_mem_take h)
    · exact .inl (List.mem_singleton.mp h)
  · exact .inr (List.mem_of_mem_drop h)
theorem ins_self (l : List Nat) (i c : Nat) : c ∈ ins l i c := by
  unfold ins
  simp
theorem okG_no {l : List Nat} {g : Int} (h : g < 0 ∨ (l.length : Int) < g) : okG l g = false := by
  unfold okG
  rcases h with h | h
  · rw [decide_eq_false (by omega), Bool.false_and]
  · rw [decide_eq_false (show ¬ g ≤ (l.length : Int) by omega), Bool.and_false]
theorem ex_of_b {f : Addr} {H H1 H' : Hp} (hf : H f = none) (e1 : Ex H H1) (e : ExB f H1 H') : Ex H H' := fun c o hc => e c o (fun z => by rw [z, hf] at hc; cases hc) (e1 c o hc)
theorem mk_fst {σ : L2.St} {H : Hp} {C : Addr} {sp : Sp} {dvs : List V} {E : XK} {ta : TA} {Q : VK} (h : ta σ H fun vs H1 => ∀ x dx, H1 x = none → H1 dx = none → dx ≠ x → sp (.ref x :: (vs ++ dvs)) (upd (upd H1 dx (.own x)) x (.ins C dx [])) (fun v H2 => v = .non ∧ Q (.ref x) H2) E) : tMake C sp dvs E ta σ H Q := h
def sp_law (K : PySem.W.Frag) : Sp := fun vs H Q _ => ∃ (a : Addr) (ns : List Int), vs = [.ref a] ∧ SqL K H a (ns.map V.int) ∧ ∀ H', Q (.bl true) H'
theorem ok_law (T : Tx K mg w) : OkD P w K mg base 9 d_law ps_law (sp_law K) := by
  refine (h_law T).ok sc_law (fun vs H Q E h => ?_) (fun cdv A outer s H vs Q E hr h => ⟨_,
      (pss_cons (ps_set (i := 1) sc_law.nd rfl (Or.inl rfl) (pe_call (ok_law_bag (P := P) (w := w) (base := base) T) (hr.mono (by decide)) (by rfl) (m_law_bag T) (k_law_bag T) (b_law_bag T) .nil passN (pa_cons (pv 0) (pa_cons pe_int pa_nil))))
      (pss_cons (ps_set (i := 2) sc_law.nd rfl (Or.inl rfl) (pe_call (ok_law_any_row (P := P) (w := w) (base := base) T) (hr.mono (by decide)) (by rfl) (m_law_any_row T) (k_law_any_row T) (b_law_any_row T) .nil passN (pa_cons (pv 1) pa_nil)))
      (pss_cons (ps_set (i := 3) sc_law.nd rfl (Or.inl rfl) (pe_call (ok_law_with_one (P := P) (w := w) (base := base) T) (hr.mono (by decide)) (by rfl) (m_law_with_one T) (k_law_with_one T) (b_law_with_one T) .nil passN (pa_cons (pv 1) (pa_cons (pv 2) (pa_cons pe_str pa_nil)))))
      (pss_cons (ps_set (i := 4) sc_law.nd rfl (Or.inl rfl) (pe_lst (pa_cons (pe_op op_sub (pe_un un_neg pe_int) (pe_call (ok_law_draw (P := P) (w := w) (base := base) T) (hr.mono (by decide)) (by rfl) (m_law_draw T) (k_law_draw T) (b_law_draw T) .nil passN (pa_cons (pv 1) (pa_cons (pe_ix ix_list (pe_lst (pa_cons pe_int (pa_cons (pe_op op_pow pe_int pe_int) pa_nil))) (pe_call (ok_law_draw (P := P) (w := w) (base := base) T) (hr.mono (by decide)) (by rfl) (m_law_draw T) (k_law_draw T) (b_law_draw T) .nil passN (pa_cons (pv 1) (pa_cons pe_int pa_nil))) (fun _ _ => rfl)) pa_nil)))) pa_nil)))
      (pss_cons (ps_expr (pe_bm PySem.F.plainAttrs_list PySem.F.slot_list_append PySem.F.type_list_append mt_append (pv 4) (pa_cons (pe_op op_add (pe_op op_add (pe_callB call_len_str (by rfl) (m_len T) (by decide +kernel) (pa_cons (pv 2) pa_nil)) pe_int) (pe_call (ok_law_draw (P := P) (w := w) (base := base) T) (hr.mono (by decide)) (by rfl) (m_law_draw T) (k_law_draw T) (b_law_draw T) .nil passN (pa_cons (pv 1) (pa_cons (pe_ix ix_list (pe_lst (pa_cons pe_int (pa_cons (pe_op op_pow pe_int pe_int) pa_nil))) (pe_call (ok_law_draw (P := P) (w := w) (base := base) T) (hr.mono (by decide)) (by rfl) (m_law_draw T) (k_law_draw T) (b_law_draw T) .nil passN (pa_cons (pv 1) (pa_cons pe_int pa_nil))) (fun _ _ => rfl)) pa_nil)))) pa_nil)))
      (pss_cons (ps_if (pt_not (pt_val (pe_call (ok_law_pieces_right (P := P) (w := w) (base := base) T) (hr.mono (by decide)) (by rfl) (m_law_pieces_right T) (k_law_pieces_right T) (b_law_pieces_right T) .nil passN (pa_cons (pv 2) (pa_cons (pv 3) (pa_cons (pv 4) pa_nil)))))) (pss_one (ps_ret pe_bl)) pss_nil)
      (pss_cons (ps_set (i := 5) sc_law.nd rfl (Or.inr rfl) (pe_call (ok_law_some_signs (P := P) (w := w) (base := base) T) (hr.mono (by decide)) (by rfl) (m_law_some_signs T) (k_law_some_signs T) (b_law_some_signs T) .nil passN (pa_cons (pe_call (ok_law_bag (P := P) (w := w) (base := base) T) (hr.mono (by decide)) (by rfl) (m_law_bag T) (k_law_bag T) (b_law_bag T) .nil passN (pa_cons (pv 0) (pa_cons pe_int pa_nil))) pa_nil)))
      (pss_cons (ps_set (i := 6) sc_law.nd rfl (Or.inl rfl) (pe_call (ok_law_tables (P := P) (w := w) (base := base) T) (hr.mono (by decide)) (by rfl) (m_law_tables T) (k_law_tables T) (b_law_tables T) .nil passN (pa_cons (pe_call (ok_law_bag (P := P) (w := w) (base := base) T) (hr.mono (by decide)) (by rfl) (m_law_bag T) (k_law_bag T) (b_law_bag T) .nil passN (pa_cons (pv 0) (pa_cons pe_int pa_nil))) (pa_cons (pv 5) pa_nil))))
      (pss_cons (ps_set (i := 7) sc_law.nd rfl (Or.inl rfl) (pe_make (mk_Machine T) (ok_Machine_init (P := P) (w := w) (base := base) T) (hr.mono (by decide)) (by rfl) (m_Machine T) (b_Machine_init T) .nil passN (pa_cons (pv 5) (pa_cons (pe_lc (own := [("line", 10)]) (g := gName 10) rfl sc_law.nd (pi_list (pe_ix ix_tup (pv 6) pe_int (fun _ _ => rfl))) (blkOk_by (own := [("line", 10)]) (N := ns_law) (sc := (defScope st_law)) (by decide +kernel)) (fun _ _ _ _ _ => pg_name (i := 10) sc_law.nd rfl (Or.inl rfl)) (fun _ _ _ _ _ => pts_nil) (fun _ _ _ _ _ => (pe_callTy (show CallR _ (.type "list") (rListOf K) from call_list_of) (by rfl) (m_list T) (by decide +kernel) (pa_cons (pv 10) pa_nil)))) (pa_cons (pe_callTy (show CallR _ (.type "list") (rListOf K) from call_list_of) (by rfl) (m_list T) (by decide +kernel) (pa_cons (pe_ix ix_tup (pv 6) pe_int (fun _ _ => rfl)) pa_nil)) pa_nil)))))
      (pss_cons (ps_set (i := 1) sc_law.nd rfl (Or.inl rfl) (pe_call (ok_law_bag (P := P) (w := w) (base := base) T) (hr.mono (by decide)) (by rfl) (m_law_bag T) (k_law_bag T) (b_law_bag T) .nil passN (pa_cons (pv 0) (pa_cons pe_int pa_nil))))
      (pss_cons (ps_set (i := 2) sc_law.nd rfl (Or.inl rfl) (pe_call (ok_law_row (P := P) (w := w) (base := base) T) (hr.mono (by decide)) (by rfl) (m_law_row T) (k_law_row T) (b_law_row T) .nil passN (pa_cons (pv 1) (pa_cons (pv 5) pa_nil))))
      (pss_cons (ps_setLc (i := 8) (own := [("sign", 9)]) (g := gName 9) rfl sc_law.nd rfl rfl (sw_true rfl rfl rfl (by decide +kernel)) (pi_str pe_str) (blkOk_by (own := [("sign", 9)]) (N := ns_law) (sc := (defScope st_law)) (by decide +kernel)) (fun _ _ _ _ _ => pg_name (i := 9) sc_law.nd rfl (Or.inl rfl)) (fun _ _ _ _ _ => (pts_one (pt_cmpR op_notIn_sign (pv 9) (pv 5) (by rfl)))) (fun _ _ _ _ _ => (pv 9)))
      (pss_cons (ps_set (i := 3) sc_law.nd rfl (Or.inl rfl) (pe_call (ok_law_with_one (P := P) (w := w) (base := base) T) (hr.mono (by decide)) (by rfl) (m_law_with_one T) (k_law_with_one T) (b_law_with_one T) .nil passN (pa_cons (pv 1) (pa_cons (pv 2) (pa_cons (pv 8) pa_nil)))))
      (pss_cons (ps_if (pt_not (pt_val (pe_call (ok_law_effects_right (P := P) (w := w) (base := base) T) (hr.mono (by decide)) (by rfl) (m_law_effects_right T) (k_law_effects_right T) (b_law_effects_right T) .nil passN (pa_cons (pv 7) (pa_cons (pv 6) (pa_cons (pv 2) (pa_cons (pv 3) pa_nil))))))) (pss_one (ps_ret pe_bl)) pss_nil)
      (pss_cons (ps_if (PW.pt (pw_or (pt_cmpR op_ne (pe_fld (pv 7) rfl) (pv 5) (nomark _)) (pw_or1 (pt_cmpR (op_neD hr.units) (pe_fld (pv 7) rfl) (pe_callTy (show CallR _ (.type "tuple") (rTupOf K) from call_tuple_of) (by rfl) (m_tuple T) (by decide +kernel) (pa_cons (pe_lc (own := [("line", 10)]) (g := gName 10) rfl sc_law.nd (pi_list (pe_ix ix_tup (pv 6) pe_int (fun _ _ => rfl))) (blkOk_by (own := [("line", 10)]) (N := ns_law) (sc := (defScope st_law)) (by decide +kernel)) (fun _ _ _ _ _ => pg_name (i := 10) sc_law.nd rfl (Or.inl rfl)) (fun _ _ _ _ _ => pts_nil) (fun _ _ _ _ _ => (pe_callTy (show CallR _ (.type "tuple") (rTupOf K) from call_tuple_of) (by rfl) (m_tuple T) (by decide +kernel) (pa_cons (pv 10) pa_nil)))) pa_nil)) (nomark _))))) (pss_one (ps_ret pe_bl)) pss_nil)
      (pss_one (ps_ret (pe_cmpR (op_eqD hr.units) (pe_fld (pv 7) rfl) (pe_callTy (show CallR _ (.type "tuple") (rTupOf K) from call_tuple_of) (by rfl) (m_tuple T) (by decide +kernel) (pa_cons (pe_ix ix_tup (pv 6) pe_int (fun _ _ => rfl)) pa_nil)) (nomark _))))))))))))))))))), ?_⟩)
  · obtain ⟨a, ns, rfl, _⟩ := h
    rfl
  · obtain ⟨a, ns, rfl, hs, q⟩ := h
    simp only [k_px, k_py]
    refine Lc.q_first (call_fst ?_)
    refine (ea_cons (by exact ev_var rfl) (ea_cons ev_c ea_nil)) H (Ex.refl H) _ fun H1 e1 => ⟨a, ns, 0, rfl, ex_l e1 hs, by decide, by decide, fun b H2 hb e2 b2 => ?_⟩
    have X2 := e1.trans e2
    try dsimp only [List.set]
    refine Lc.q_first (call_fst ⟨_, rfl, b, rfl, b2, fun l H3 hl hg x3 b3 => ?_⟩)
    try dsimp only [List.set]
    refine Lc.q_first (call_fst ⟨_, rfl, _, rfl, ⟨b, l, PX, _, rfl, b3, by omega, by decide, by decide, .inl rfl, fun i c H4 hi hc x4 b4 => ?_⟩⟩)
    try dsimp only [List.set]
    have x24 := x3.trans x4
    have X24 : Ex H1 H4 := ex_of_b hb e2 x24
    have hst : ¬ Good (ins l i c) := fun h => (px_ok c hc).1 (h c (ins_self l i c))
    have hrs : Row (ins l i c) := ⟨by rw [ins_len]; omega, fun d hd => by
      rcases ins_mem hd with rfl | hd
      · exact (px_ok d hc).2
      · exact hg.low d hd⟩
    clear x3 b3 x4
    refine Lc.q_first ?_
    refine (ei_op (b := b) (Pa := (· = -1)) (Pd := fun g => -100000000000000000001 ≤ g ∧ g < 0) (ei_is fun H => ev_un ev_c ru_neg) (ei_far rfl) (fun x y hx hy => by subst hx; omega)) H4 b4 _ fun g1 H5 hg1 x5 b5 => ⟨sz_of (by simp), fun p hp => ?_⟩
    have pb := bx_ne b5 hp
    have h6 : upd H5 p (.lst [.int g1]) p = some (.lst [.int g1]) := upd_same
    have b6 : Bx (upd H5 p (.lst [.int g1])) b := b5.put2 pb
    have x6 : ExB b H5 (upd H5 p (.lst [.int g1])) := ExB.of (Ex.new hp)
    generalize upd H5 p (.lst [.int g1]) = H6 at h6 b6 x6 ⊢
    try dsimp only [List.set]
    refine q_seq2 (app_I (b := b) (Pd := fun g => (l.length : Int) < g ∧ g < 100000000000000000100) rfl h6 pb b6 (by simp) (ei_op (Pa := (· = (l.length : Int) + 1)) (ei_is fun H => ev_op (ev_cb (ea_cons (by exact ev_var rfl) ea_nil) (rc_lenStr (by omega))) ev_c rv_I0) (ei_far rfl) (fun x y hx hy => by subst hx; omega)) fun g2 H7 hg2 x7 b7 => ?_)
    have h8 : upd H7 p (.lst ([.int g1] ++ [.int g2])) p = some (.lst ([g1, g2].map V.int)) := upd_same
    have x8 : ExB b H5 (upd H7 p (.lst ([.int g1] ++ [.int g2]))) := (x6.trans x7).mut hp
    have X8 : Ex H (upd H7 p (.lst ([.int g1] ++ [.int g2]))) := e1.trans (ex_of_b hb e2 ((x24.trans x5).trans x8))
    clear x6 x7 b6 h6
    generalize upd H7 p (.lst ([.int g1] ++ [.int g2])) = H8 at h8 x8 X8 ⊢
    try dsimp only
    refine q_when (b := !true) (et_not (et_B (ev_call (ea_cons (by exact ev_var rfl) (ea_cons (by exact ev_var rfl) (ea_cons (by exact ev_var rfl) ea_nil))) fun H9 e9 Q9 q9 E9 => ⟨l, ins l i c, p, [g1, g2], rfl, by omega, hg, hrs, hst, e9 _ _ h8, by simp, fun g hgm => ?_, q9⟩))) (fun hb => by simp at hb) fun _ H9 e9 => ?_
    · simp only [List.mem_cons, List.not_mem_nil, or_false] at hgm
      rcases hgm with rfl | rfl
      · exact ⟨okG_no (.inl hg1.2), lg_small (by omega)⟩
      · exact ⟨okG_no (.inr hg2.1), lg_small (by omega)⟩
    have X9 := X8.trans e9
    clear e9 h8 x8 X8 x24 X24 b7 b5 x5 b2 e2 X2 b4 e1
    -- the signs and the tables
    refine Lc.q_first (call_fst (Lc.cons_fst (call_fst ?_)))
    refine (ea_cons (by exact ev_var rfl) (ea_cons ev_c ea_nil)) H9 (Ex.refl H9) _ fun H10 e10 => ⟨a, ns, 1, rfl, ex_l (X9.trans e10) hs, by decide, by decide, fun b2 H11 hb2 e11 bb2 => ⟨b2, rfl, bb2, fun sg H12 hsg x12 b12 => ?_⟩⟩
    have X12 := (X9.trans e10).trans (ex_of_b hb2 e11 x12)
    have ll := sg_len hsg
    clear x12 b12 bb2 e11 hb2 e10 X9
    try dsimp only [List.set]
    refine Lc.q_first (call_fst (Lc.cons_fst (call_fst ?_)))
    refine (ea_cons (by exact ev_var rfl) (ea_cons ev_c ea_nil)) H12 (Ex.refl H12) _ fun H13 e13 => ⟨a, ns, 2, rfl, ex_l (X12.trans e13) hs, by decide, by decide, fun b3 H14 hb3 e14 bb3 => ⟨_, rfl, b3, sg, rfl, bb3, by omega, fun tt ta tf rs G F H15 hD hne hT x15 b15 => ?_⟩⟩
    have X15 := (X12.trans e13).trans (ex_of_b hb3 e14 x15)
    obtain ⟨har, hFp, hFin, hG5, hF5⟩ := hD
    obtain ⟨g0, gk⟩ := isAr_ok har
    have hSm : Sm G := ⟨by omega, fun row hrow => by
      obtain ⟨k, hk, rfl⟩ := List.getElem_of_mem hrow
      have := (gk k hk).1
      rw [List.getD_eq_getElem?_getD, List.getElem?_eq_getElem hk] at this
      have h2 : (G[k]).length = sg.length := this
      omega⟩
    clear x15 b15 hne bb3 e14 hb3 e13 X12
    try dsimp only [List.set]
    have ix : ∀ {σ : L2.St} {H1 : Hp} {i : Int} {y : V}, Ex H15 H1 → σ[6]? = some (some (.ref tt)) → atI [V.str (S sg), V.ref ta, V.ref tf] i = some y → Ev (tOp (rIxT K) (tVar 6) (tC (.int i))) σ H1 y := fun e h0 hi => ev_op (ev_var h0) ev_c (rv_ixT (st_of (e _ _ hT.t)) hi)
    refine Lc.q_first (mk_fst ⟨_, rfl, Lc.cons_fst ?_⟩)
    refine eg_L (c := .lst) (G := G) (xs := rs.map V.ref) (ix (Ex.refl H15) rfl rfl) (sq_of hT.a) (by rw [List.length_map, hT.r.len]) (by omega) (fun x => rfl) (fun k x H16 e16 hk => ?_) H15 (Ex.refl H15) _ fun gp grs H16 hgp e16 h16 hR16 _ _ => ?_
    · obtain ⟨hk2, rfl, hrow⟩ := hT.r.at_ hk
      exact el_listOf (by exact ev_var rfl) (.inl (sq_of (e16 _ _ hrow)))
    refine Lc.cons_fst (el_listOf (xs := F.map V.int) (ix e16 rfl rfl) (.inl (sq_of (e16 _ _ hT.f))) H16 (Ex.refl H16) _ fun fp H17 hfp e17 h17 => fun o dx ho hdx hne => ?_)
    have eN : Ex H17 (upd (upd H17 dx (.own o)) o (.ins (cM K) dx [])) := (Ex.new hdx).mut ho
    refine ⟨o, dx, gp, fp, sg, G, F, rfl, ⟨grs, .inl (eN _ _ (e17 _ _ h16)), hR16.ex (e17.trans eN)⟩, hSm, hsg, har, eN _ _ h17, hFp, hFin, by omega, upd_same, fun H18 x18 hM => ⟨rfl, ?_⟩⟩
    have E18 := (e16.trans e17).trans (ex_of_b ho eN x18)
    have X18 := X15.trans E18
    have T18 := hT.ex E18
    clear x18 eN h17 e17 hR16 h16 e16 E18 X15
    try dsimp only [List.set]
    -- a row, and a strange one
    refine Lc.q_first (call_fst ?_)
    refine (ea_cons (by exact ev_var rfl) (ea_cons ev_c ea_nil)) H18 (Ex.refl H18) _ fun H19 e19 => ⟨a, ns, 3, rfl, ex_l (X18.trans e19) hs, by decide, by decide, fun b4 H20 hb4 e20 bb4 => ?_⟩
    try dsimp only [List.set]
    have sgne : 0 < sg.length := List.length_pos_iff.mpr (isSg_ok hsg).1
    refine Lc.q_first (call_fst ⟨_, rfl, _, rfl, b4, sg, rfl, bb4, sgne, by omega, fun r H21 hr hrin x21 b21 => ?_⟩)
    try dsimp only [List.set]
    refine q_asgL (xs := (PY.filter fun c => !decide (c ∈ sg)).map fun c => V.str (S [c])) ?_ fun pp H22 hpp e22 h22 => ?_
    · have h4 := el_lcS (σ := [some (.ref a), some (.ref b4), some (.str (S r)), some (.str (S (ins l i c))), some (.ref p), some (.str (S sg)), some (.ref tt), some (.ref o), none, none, none]) (H := H21) (tl := tC (.str (S PY))) (j := 9) (vs := [9]) (t := tTest (tOp (fun x y H Q => ∃ (c : Nat) (z : Str), x = .str ⟨#[c]⟩ ∧ y = .str z ∧ Q (.bl (!decide (c ∈ z.cps.toList))) H) (tVar 9) (tVar 5))) (te := tVar 9) (l := PY) (fun k => !decide (PY.getD k 0 ∈ sg)) (fun k => V.str (S [PY.getD k 0])) ev_c (by decide) (fun x => rfl) (fun k d H23 e23 hk => ?_) (fun k d H23 e23 hk _ => ?_)
      · rw [given_filter PY 0 (fun c => !decide (c ∈ sg)) fun c => V.str (S [c])] at h4
        exact h4
      · have e0 := (getD_lt hk).1
        rw [e0]
        exact et_test (ev_op (by exact ev_var rfl) (by exact ev_var rfl) rv_notInSS)
      · have e0 := (getD_lt hk).1
        rw [e0]
        exact ev_var rfl
    try dsimp only [List.set]
    have ppb := bx_ne b21 hpp
    have pmem : 101 ∈ PY.filter fun c => !decide (c ∈ sg) := List.mem_filter.mpr ⟨by decide, by
      have : 101 ∉ sg := fun h => absurd ((isSg_ok hsg).2.1 101 h) (by decide)
      rw [decide_eq_false this]
      rfl⟩
    have plen : (PY.filter fun c => !decide (c ∈ sg)).length ≤ 18 := List.length_filter_le _ _
    refine Lc.q_first (call_fst ⟨_, rfl, _, rfl, ⟨_, rfl, b4, r, _, _, rfl, b21.ex e22, by omega, List.length_pos_of_mem pmem, by omega, .inr ⟨pp, rfl, ppb, h22⟩, fun j d H23 hj hd x23 b23 => ?_⟩⟩)
    try dsimp only [List.set]
    obtain ⟨hd1, hd2⟩ := List.mem_filter.mp hd
    have hd2 : d ∉ sg := of_decide_eq_false (not_t hd2)
    have X23 : Ex H19 H23 := ex_of_b hb4 e20 ((x21.trans (ExB.of e22)).trans x23)
    have M23 := hM.ex (e19.trans X23)
    have T23 := T18.ex (e19.trans X23)
    clear x21 x23 b21 b23 e22 h22 X23 bb4 e20 hb4 e19 X18
    have hrlow : ∀ c ∈ r, c < 128 := fun c hc => isSg_low hsg c (hrin c hc)
    refine q_when (b := !true) (et_not (et_B (ev_call (ea_cons (by exact ev_var rfl) (ea_cons (by exact ev_var rfl) (ea_cons (by exact ev_var rfl) (ea_cons (by exact ev_var rfl) ea_nil)))) fun H24 e24 Q24 q24 E24 => ⟨o, tt, ta, tf, rs, sg, G, F, r, ins r j d, rfl, M23.ex e24, T23.ex e24, by omega, hrin, by rw [ins_len]; omega, fun c hc => ?_, fun h => hd2 (h d (ins_self r j d)), q24⟩))) (fun hb => by simp at hb) fun _ H24 e24 => ?_
    · rcases ins_mem hc with rfl | hc
      · exact py_ok c hd1
      · exact hrlow c hc
    have M24 := M23.ex e24
    have T24 := T23.ex e24
    have ix4 : ∀ {σ : L2.St} {H1 : Hp} {i : Int} {y : V}, Ex H24 H1 → σ[6]? = some (some (.ref tt)) → atI [V.str (S sg), V.ref ta, V.ref tf] i = some y → Ev (tOp (rIxT K) (tVar 6) (tC (.int i))) σ H1 y := fun e h0 hi => ev_op (ev_var h0) ev_c (rv_ixT (st_of (e _ _ T24.t)) hi)
    obtain ⟨_, _, _, dx4, t4, f4, rs4, m1, m2, m3, m4⟩ := id M24
    try dsimp only
    refine q_when (b := !decide (sg = sg) || false) (et_or (et_test (ev_op (ev_sgn (te := tVar 7) T (ev_var rfl) M24) (by exact ev_var rfl) rv_neSS)) fun _ => et_test (ev_rowsNe (ev_fldM (te := tVar 7) (f := "arrows") T (ev_var rfl) m1 (n_Machine_arrows T) rfl) m2 m3 fun H25 e25 => eg_tup (eg_L (c := .tup) (G := G) (xs := rs.map V.ref) (ix4 e25 rfl rfl) (sq_of (e25 _ _ T24.a)) (by rw [List.length_map, T24.r.len]) (by omega) (fun x => rfl) (fun k x H26 e26 hk => ?_)))) (fun hb => by simp at hb) fun _ H25 e25 => ?_
    · obtain ⟨hk2, rfl, hrow⟩ := T24.r.at_ hk
      exact eu_tupL (by exact ev_var rfl) (sq_of ((e25.trans e26) _ _ hrow))
    exact s_ret (ev_numsEq (ev_fldM (te := tVar 7) (f := "finals") T (ev_var rfl) (e25 _ _ m1) (n_Machine_finals T) rfl) (e25 _ _ m4) fun H26 e26 => eu_tupL (ix4 (e25.trans e26) rfl rfl) (sq_of ((e25.trans e26) _ _ T24.f))) fun H26 _ => q H26

end
end K49
namespace Lc
open PySem PySem.Spec PyProof.Rows L2
/-! ### the facts of a head, over a written list of addresses -/
def obsL (as : List Addr) (fa : List He.Fa) (fn : List He5.DefA) (ts : List He.Tab) (ex : PySem.W.Frag → Bool) (g : Addr → Option Obj) : AlE := obsE fa fn ts ex (He.frG g as)
def hookL (as : List Addr) (fa : List He.Fa) (fn : List He5.DefA) (ts : List He.Tab) (ex : PySem.W.Frag → Bool) : PySem.W.Hook where
  α := AlE
  obs := fun s => obsL as fa fn ts ex s.heap.get?
  val := fun w => (He5.valA fn, ts.map (fun t : He.Tab => some (He.keysIn w.params t.2)), true)
  says := fun w h => ∃ K : PySem.W.Frag, K.In h ∧ SaysM fa fn ts ex w K
  of := fun _ _ e => ⟨_, He.frG_in, congrArg (fun z : AlE => z.1) e, congrArg (fun z : AlE => z.2.1) e, congrArg (fun z : AlE => z.2.2) e⟩
  keeps := fun _ _ _ ⟨K, hK, c⟩ k => ⟨K, PySem.W.Frag.In.keeps hK k, c⟩
theorem obsL_eq {as : List Addr} {fa : List He.Fa} {fn : List He5.DefA} {ts : List He.Tab} {ex : PySem.W.Frag → Bool} {g : Addr → Option Obj} {s : Shared} (h : ∀ a, g a = s.heap.get? a) : obsL as fa fn ts ex g = (hookL as fa fn ts ex).obs s := by
  have e : g = s.heap.get? := funext h
  rw [e] <;> rfl
end Lc
namespace K49
open PySem PySem.Spec PyProof.Rows L2 Lc
def adr0 : List Addr := [3, 6, 4, 21, 31, 51, 70, 89, 108, 115, 123, 130, 137, 144, 149, 156, 163, 169, 174, 179, 184, 189, 196, 203, 210, 211, 212, 213, 214, 219, 224, 229, 235, 240, 245, 252, 257, 410, 421, 428]
def adr1 : List Addr := [435, 440, 447, 454, 459, 464, 471, 478, 485, 492, 499, 506, 513, 520, 525, 530, 0, 20, 30, 50, 69, 88, 107, 114, 122, 116, 129, 136, 143, 148, 155, 162, 168, 164, 173, 178, 183, 188, 195, 202]
def adr2 : List Addr := [209, 218, 223, 228, 234, 230, 239, 244, 251, 256, 409, 420, 427, 434, 439, 446, 453, 458, 463, 470, 477, 484, 491, 498, 505, 512, 519, 524, 529, 15, 16, 17, 18, 19, 29, 32, 48, 49, 67, 68]
def adr3 : List Addr := [86, 87, 105, 106, 111, 112, 113, 117, 118, 119, 120, 121, 124, 125, 126, 127, 128, 131, 132, 133, 134, 135, 138, 139, 140, 141, 142, 145, 146, 147, 150, 151, 152, 153, 154, 157, 158, 159, 160, 161]
def adr4 : List Addr := [165, 166, 167, 170, 171, 172, 175, 176, 177, 180, 181, 182, 185, 186, 187, 190, 191, 192, 193, 194, 197, 198, 199, 200, 201, 204, 205, 206, 207, 208, 215, 216, 217, 220, 221, 222, 225, 226, 227, 231]
def adr5 : List Addr := [232, 233, 236, 237, 238, 241, 242, 243, 246, 247, 248, 249, 250, 253, 254, 255, 269, 277, 284, 291, 298, 305, 312, 319, 326, 333, 340, 347, 354, 361, 366, 371, 378, 386, 396, 406, 408, 411, 412, 415]
def adr6 : List Addr := [416, 417, 418, 419, 422, 423, 424, 425, 426, 429, 430, 431, 432, 433, 436, 437, 438, 441, 442, 443, 444, 445, 448, 449, 450, 451, 452, 455, 456, 457, 460, 461, 462, 465, 466, 467, 468, 469, 472, 473]
def adr7 : List Addr := [474, 475, 476, 479, 480, 481, 482, 483, 486, 487, 488, 489, 490, 493, 494, 495, 496, 497, 500, 501, 502, 503, 504, 507, 508, 509, 510, 511, 514, 515, 516, 517, 518, 521, 522, 523, 526, 527, 528, 47]
def adr8 : List Addr := [66, 85, 104, 268, 276, 283, 290, 297, 304, 311, 318, 325, 332, 339, 346, 353, 360, 365, 370, 376, 377, 384, 385, 394, 395, 404, 405, 42, 43, 44, 45, 46, 61, 62, 63, 64, 65, 80, 81, 82]
def adr9 : List Addr := [83, 84, 99, 100, 101, 102, 103, 265, 266, 267, 275, 278, 279, 280, 281, 282, 285, 286, 287, 288, 289, 292, 293, 294, 295, 296, 299, 300, 301, 302, 303, 306, 307, 308, 309, 310, 313, 314, 315, 316]
def adr10 : List Addr := [317, 320, 321, 322, 323, 324, 327, 328, 329, 330, 331, 334, 335, 336, 337, 338, 341, 342, 343, 344, 345, 348, 349, 350, 351, 352, 355, 356, 357, 358, 359, 362, 363, 364, 367, 368, 369, 375, 379, 383]
def adr11 : List Addr := [387, 393, 397, 403, 407, 2]
def adr : List Addr := adr0 ++ (adr1 ++ (adr2 ++ (adr3 ++ (adr4 ++ (adr5 ++ (adr6 ++ (adr7 ++ (adr8 ++ (adr9 ++ (adr10 ++ (adr11)))))))))))
abbrev hk : PySem.W.Hook := hookL adr fa fn ts ex
def ob (s : PySem.W.SharedT) : AlE := obsL adr fa fn ts ex (HandSHeadRun.getT s)
theorem ob_eq (s : PySem.W.SharedT) : ob s = hk.obs s.abs := obsL_eq (HandSHeadRun.getT_eq s)
theorem run0 (w : World) : HandSHeadRun.RunEq R (PySem.W.view R.prog [61]) hk ob 24000 names (w.withFollow "special-get-raises" false) := by
  intro os
  kernel_rfl
theorem run1 (w : World) : HandSHeadRun.RunEq R (PySem.W.view R.prog [61]) hk ob 24000 names (w.withFollow "special-get-raises" true) := by
  intro os
  kernel_rfl
theorem run (w : World) : HandSHeadRun.RunEq R (PySem.W.view R.prog [61]) hk ob 24000 names w := PySem.W.byRow2 "special-get-raises" (P := fun w => HandSHeadRun.RunEq R (PySem.W.view R.prog [61]) hk ob 24000 names w) run0 run1 w
end K49
namespace K49
open PySem PySem.Spec PyProof.Rows L2 Lc Evl
theorem walkX {l : PySem.W.OpenLaw} {m lev : Nat} {qp : Program} {los : List Str} {Xq : (Str → Option Value) → Heap → Prop} {Yq : World → Heap → Prop} {dr : DefRec} {z : Str}
    (h1 : l.most = some m) (h2 : m ≤ sizeLine) (h3 : dr.params.defaults = []) (h4 : Room lev callerA)
    (F : ∀ (w : World) (mg : Str → Option Value) (g : Addr) (hp : Heap), Yq w hp → hp.Ns mainGlobals mg → mg dr.name = some (.ref g) → ∃ (K : PySem.W.Frag) (fd : FuncData) (sp : Sp), K.In hp ∧
        (∀ (t : Shared) (v : Value), BindsTo t fd ⟨[v], []⟩ [(z, v)]) ∧ (∀ (H : Hp) (c : Addr) (is : List Int), SqL K H c (is.map V.int) → sp [.ref c] H (fun r _ => r = .bl true) fun _ _ _ => False) ∧
        ∀ b : Heap, K.In b → b.Ns mainGlobals mg → FnOk l.prog w K mg b (L2N.CX l.prog w) lev g fd [z] sp) : PySem.W.WalkO qp los Xq Yq l.row.toRowW dr [] (fun f vs => PySem.call f vs) := by
  refine Att.attach_call h1 h3 fun w _ _ mg _ g _ _ _ _ _ _ is G Y _ _ _ k1 ho hi hl hg => ?_
  obtain ⟨K, fd, sp, KX, hb, hsp, hF⟩ := F w mg g _ Y G.T.g k1
  refine law_call KX G.T.g G.T.b G.T.builtins G.T.nolimit hg ho hi (Nat.le_trans hl h2) h4 hF hb (fun H _ hS => hsp H _ is hS) ?_
  intro H e s' h
  obtain ⟨_, _, _, _, _, _, _, _, _, _, _, _, no⟩ := h
  exact no
theorem facts {P : Program} {w : World} {K : PySem.W.Frag} {h : Heap} {mg : Str → Option Value} {f : Addr} (X : K.In h) (G : h.Ns mainGlobals mg) (hfa : mg ("law" : Str) = some (.ref f)) (c : SaysM fa fn ts ex w K) :
    ∃ fd : FuncData, (∀ (s : Shared) (v : Value), BindsTo s fd ⟨[v], []⟩ [("script", v)]) ∧ ∀ base : Heap, K.In base → base.Ns mainGlobals mg → FnOk P w K mg base (L2N.CX P w) 9 f fd ["script"] (sp_law K) := by
  have T : Tx K mg w := ⟨⟨h, X, G⟩, c⟩
  have e := hfa.symm.trans (m_law T)
  cases e
  have b := FunD.bindsA (ps := ["script"]) (h_law T) fun _ _ _ _ _ _ us hl => match us, hl with | [_], _ => rfl
  exact ⟨_, fun s v => b s [v] rfl, fun base _ _ => ok_law T⟩
end K49
open PySem PySem.W PySem.Calls PyProof.Rows
theorem PySem.Challenge.cw_leapcard_k49_pieces_cut_rows_holds : PySem.Challenge.rw_leapcard_k49_pieces_cut_rows.Holds := by
  w_on; o_law
  refine HandSHeadRun.head_any (r := OpenLaw.row PySem.Challenge.rw_leapcard_k49_pieces_cut_rows) (q := view (OpenLaw.row PySem.Challenge.rw_leapcard_k49_pieces_cut_rows).prog [61]) (H := K49.hk) (ob := K49.ob) (M := 24000) (loose := K49.names) (d := HandSHeadRun.topDef (OpenLaw.row PySem.Challenge.rw_leapcard_k49_pieces_cut_rows).prog 61) (kwd := []) K49.ob_eq
    (by kernel_rfl) (fun s => by kernel_rfl) K49.run (by kernel_rfl) (by kernel_rfl) (by kernel_rfl) (by rfl) (by first | assumption | decide +kernel) (by decide +kernel) ⟨rfl, rfl, rfl, rfl, rfl, by decide +kernel⟩ ?hw ?hc
  case hw => w_witness2
  case hc =>
    refine K49.walkX (l := PySem.Challenge.rw_leapcard_k49_pieces_cut_rows) (m := 63) (lev := 9) (z := "script") rfl (by decide) (by kernel_rfl) ⟨rfl, by decide, by decide⟩ ?F
    intro w mg fa h Y G hmg0
    obtain ⟨K, KX, c⟩ := Y
    have hmg : mg ("law" : PySem.Str) = some (.ref fa) := by
      have e : (HandSHeadRun.topDef (OpenLaw.row PySem.Challenge.rw_leapcard_k49_pieces_cut_rows).prog 61).name = ("law" : PySem.Str) := by kernel_rfl
      rw [← e]
      exact hmg0
    obtain ⟨fd, hb, hF⟩ := K49.facts (P := (PySem.Challenge.rw_leapcard_k49_pieces_cut_rows).prog) (w := w) KX G hmg c
    exact ⟨K, fd, K49.sp_law K, KX, hb, fun H a ns hS => ⟨a, ns, rfl, hS, fun _ => rfl⟩, hF⟩
