import PyProof.Rows.All
import Wide.All
import OpenK.AllK
import Wide.FinOn
import HandS.ForMost
import HandS.Exc
import HandS.ExcInit
import HandS.ExcCtx
import HandS.ExcField
import HandS.ExcIs
import HandS.TryOnly
import HandS.ExcOwn
import HandS.CallSlots
import HandS.WordsExc
import HandS.HotCalls
import HandS.SuiteRaise
import HandS.Defaults
import HandS.Wide
import HandS.FStr
import HandS.StrMore
import HandS.IsInst
import HandS.Evl
import HandS.Head0
import HandS.Head1
import HandS.Head2
import HandS.HeadEnd
import HandS.HeadHook1
import HandS.HeadHook2
import HandS.EndBits
import HandS.HeadHook3
import HandS.HeadNt
import HandS.More
import HandS.ClsMeth
import HandS.Style
import HandS.SortKw
import KE.KRevSl
import KE.DatumOrd
import KE.KCallOwn
import HandS.OwnEq
import HandS.ReplaceLit
import HandS.ReplaceDef
import HandS.FStrTup
import HandS.Conv
import PyProof.CollectStr
import HandS.Zip
import KE.KOpsOwn
import PySem.Challenge.RW_leapcard_k57_all_falling_weights
import HandS.DictComp
import HandS.Walk
import KE.GoesZip
import KE.GoesMore
import KE.KUnpackStar
import HandS.ReplaceList
import HandS.Deep
import HandS.Strs
import PyProof.Rows.SetFrom
import HandS.Codes
import KE.KIntText
import KE.IntTextText
import Flt.Len
import KE.GoesEnum
import PyProof.StrLawsIn
import HandS.Dict
import HandS.Star
import HandS.SortInts
import HandS.SetFor
import PyProof.Rows.SortKeyStr
import PyProof.Rows.SortShellAny
import PyProof.ListStr
import PyProof.StrOps2
import HandS.TupLe
set_option Elab.async false
set_option linter.all false
set_option maxRecDepth 100000
set_option maxHeartbeats 2000000
namespace Lc
open PySem PySem.Spec PyProof.Rows L2

/-! ### an error class, whatever own classes stand between it and ValueError -/
def excC (K : PySem.W.Frag) (C : Addr) : Bool := match K.lookup C with
  | some ⟨.type "type", _, .cls cd, sl⟩ => (match cd.mro, sl.toList with
    | .ref C' :: bm, [_, _, _, _, some (.builtin n), _] => C' == C && (n == "ValueError.__new__" && (!cd.hasDel && (cd.hasDict && PySem.HandSPX.refsVE bm)))
    | _, _ => false)
  | _ => false
theorem excC_ok {K : PySem.W.Frag} {C : Addr} (q : excC K C = true) :
    ∃ nm q N bs bm sn sub ab col dd k0 k1 k2 k3 k5, K.lookup C = some (excClassObj nm q C N bs bm true sn sub ab col dd k0 k1 k2 k3 k5 "ValueError.__new__") ∧ PySem.HandSPX.refsVE bm = true := by
  unfold excC at q
  split at q
  · rename_i dd cd sl ho
    split at q
    · rename_i C' bm k0 k1 k2 k3 n k5 hm hs
      simp only [Bool.and_eq_true, beq_iff_eq, Bool.not_eq_true'] at q
      obtain ⟨rfl, rfl, hdel, hd, hv⟩ := q
      obtain ⟨nm, bs, mro, ns, qn, hdd, sn, sub, ab, col, del⟩ := cd
      dsimp only at hm hdel hd
      subst hm hdel hd
      have hsl : sl = #[k0, k1, k2, k3, some (.builtin "ValueError.__new__"), k5] := by
        obtain ⟨l⟩ := sl
        simp only at hs
        rw [hs]
      subst hsl
      exact ⟨nm, qn, ns, bs, bm, sn, sub, ab, col, dd, k0, k1, k2, k3, k5, ho, hv⟩
    · cases q
  · cases q
def oexB (K : PySem.W.Frag) (C : Addr) : Bool := excC K C && (decide (PySem.W.findIn K (.ref C) "__setattr__" = some (some (.builtin "object.__setattr__"))) && (decide (PySem.W.subIn K (.ref C) (.type "BaseException") = some true) &&
  (decide (PySem.W.typeIn K (.ref C) = some (.type "type")) && PySem.W.keepIn K (.ref C))))
theorem oexB_ok {K : PySem.W.Frag} {C : Addr} (h : oexB K C = true) : OexC K C := by
  obtain ⟨h1, h⟩ := Bool.and_eq_true_iff.mp h
  obtain ⟨h2, h⟩ := Bool.and_eq_true_iff.mp h
  obtain ⟨h3, h⟩ := Bool.and_eq_true_iff.mp h
  obtain ⟨h4, h5⟩ := Bool.and_eq_true_iff.mp h
  exact ⟨excC_ok h1, of_decide_eq_true h2, of_decide_eq_true h3, of_decide_eq_true h4, h5⟩

/-! ### the facts of a head: names, defs, tables with text keys, one more Bool -/
abbrev AlE : Type := He.AlD × (List (Option (List (Option (Str × Int)))) × Bool)
def asM (g : Addr → Option Obj) (n : Nat) : List Addr := He.asD g n ++ [cStatics]
def obsE (fa : List He.Fa) (fn : List He5.DefA) (ts : List He.Tab) (ex : PySem.W.Frag → Bool) (K : PySem.W.Frag) : AlE := (He5.obsA fa fn K, ts.map (fun t => He.dicW K (t.1 K)), ex K)
def obsEG (n : Nat) (fa : List He.Fa) (fn : List He5.DefA) (ts : List He.Tab) (ex : PySem.W.Frag → Bool) (g : Addr → Option Obj) : AlE := obsE fa fn ts ex (He.frG g (asM g n))
structure SaysM (fa : List He.Fa) (fn : List He5.DefA) (ts : List He.Tab) (ex : PySem.W.Frag → Bool) (w : World) (K : PySem.W.Frag) : Prop where
  a : He5.SaysA fa fn K
  t : ts.map (fun t => He.dicW K (t.1 K)) = ts.map fun t => some (He.keysIn w.params t.2)
  e : ex K = true
def hookM (n : Nat) (fa : List He.Fa) (fn : List He5.DefA) (ts : List He.Tab) (ex : PySem.W.Frag → Bool) : PySem.W.Hook where
  α := AlE
  obs := fun s => obsEG n fa fn ts ex s.heap.get?
  val := fun w => (He5.valA fn, ts.map (fun t : He.Tab => some (He.keysIn w.params t.2)), true)
  says := fun w h => ∃ K : PySem.W.Frag, K.In h ∧ SaysM fa fn ts ex w K
  of := fun _ _ e => ⟨_, He.frG_in, congrArg (fun z : AlE => z.1) e, congrArg (fun z : AlE => z.2.1) e, congrArg (fun z : AlE => z.2.2) e⟩
  keeps := fun _ _ _ ⟨K, hK, c⟩ k => ⟨K, PySem.W.Frag.In.keeps hK k, c⟩
theorem obsEG_eq {n : Nat} {fa : List He.Fa} {fn : List He5.DefA} {ts : List He.Tab} {ex : PySem.W.Frag → Bool} {g : Addr → Option Obj} {s : Shared} (h : ∀ a, g a = s.heap.get? a) : obsEG n fa fn ts ex g = (hookM n fa fn ts ex).obs s := by
  have e : g = s.heap.get? := funext h
  rw [e] <;> rfl
theorem SaysM.tab {fa : List He.Fa} {fn : List He5.DefA} {ts : List He.Tab} {ex : PySem.W.Frag → Bool} {w : World} {K : PySem.W.Frag} (c : SaysM fa fn ts ex w K) (i : Nat) {t : He.Tab} (h : ts[i]? = some t := by rfl) : ∃ es n, KDict K w (t.1 K) es n := by
  have e : (ts.map fun t => He.dicW K (t.1 K))[i]? = (ts.map fun t => some (He.keysIn w.params t.2))[i]? := by rw [c.t]
  rw [List.getElem?_map, List.getElem?_map, h] at e
  exact He.dicW_ok (Option.some.inj e)

/-! ### a def of the text, found by where it stands -/
instance : Inhabited FuncData := ⟨PySem.W.fnOf "" "" { posonlyargs := [], args := [], vararg := none, kwonlyargs := [], kw_defaults := [], kwarg := none, defaults := [] } [] { kind := .function, names := [], isGenerator := false, isCoroutine := false } .none .none .none .none none .none .none⟩
def fdOf (K : PySem.W.Frag) (f : Addr) : FuncData := match K.lookup f with
  | some ⟨_, _, .func fd, _⟩ => fd
  | _ => default
abbrev HasD (K : PySem.W.Frag) (d : He5.DefA) : Prop := FunD K d.name d.qual d.params d.body d.scope (d.dvs K) (d.kws K) (d.at_ K) (fdOf K (d.at_ K))
theorem fdOf_eq {K : PySem.W.Frag} {x qual : Str} {pa : Arguments} {bd : List Stmt} {sc : Scope} {dvs : List V} {kws : List (Str × V)} {f : Addr} {fd : FuncData} (F : FunD K x qual pa bd sc dvs kws f fd) : fdOf K f = fd := by
  obtain ⟨oc, od, dV, kV, doc, pm, an, cdv, ct, osl, rfl, lk, _⟩ := F.ex
  unfold fdOf
  rw [lk]
theorem has_of {fa : List He.Fa} {fn : List He5.DefA} {K : PySem.W.Frag} (c : He5.SaysA fa fn K) (i : Nat) {d : He5.DefA} (h : fn[i]? = some d) : HasD K d := by
  obtain ⟨fd, F⟩ := c.def_ i h
  show FunD K d.name d.qual d.params d.body d.scope (d.dvs K) (d.kws K) (d.at_ K) (fdOf K (d.at_ K))
  rw [fdOf_eq F]
  exact F
abbrev OkD (P : Program) (w : World) (K : PySem.W.Frag) (mg : Str → Option Value) (base : Heap) (k : Nat) (d : He5.DefA) (ps : List Str) (sp : Sp) : Prop := FnOk P w K mg base (L2N.CX P w) k (d.at_ K) (fdOf K (d.at_ K)) ps sp
end Lc
namespace Lc
open PySem PySem.Spec PyProof.Rows L2
section
variable {X : Cx}
/-! ### s[::-1] of a text -/
def revS (z : Str) : Str := ⟨z.cps.toList.reverse.toArray⟩
def tRevS (te : TE) : TE := fun σ H Q => te σ H fun x H1 => ∃ z, x = .str z ∧ z.length ≤ sizeLine ∧ Q (.str (revS z)) H1
theorem revS_picks (z : Str) : ((Builtin.Str.strSliceIndices none none (-1) z.length).filterMap (z.cps[·]?)).toArray = z.cps.toList.reverse.toArray := by
  have e : Builtin.Str.strSliceIndices none none (-1) z.length = sliceRange ((z.length : Int) - 1) (-1) (-1) := by
    first
      | rfl
      | simp [Builtin.Str.strSliceIndices]
  rw [e, PySem.W.krv_sliceRange, PySem.W.krv_range, List.filterMap_reverse]
  have h := PySem.W.krv_all z.cps
  exact congrArg (fun l : List Nat => l.reverse.toArray) h
theorem pe_revS {e : Expr} {te : TE} {k : Nat} {p1 p2 p3 pos : Pos} (he : PE X e te) : PE X (.Subscript e (.Slice none none (some (.UnaryOp .USub (.Constant (.int 1) k p1) p2)) p3) pos) (tRevS te) := by
  refine ⟨fun pins s σ H Q I h => ?_⟩
  refine Subscript_ (thn (he.run pins s σ H _ I h) fun v s1 ⟨x, H1, I1, r1, q1⟩ => ?_)
  obtain ⟨z, ex, hz, q⟩ := q1
  subst ex
  obtain ⟨t, rfl⟩ := r1
  have hst : PO X (some (.UnaryOp .USub (.Constant (.int 1) k p1) p2)) (tPart (tUn (rU fun i => .int (-i)) (tC (.int 1)))) := po_some (pe_un un_neg pe_int)
  refine wpAny_Slice (thn (po_none.run pins s1 σ H1 (fun o H2 => o = none ∧ H2 = H1) I1 ⟨rfl, rfl⟩) fun vl s2 ⟨l, H2, I2, pl, el, e2⟩ => ?_)
  subst el e2
  refine thn (po_none.run pins s2 σ H2 (fun o H3 => o = none ∧ H3 = H2) I2 ⟨rfl, rfl⟩) fun vu s3 ⟨u, H3, I3, pu, eu, e3⟩ => ?_
  subst eu e3
  refine thn (hst.run pins s3 σ H3 (fun o H4 => o = some (-1) ∧ H4 = H3) I3 ⟨1, rfl, -1, rfl, rfl, rfl⟩) fun vs s4 ⟨o, H4, I4, ps, eo, e4⟩ => ?_
  subst eo e4
  have I5 : Inv X pins σ H4 { s4 with heap := s4.heap.push { cls := .type "slice", data := .fields #[vl, vu, vs] } } := I4.kept (t' := s4.toks) fun b ob q => Heap.get?_push_of_some _ q
  cases pl
  cases pu
  cases ps with
  | int _ t5 =>
  show wpAny (model X.prog X.w) X.A (subscriptTail e (.Slice none none (some (.UnaryOp .USub (.Constant (.int 1) k p1) p2)) p3) (.str z t) (.ref s4.heap.objs.size)) (EP X pins σ Q) X.xe { s4 with heap := s4.heap.push { cls := .type "slice", data := .fields #[.none, .none, .int (-1) t5] } }
  refine tail_any (ops := [.str z t, .ref s4.heap.objs.size]) (typeIs_str _ _ _) F.slot_str_getitem.lookup ?_ (by with_unfolding_all rfl)
  refine wpAny_getItem_str_slice (l := none) (u := none) (st := some (-1, t5)) (Heap.IsSliceOf.new _ .none .none (.int (-1) t5)) (by rfl) ?_
  show Made.post (if ((-1 : Int) == 1 && (Builtin.Str.strSliceIndices none none (-1) z.length).length == z.length) = true then Made.val (.str z t)
    else Made.str ⟨((Builtin.Str.strSliceIndices none none (-1) z.length).filterMap (z.cps[·]?)).toArray⟩) (EP X pins σ Q) _
  rw [if_neg (by rw [show ((-1 : Int) == 1) = false by decide, Bool.false_and]; decide), revS_picks]
  refine ⟨?_, .str (revS z), H4, I5.tok _, ⟨_, rfl⟩, q⟩
  show z.cps.toList.reverse.toArray.size ≤ sizeLine
  have hz2 : z.cps.toList.length ≤ sizeLine := by
    have : z.length = z.cps.toList.length := by simp [Str.length]
    omega
  simpa using hz2

/-! ### min(xs, default=d) of a list of texts -/
def minS : Str → List Str → Str := PySem.W.minOf
def rMinSD (K : PySem.W.Frag) : List V → List V → Hp → VK → Prop := fun vs zs H Q => ∃ (a : Addr) (xs : List Str) (d : V), vs = [.ref a] ∧ zs = [d] ∧ SqL K H a (xs.map V.str) ∧ (xs = [] → Q d H) ∧ ∀ y ys, xs = y :: ys → Q (.str (minS y ys)) H
theorem holdAll_strs {h : Heap} : ∀ {xs : List Str} {its : List Value}, Vals (xs.map V.str) its → PySem.W.HoldAll h its xs
  | [], its, r => by
    cases r
    exact ⟨_, .nil⟩
  | x :: xs, its, r => by
    cases r with
    | cons r1 r2 =>
      obtain ⟨t, rfl⟩ := r1
      obtain ⟨as, q⟩ := holdAll_strs (h := h) r2
      exact ⟨_, .cons (.str x t) q⟩
theorem cr_minSD (hc : X.calm = true) (hu : X.A.units + 1 < cLine) : CallRK X (.builtin "min") [("default" : Str)] (rMinSD X.K) := by
  intro pins s σ H vs zs us ws Q I r rz h
  obtain ⟨a, xs, d, rfl, rfl, hs, q0, q1⟩ := h
  obtain ⟨its, rv, hl, _⟩ := I.list hs
  rw [Vals.ref1 r]
  cases rz with
  | cons rd rn =>
    cases rn
    rename_i dv
    show wpAny _ _ (call (.builtin "min") [.ref a] [(Str.ofString "default", dv)]) _ _ _
    refine PySem.W.min_list_datum_default (α := Str) (xs := xs) (I.ok.hd hc) hl.isList (by simpa using holdAll_strs rv) hu (fun e h' tk hk => ?_) fun y ys i v h' tk e hi hv hk => ?_
    · exact ⟨d, H, I.kept hk, rd, q0 e⟩
    · refine ⟨.str (minS y ys), H, I.kept hk, ?_, q1 y ys e⟩
      obtain ⟨as, rr⟩ := hv
      have rr' : Reads h' v (.str (minS y ys)) as := rr
      cases rr' with
      | str _ t => exact ⟨t, rfl⟩
/-- the call -/
theorem pe_minSD {e : Expr} {t : TA} {tk : TA} {p pos : Pos} {kw : Keyword} (hc : X.calm = true) (hu : X.A.units + 1 < cLine) (hg : Gl X "min") (hm : X.mg "min" = none) (ha : PA X [e] t) (hk : PK X [kw] tk)
    (he : backTo pos (starEach (e :: []) X.env) = (false, eval e X.env) :: backTo pos (starEach [] X.env) := by rfl) (hpl : (backTo pos (starEach (e :: []) X.env)).any (·.1) = false := by rfl)
    (hall : (backToKw pos (keywordEach [kw] X.env)).all (·.1.isSome) = true := by rfl) (hnone : (backToKw pos (keywordEach [kw] X.env)).any (·.1.isNone) = false := by rfl) (hks : (backToKw pos (keywordEach [kw] X.env)).filterMap (·.1) = [("default" : Str)] := by rfl) :
    PE X (.Call (.Name "min" p) [e] [kw] pos) (tCKw (rMinSD X.K) t tk) :=
  pe_callBK (cr_minSD hc hu) hg hm (by decide +kernel) ha hk (by decide) (by decide) he hpl hall hnone hks

/-! ### C.__init__(self, ..) of an own class C between the error's class and ValueError -/
theorem pe_ownInit {x : Str} {CL : Addr} {e : Expr} {es : List Expr} {ta : TA} {p1 p2 pos : Pos} {pl : Sem Bool} (hg : Gl X x) (hm : X.mg x = some (.ref CL)) (hdb : (x == ("__debug__" : Str)) = false := by decide)
    (sp : PySem.W.specialIn X.K (.ref CL) "__getattribute__" = some (some (.builtin "type.__getattribute__"))) (rd : PySem.W.readsIn X.K CL (.type "type") = true)
    (vV : PySem.W.findCls X.K (.ref CL) (.type "type") "__init__" = some (.val (.builtin "ValueError.__init__"))) (ha : PA X (e :: es) ta)
    (hc : eval (.Call (.Attribute (.Name x p1) "__init__" p2) (e :: es) [] pos) X.env = (do
      let ov ← eval (.Name x p1) X.env
      standAt p2.atName
      let (f, first) ← holding [ov] (getMethod ov "__init__" pl)
      callWith pos f first (backTo pos (starEach (e :: es) X.env)) (backToKw pos (keywordEach [] X.env))) := by rfl)
    (he : starEach (e :: es) X.env = (false, eval e X.env) :: starEach es X.env := by rfl) (hpl : (backTo pos (starEach es X.env)).any (·.1) = false := by rfl) :
    PE X (.Call (.Attribute (.Name x p1) "__init__" p2) (e :: es) [] pos) (tVeI X.K ta) := by
  refine ⟨fun pins s σ H Q I h => ?_⟩
  refine PySem.W.methodCall_KW (ld_glob I hg hm ?_ hdb) hc
  refine PySem.W.method_cls I.kIn sp (PySem.W.cls_value I.kIn rd vV (by decide +kernel) ?_)
  show wpAny _ _ (callWith pos (Value.builtin "ValueError.__init__") [] (backTo pos (starEach (e :: es) X.env)) []) _ _ _
  refine PyProof.Rows.callWith_method1 (thn (ha.run pos pins _ σ H _ (I.tok _) h) fun us s1 ⟨vs, H1, I1, r1, a, C, ws, ev, hl, T, ea, q⟩ => ?_) he hpl
  subst ev
  cases r1 with
  | @cons _ u0 _ ur ra rw' =>
    obtain rfl : u0 = Value.ref a := ra
    have hlen : ur.length ≤ sizeLine := by
      rw [← Paired.length rw', sizeLine_eq]
      omega
    exact oinit_ok T I1 ea hlen fun s' J => ⟨.non, H1, J, rfl, q⟩

/-! ### an error with its own __init__ made where nothing is handled: its context is None -/
theorem passN : Passes (L2N.CX X.prog X.w) X E0 := fun _ _ _ _ _ _ _ h => by
  obtain ⟨_, _, _, _, _, _, _, _, _, _, _, _, no⟩ := h
  exact absurd no id
theorem pmkN_oex {CY : CXT} {nm : Str} {C g : Addr} {lev : Nat} {fdI : FuncData} {prs : List Str} {pr : Sp} {xs : List Value} {ws : List V} {arg : Expr} {more : List Expr} {tA : TA} {q1 q2 : Pos}
    (ox : OexC X.K C) (at_ : PySem.W.findIn X.K (.ref C) "__init__" = some (some (.ref g))) (isf : PySem.W.typeIn X.K (.ref g) = some (.type "function"))
    (keeps : FnOk X.prog X.w X.K X.mg X.base CY lev g fdI prs pr) (room : Room (lev + 1) X.A) (bnd : Binds X.K fdI prs xs) (vls : Vals ws xs) (ps : Passes CY X E0) (gl : Gl X nm) (mgx : X.mg nm = some (.ref C)) (pa : PA X (arg :: more) tA)
    (ndb : (nm == ("__debug__" : Str)) = false := by decide) (plain1 : starEach (arg :: more) X.env = (false, eval arg X.env) :: starEach more X.env := by rfl) (plain2 : (backTo q2 (starEach more X.env)).any (·.1) = false := by rfl) :
    L2N.PMk X (.Call (.Name nm q1) (arg :: more) [] q2) (tMkO C pr ws tA) := by
  intro pins s σ H Q I goal
  obtain ⟨_, _, _, _, mro, _, _, _, _, _, _, _, _, _, _, lkC, ve⟩ := ox.cls
  refine wpAny_Call_Name_kw (ld_glob I gl mgx ?_ ndb)
  refine PySem.W.callWith_K (h₀ := X.base) I.ok.mod.kin ox.kC (thn (pa.run q2 pins s σ H _ I goal) ?_) plain1 plain2
  rintro us ⟨hp, gs, dr, tk, os⟩ ⟨vs, Ha, Ia, ra, small, each⟩
  refine ⟨Ia.kIn, ?_⟩
  show wpAny _ _ (call (.ref C) us) _ _ _
  have above : hp.objs.size ≤ hp.objs.size + 1 := by omega
  have free : Ha (hp.objs.size + 1) = none := Ia.hok.fresh above
  have pr1 := each (hp.objs.size + 1) free
  let hp2 := (hp.push (PySem.W.kdv_tup us)).push (PySem.HandSPX.excO C hp.objs.size)
  have kept : ∀ b o, hp.get? b = some o → hp2.get? b = some o := fun b o e => Heap.get?_push_of_some _ (Heap.get?_push_of_some _ e)
  have here : hp2.get? (hp.objs.size + 1) = some (PySem.HandSPX.excO C hp.objs.size) := by show ((hp.push (PySem.W.kdv_tup us)).push (PySem.HandSPX.excO C hp.objs.size)).get? _ = _; heap_get
  have Ib : Inv X pins σ (upd Ha (hp.objs.size + 1) (exo (hp.objs.size + 1) C none)) ⟨hp2, gs, dr, tk, os⟩ := Ia.laid (t' := tk) (a := hp.objs.size + 1) (o := exo (hp.objs.size + 1) C none) (h' := hp2) kept above (exo_ok here)
  have rb : Vals (V.ref (hp.objs.size + 1) :: (vs ++ ws)) (Value.ref (hp.objs.size + 1) :: (us ++ xs)) := .cons rfl (ra.append vls)
  have many : (Value.ref (hp.objs.size + 1) :: us ++ xs).length = prs.length := by rw [← keeps.len _ _ _ _ pr1]; exact rb.length.symm
  have fits : us.length ≤ sizeLine := by rw [← Paired.length ra, sizeLine_eq]; omega
  have body := keeps.run _ X.stack _ _ ⟨Value.ref (hp.objs.size + 1) :: us, []⟩ (Value.ref (hp.objs.size + 1) :: (us ++ xs)) _ _ E0 (room.make C us []) (Ib.env0.make C us []) (bnd _ (Value.ref (hp.objs.size + 1) :: us) Ib.kIn many) rb pr1
  refine wpAny_call (PySem.HandSPX.call_own F.excBase_ValueError (fun Y => PySem.HandSPX.refsVE_contains Y mro ve) (Ia.kIn _ _ lkC) (PySem.W.looks_findIn Ia.kIn at_) (fun self => PySem.W.bind_fn Ia.kIn self isf) fits (codeAny_mono body ?_))
  intro r s' after
  match r, after with
  | .error er, after => exact ps pins σ _ _ er s' Ib after
  | .ok (.ret u), after =>
    obtain ⟨v, Hb, os2, bare2, un2, hok2, rv, none_, d, fs, oa, od, newd, fin⟩ := after
    subst none_
    obtain ⟨h2, g2, d2, t2, os'⟩ := s'
    refine ⟨rv, ?_⟩
    obtain ⟨t0, G, J, kG, ge, hoe, na⟩ := mk_end0 (d2 := d2) (t2 := t2) Ia above kept un2 hok2 os2 bare2 oa od newd
    exact ⟨hp.objs.size + 1, _, _, ⟨G, g2, d2, t2, os'⟩, _, .ref C, some d, rfl, J, kG, ge, hoe, ⟨rfl, rfl, fun vs hv => by cases hv; rfl⟩, rfl, rfl, na, rfl, bare2, raises_own ox.exC ox.tyC, fin⟩
  | .ok .next, after => exact False.elim after
  | .ok .brk, after => exact False.elim after
  | .ok .cont, after => exact False.elim after

/-! ### isinstance(e, C), e the caught error, C its very class -/
theorem isi_same {x D : Addr} {ox : Obj} {od : Option Obj} {prog : Program} {w : World} {A : Around} {E : Value → Shared → Prop} {s : Shared} {Q : Value → Shared → Prop} (J : PySem.W.InstAt s.heap x ox D od) (h : ∀ tk, Q (.bool true) { s with toks := tk }) :
    wpAny (model prog w) A (call (.builtin "isinstance") [.ref x, .ref D]) Q E s := by
  refine call_isinstance (S := fun _ R s => PySem.W.InstAt s.heap x ox D od ∧ ∀ tk, R (.ok (.ret (.bool true))) { s with toks := tk }) (fun prog w A R s hs => isinstance_outer ?_ (fun z => nomatch z)) ⟨J, h⟩
  obtain ⟨hp, g, d, tt, os⟩ := s
  obtain ⟨J2, hq⟩ := hs
  have LT := J2.type (M := model prog w)
  unfold Builtin.«isinstance.nested»
  refine wpAny_bind (LT.at ?_)
  rw [if_pos (beq_self_eq_true _)]
  first
    | exact wpAny_bind (wpAny_rule (wpAny_pure (hq tt)))
    | exact wpAny_bind (wpAny_rule (hq tt))
def rIsX (D a : Addr) (cls : Value) (d : Option Addr) : List V → Hp → VK → Prop := fun xs H Q => ∃ (dd : Addr) (fs : List (Str × V)), xs = [.ref a, .ref D] ∧ cls = .ref D ∧ d = some dd ∧ H dd = some (.xd fs) ∧ Q (.bl true) H
theorem call_isX {a D : Addr} {oe : Obj} {cls : Value} {d : Option Addr} {pn : List (Addr × Obj)} (hz : Zc cls d oe) (hf : ∃ vs, oe.data = .fields vs) : CallR (X.suite a ((a, oe) :: pn)) (.builtin "isinstance") (rIsX D a cls d) := by
  intro pins s σ H xs us Q I r h
  obtain ⟨dd, fs, rfl, rfl, rfl, ha, q⟩ := h
  obtain ⟨u1, u2, rfl, r1, r2⟩ := vals2 r
  obtain rfl : u1 = Value.ref a := r1
  obtain rfl : u2 = Value.ref D := r2
  obtain ⟨hget, _⟩ := I.pin (a, oe) (List.mem_append.mpr (.inl List.mem_cons_self))
  obtain ⟨vs, hv⟩ := hf
  have hx : ObjOk X.prog X.w H s.heap dd (.xd fs) := I.hok dd _ ha
  obtain ⟨mA, hns, _⟩ := hx
  obtain ⟨od, ho, _⟩ := lookIn_ns hns
  have J : PySem.W.InstAt s.heap a oe D (some od) := ⟨hget, hz.1, by unfold PySem.W.notCls; rw [hv] <;> rfl, by rw [hz.2]; exact ho⟩
  exact isi_same J fun tk => ⟨.bl true, H, I.tok _, rfl, q⟩
theorem hot_suite {a : Addr} {oe : Obj} {cls : Value} {d : Option Addr} {pn : List (Addr × Obj)} (hz : L2N.Zn cls d oe) (hf : ∃ vs, oe.data = .fields vs) : L2H.HotC (X.suite a ((a, oe) :: pn)) := by
  obtain ⟨vs, hv⟩ := hf
  exact ⟨(a, oe), ⟨rfl, vs, hv, hz.2.2 vs hv⟩, List.mem_cons_self⟩
theorem takes0N : L2N.Takes X (fun _ _ _ _ => False) := fun _ _ x => by
  obtain ⟨_, _, _, _, _, _, _, _, _, _, _, _, _, _, _, _, no⟩ := x
  exact absurd no id
theorem passAtN {σ : L2.St} : PassesAt (L2N.CX X.prog X.w) X σ E0 := fun _ _ _ _ _ _ h => by
  obtain ⟨_, _, _, _, _, _, _, _, _, _, _, _, no⟩ := h
  exact absurd no id
end
end Lc
namespace Lc
open PySem PySem.Spec PyProof.Rows L2 Evl
section
variable {K : PySem.W.Frag} {σ : L2.St} {H H' : Hp} {ta tb te tx : TE} {t u : TT} {x y z v : V} {r : R2} {D : Ends}
theorem rv_catS {a b : Str} (h : a.length + b.length ≤ 100000) : RV (fun x y H Q => ∃ i j, x = .str i ∧ y = .str j ∧ i.length + j.length ≤ sizeLine ∧ Q (.str (i ++ j)) H) (.str a) (.str b) H (.str (a ++ b)) := fun H1 _ _ q => ⟨a, b, rfl, rfl, sz_of h, q H1 (Ex.refl H1)⟩
theorem rv_ltS {a b : Str} : RV (fun x y H Q => ∃ i j, x = .str i ∧ y = .str j ∧ Q (.bl (decide (i.cps.toList < j.cps.toList))) H) (.str a) (.str b) H (.bl (decide (a.cps.toList < b.cps.toList))) := fun H1 _ _ q => ⟨a, b, rfl, rfl, q H1 (Ex.refl H1)⟩
theorem rv_inC {c : Nat} {b : Str} : RV (fun x y H Q => ∃ (c : Nat) (z : Str), x = .str ⟨#[c]⟩ ∧ y = .str z ∧ Q (.bl (decide (c ∈ z.cps.toList))) H) (.str ⟨#[c]⟩) (.str b) H (.bl (decide (c ∈ b.cps.toList))) := fun H1 _ _ q => ⟨c, b, rfl, rfl, q H1 (Ex.refl H1)⟩
theorem rv_notInC {c : Nat} {b : Str} : RV (fun x y H Q => ∃ (c : Nat) (z : Str), x = .str ⟨#[c]⟩ ∧ y = .str z ∧ Q (.bl (!decide (c ∈ z.cps.toList))) H) (.str ⟨#[c]⟩) (.str b) H (.bl (!decide (c ∈ b.cps.toList))) := fun H1 _ _ q => ⟨c, b, rfl, rfl, q H1 (Ex.refl H1)⟩
theorem rc_lenS {w : Str} (h : w.length ≤ 100000) : RC (fun xs H Q => ∃ x n, xs = [x] ∧ LenV K x H n ∧ Q (.int n) H) [.str w] H (.int w.length) := fun H1 _ _ q => ⟨.str w, w.length, rfl, ⟨sz_of h, rfl⟩, q H1 (Ex.refl H1)⟩
theorem rc_lenL {p : Addr} {xs : List V} (h : SqL K H p xs) : RC (fun xs H Q => ∃ x n, xs = [x] ∧ LenV K x H n ∧ Q (.int n) H) [.ref p] H (.int xs.length) := fun H1 e _ q => ⟨.ref p, xs.length, rfl, .inl ⟨xs, ex_l e h, rfl⟩, q H1 (Ex.refl H1)⟩
theorem rc_lenT {p : Addr} {xs : List V} (h : SqT K H p xs) : RC (fun xs H Q => ∃ x n, xs = [x] ∧ LenV K x H n ∧ Q (.int n) H) [.ref p] H (.int xs.length) := fun H1 e _ q => ⟨.ref p, xs.length, rfl, .inr ⟨xs, ex_t e h, rfl⟩, q H1 (Ex.refl H1)⟩
theorem rc_intI {i : Int} : RC (fun xs H Q => (∃ i, xs = [V.int i] ∧ Q (V.int i) H) ∨ ∃ k, xs = [V.bl k] ∧ Q (V.int (if k = true then 1 else 0)) H) [.int i] H (.int i) := fun H1 _ _ q => .inl ⟨i, rfl, q H1 (Ex.refl H1)⟩
theorem rc_intB {k : Bool} : RC (fun xs H Q => (∃ i, xs = [V.int i] ∧ Q (V.int i) H) ∨ ∃ k, xs = [V.bl k] ∧ Q (V.int (if k = true then 1 else 0)) H) [.bl k] H (.int (if k = true then 1 else 0)) := fun H1 _ _ q => .inr ⟨k, rfl, q H1 (Ex.refl H1)⟩
theorem rc_sum {p : Addr} {ns : List Int} (h : SqL K H p (ns.map V.int)) : RC (rSum K) [.ref p] H (.int ns.sum) := fun H1 e _ q => ⟨p, ns, rfl, ex_l e h, q H1 (Ex.refl H1)⟩
theorem rc_min2 {i j : Int} : RC (fun xs H Q => ∃ i j, xs = [V.int i, V.int j] ∧ Q (.int (if j < i then j else i)) H) [.int i, .int j] H (.int (if j < i then j else i)) := fun H1 _ _ q => ⟨i, j, rfl, q H1 (Ex.refl H1)⟩
theorem rc_isStr {w : Str} : RC (rIsi K) [.str w, .ty "str"] H (.bl true) := fun H1 _ _ q => ⟨.str w, .ty "str", .type "str", .type "str", true, rfl, .ty _, .base (.str _), kit_ty (by decide +kernel), q H1 (Ex.refl H1)⟩
theorem ev_slS {tl th : TO} {w : Str} {lo hi : Option Int} (h : Ev te σ H (.str w)) (h1 : EvO tl σ H lo) (h2 : EvO th σ H hi) (hz : w.length ≤ 100000) : Ev (tSl rSlS te tl th) σ H (.str (cutS w lo hi)) := fun H1 e _ q =>
  h H1 e _ fun H2 e2 => h1 H2 (e.trans e2) _ fun H3 e3 => h2 H3 ((e.trans e2).trans e3) _ fun H4 e4 => ⟨w, rfl, sz_of hz, q H4 ((e2.trans e3).trans e4)⟩
theorem ev_revS {w : Str} (h : Ev te σ H (.str w)) (hz : w.length ≤ 100000) : Ev (tRevS te) σ H (.str (revS w)) := fun H1 e _ q => h H1 e _ fun H2 e2 => ⟨w, rfl, sz_of hz, q H2 e2⟩
theorem ev_join {a : Str} {ys : List Str} (h : Ev ta σ H (.str a)) (hl : EvL te σ H (ys.map V.str)) (hz : (ys.map (·.length)).sum + ys.length * a.length ≤ 16777216) :
    Ev (tM1 (fun x xs H Q => ∃ a p, ∃ ys : List Str, x = .str a ∧ xs = [.ref p] ∧ (SqL K H p (ys.map V.str) ∨ SqT K H p (ys.map V.str)) ∧ (ys.map (·.length)).sum + ys.length * a.length ≤ 16777216 ∧ Q (.str (Txt.join a ys)) H) ta te) σ H (.str (Txt.join a ys)) := fun H1 e _ q =>
  h H1 e _ fun H2 e2 => ⟨⟨a, rfl⟩, hl H2 (e.trans e2) _ fun p H3 _ e3 hp => ⟨a, p, ys, rfl, rfl, .inl (sq_of hp), hz, q H3 (e2.trans e3)⟩⟩
def minD (d : Str) : List Str → Str
  | [] => d
  | y :: ys => minS y ys
theorem ev_minSD {xs : List Str} {d : Str} (hl : EvL te σ H (xs.map V.str)) (hd : Ev ta σ H (.str d)) : Ev (tCKw (rMinSD K) (tCons te tNil) (tCons ta tNil)) σ H (.str (minD d xs)) := fun H1 e Q q =>
  hl H1 e _ fun p H2 _ e2 hp => hd H2 (e.trans e2) _ fun H3 e3 => ⟨p, xs, .str d, rfl, rfl, sq_of (e3 p _ hp), fun ex => by
    subst ex
    exact q H3 (e2.trans e3), fun y ys ex => by
    subst ex
    exact q H3 (e2.trans e3)⟩
end
end Lc
namespace Lc
open PySem PySem.Spec PyProof.Rows L2 Evl
/-- a text by its signs -/
def S (l : List Nat) : Str := ⟨l.toArray⟩
theorem tl_S (l : List Nat) : (S l).cps.toList = l := rfl
theorem S_tl (z : Str) : S z.cps.toList = z := by
  apply Str.ext'
  simp [S]
theorem S_len (l : List Nat) : (S l).length = l.length := by simp [S, Str.length]
theorem S_inj {a b : List Nat} (h : S a = S b) : a = b := by
  have := congrArg (fun z : Str => z.cps.toList) h
  exact this
theorem S_app (a b : List Nat) : S a ++ S b = S (a ++ b) := by
  have h := TL.tl_append (S a) (S b)
  rw [← S_tl (S a ++ S b)]
  exact congrArg S h
theorem join_S : ∀ l : List Nat, Txt.join (S []) (l.map fun c => S [c]) = S l := by
  intro l
  rw [TL.join_eq, ← S_tl (Str.join (S []) _)]
  refine congrArg S ?_
  have h := TL.tl_join (S []) (l.map fun c => S [c])
  refine Eq.trans h ?_
  rw [List.map_map]
  show TL.joinL [] (l.map fun c => [c]) = l
  induction l with
  | nil => rfl
  | cons a r ih =>
    cases r with
    | nil => rfl
    | cons b r =>
      show [a] ++ ([] ++ TL.joinL [] ((b :: r).map fun c => [c])) = a :: b :: r
      rw [ih (TL.tl_join _ _)]
      rfl
theorem join_sz (l : List Nat) (h : l.length ≤ 100000) : (((l.map fun c => S [c]).map (·.length)).sum + (l.map fun c => S [c]).length * (S []).length) ≤ 16777216 := by
  have e : ∀ l : List Nat, ((l.map fun c => S [c]).map (·.length)).sum = l.length := by
    intro l
    induction l with
    | nil => rfl
    | cons a r ih =>
      rw [List.map_cons, List.map_cons, List.sum_cons, ih, S_len]
      simp
      omega
  rw [e]
  have : (S []).length = 0 := rfl
  rw [this]
  omega
theorem cut_from (l : List Nat) (i : Nat) : cutS (S l) (some (i : Int)) none = S (l.drop i) := by
  unfold cutS
  rw [S_len, HT.sIx_nat, HT.sIx_none, tl_S]
  refine congrArg S ?_
  rw [List.take_of_length_le (by rw [List.length_drop]; omega)]
  by_cases h : i ≤ l.length
  · rw [Nat.min_eq_left h]
  · rw [Nat.min_eq_right (by omega), List.drop_of_length_le (Nat.le_refl _), List.drop_of_length_le (by omega)]
theorem cut_to (l : List Nat) (i : Nat) : cutS (S l) none (some (i : Int)) = S (l.take i) := by
  unfold cutS
  rw [S_len, HT.sIx_nat, HT.sIx_none, tl_S]
  refine congrArg S ?_
  rw [List.drop_zero, Nat.sub_zero]
  by_cases h : i ≤ l.length
  · rw [Nat.min_eq_left h]
  · rw [Nat.min_eq_right (by omega), List.take_of_length_le (Nat.le_refl _), List.take_of_length_le (by omega)]
theorem atI_i {α : Type} {xs : List α} {i : Int} (h0 : 0 ≤ i) (h1 : i < xs.length) (d : α) : atI xs i = some (xs.getD i.toNat d) := by
  have e : i = (i.toNat : Int) := by omega
  have hl : i.toNat < xs.length := by omega
  rw [e]
  refine atI_nat ?_
  rw [Int.toNat_natCast, List.getElem?_eq_getElem hl, List.getD_eq_getElem?_getD, List.getElem?_eq_getElem hl]
  rfl
theorem revS_S (l : List Nat) : revS (S l) = S l.reverse := rfl
section
variable {K : PySem.W.Frag} {σ : L2.St} {H H' : Hp} {ta tb te tx : TE} {t u : TT} {x y z v : V} {r : R2} {D : Ends}
theorem rv_ixSS {l : List Nat} {i : Int} (hl : l.length ≤ 100000) (h0 : 0 ≤ i) (h1 : i < l.length) : RV rIxS (.str (S l)) (.int i) H (.str (S [l.getD i.toNat 0])) := rv_ixS (by rw [S_len]; exact hl) (atI_i h0 h1 0)
theorem ev_cbL {r : List V → Hp → VK → Prop} {xs : List V} (h : EvL te σ H xs) (hr : ∀ p H1, H1 p = some (.lst xs) → Ex H H1 → RC r [.ref p] H1 z) : Ev (tCB r (tCons te tNil)) σ H z := fun H1 e Q q =>
  h H1 e _ fun p H2 _ e2 hp => hr p H2 hp (e.trans e2) H2 (Ex.refl H2) Q fun H3 e3 => q H3 (e2.trans e3)
theorem cutV_ints (ns : List Int) (lo hi : Option Int) : ∃ ms : List Int, cutV (ns.map V.int) lo hi = ms.map V.int := by
  unfold cutV
  exact ⟨_, by rw [← List.map_drop, ← List.map_take]⟩
end
/-! ### a box of three ints that a call changes -/
def Bx (H : Hp) (b : Addr) : Prop := ∃ i j k : Int, H b = some (.lst [.int i, .int j, .int k])
def ExB (b : Addr) (H H' : Hp) : Prop := ∀ c o, c ≠ b → H c = some o → H' c = some o
theorem ExB.refl {b : Addr} (H : Hp) : ExB b H H := fun _ _ _ h => h
theorem ExB.trans {b : Addr} {H H1 H2 : Hp} (h : ExB b H H1) (h2 : ExB b H1 H2) : ExB b H H2 := fun c o hc e => h2 c o hc (h c o hc e)
theorem ExB.of {b : Addr} {H H1 : Hp} (h : Ex H H1) : ExB b H H1 := fun c o _ e => h c o e
theorem Bx.ex {b : Addr} {H H1 : Hp} (h : Bx H b) (e : Ex H H1) : Bx H1 b := by
  obtain ⟨i, j, k, h⟩ := h
  exact ⟨i, j, k, e b _ h⟩
theorem ExB.upd {b : Addr} {H : Hp} {o : HO} : ExB b H (upd H b o) := fun c o hc e => by rw [upd_ne hc]; exact e
theorem Bx.put {b : Addr} {H : Hp} {i j k : Int} : Bx (upd H b (.lst [.int i, .int j, .int k])) b := ⟨i, j, k, upd_same⟩
theorem ExB.seq {K : PySem.W.Frag} {b a : Addr} {H H' : Hp} {xs : List V} (e : ExB b H H') (hab : a ≠ b) (h : SqL K H a xs) : SqL K H' a xs := by
  rcases h with (h | ⟨o, h⟩) | h
  · exact .inl (.inl (e _ _ hab h))
  · exact .inl (.inr ⟨o, e _ _ hab h⟩)
  · exact .inr h
theorem ExB.bx {b c : Addr} {H H' : Hp} (e : ExB b H H') (hcb : c ≠ b) (h : Bx H c) : Bx H' c := by
  obtain ⟨i, j, k, h⟩ := h
  exact ⟨i, j, k, e c _ hcb h⟩

section
variable {H : Hp}
theorem rv_inSS {c : Nat} {g : List Nat} : RV (fun x y H Q => ∃ (c : Nat) (z : Str), x = .str ⟨#[c]⟩ ∧ y = .str z ∧ Q (.bl (decide (c ∈ z.cps.toList))) H) (.str (S [c])) (.str (S g)) H (.bl (decide (c ∈ g))) := fun H1 _ _ q => ⟨c, S g, rfl, rfl, q H1 (Ex.refl H1)⟩
theorem rv_notInSS {c : Nat} {g : List Nat} : RV (fun x y H Q => ∃ (c : Nat) (z : Str), x = .str ⟨#[c]⟩ ∧ y = .str z ∧ Q (.bl (!decide (c ∈ z.cps.toList))) H) (.str (S [c])) (.str (S g)) H (.bl (!decide (c ∈ g))) := fun H1 _ _ q => ⟨c, S g, rfl, rfl, q H1 (Ex.refl H1)⟩
theorem rv_ltSS {a b : List Nat} : RV (fun x y H Q => ∃ i j, x = .str i ∧ y = .str j ∧ Q (.bl (decide (i.cps.toList < j.cps.toList))) H) (.str (S a)) (.str (S b)) H (.bl (decide (a < b))) := fun H1 _ _ q => ⟨S a, S b, rfl, rfl, q H1 (Ex.refl H1)⟩
theorem rv_catSS {a b : List Nat} (h : a.length + b.length ≤ 100000) : RV (fun x y H Q => ∃ i j, x = .str i ∧ y = .str j ∧ i.length + j.length ≤ sizeLine ∧ Q (.str (i ++ j)) H) (.str (S a)) (.str (S b)) H (.str (S (a ++ b))) := by
  have h2 := rv_catS (H := H) (a := S a) (b := S b) (by rw [S_len, S_len]; exact h)
  rw [S_app] at h2
  exact h2
theorem rc_lenSS {K : PySem.W.Frag} {l : List Nat} (h : l.length ≤ 100000) : RC (fun xs H Q => ∃ x n, xs = [x] ∧ LenV K x H n ∧ Q (.int n) H) [.str (S l)] H (.int l.length) := by
  have h2 := rc_lenS (K := K) (H := H) (w := S l) (by rw [S_len]; exact h)
  rw [S_len] at h2
  exact h2
theorem rc_lenStr {l : List Nat} (h : l.length ≤ 100000) : RC (fun xs H Q => ∃ z, xs = [V.str z] ∧ z.length ≤ sizeLine ∧ Q (.int z.length) H) [.str (S l)] H (.int l.length) := fun H1 _ _ q => ⟨S l, rfl, sz_of (by rw [S_len]; exact h), by rw [S_len]; exact q H1 (Ex.refl H1)⟩
theorem rv_eqII {a b : Int} : RV rEq (.int a) (.int b) H (.bl (decide (a = b))) := by
  have h2 := rv_eq (H := H) (x := .int a) (y := .int b) rfl
  have e : decide (V.int a = V.int b) = decide (a = b) := decide_eq_decide.mpr ⟨fun h => by injection h, fun h => by rw [h]⟩
  rw [e] at h2
  exact h2
theorem rv_neII {a b : Int} : RV rNe (.int a) (.int b) H (.bl (!decide (a = b))) := by
  have h2 := rv_ne (H := H) (x := .int a) (y := .int b) rfl
  have e : decide (V.int a = V.int b) = decide (a = b) := decide_eq_decide.mpr ⟨fun h => by injection h, fun h => by rw [h]⟩
  rw [e] at h2
  exact h2
theorem rv_neSS {a b : List Nat} : RV rNe (.str (S a)) (.str (S b)) H (.bl (!decide (a = b))) := by
  have h2 := rv_ne (H := H) (x := .str (S a)) (y := .str (S b)) rfl
  have e : decide (V.str (S a) = V.str (S b)) = decide (a = b) := decide_eq_decide.mpr ⟨fun h => S_inj (by injection h), fun h => by rw [h]⟩
  rw [e] at h2
  exact h2
theorem rv_eqSS {a b : List Nat} : RV rEq (.str (S a)) (.str (S b)) H (.bl (decide (a = b))) := by
  have h2 := rv_eq (H := H) (x := .str (S a)) (y := .str (S b)) rfl
  have e : decide (V.str (S a) = V.str (S b)) = decide (a = b) := by
    apply decide_eq_decide.mpr
    constructor
    · intro h
      exact S_inj (by injection h)
    · intro h
      rw [h]
  rw [e] at h2
  exact h2
end
/-! ### loops and comprehensions over a text -/
section
variable {K : PySem.W.Frag} {σ : L2.St} {H H' : Hp} {ta tb te tx : TE} {t : TT} {x y z v : V} {r : R2} {D : Ends} {tu tz : TS}
theorem its_at {l : List Nat} {i : Nat} {c : Nat} (h : (S l).cps[i]? = some c) : l[i]? = some c := by
  have h2 : l.toArray[i]? = some c := h
  simpa using h2
theorem its_sz (l : List Nat) : (S l).cps.size = l.length := by
  show l.toArray.size = l.length
  simp
theorem s_forS {l : List Nat} {j : Nat} (h : Ev te σ H (.str (S l))) (Pv : Nat → L2.St → Hp → Prop) (h0 : ∀ H1, Ex H H1 → Pv 0 σ H1)
    (hs : ∀ i c σ' H', l[i]? = some c → Pv i σ' H' → tu { D with nx := Pv (i + 1), ct := Pv (i + 1), bk := D.nx } (σ'.set j (some (.str (S [c])))) H') (hd : ∀ σ' H', Pv l.length σ' H' → D.nx σ' H') : tFor (iStr te) (gName j) tu D σ H :=
  h H (Ex.refl H) _ fun H1 e => ⟨S l, rfl, fun i m σ' H' => m = l.length - i ∧ i ≤ l.length ∧ Pv i σ' H', ⟨l.length, by simp, Nat.zero_le _, h0 H1 e⟩, fun i m σ' H' hw => by
    obtain ⟨rfl, hi, p⟩ := hw
    by_cases hlt : i < l.length
    · refine .inr ⟨by show i < (S l).cps.size; rw [its_sz]; exact hlt, Pv (i + 1), fun σ2 H2 p2 => ⟨l.length - (i + 1), by omega, rfl, hlt, p2⟩, fun x H2 hy => ?_⟩
      obtain ⟨e2, c, hc, ex⟩ := hy
      subst e2 ex
      exact hs i c σ' _ (its_at hc) p
    · have ei : i = l.length := by omega
      subst ei
      exact .inl ⟨by show (S l).cps.size ≤ l.length; rw [its_sz]; exact Nat.le_refl _, hd σ' H' p⟩⟩
theorem q_forS {l : List Nat} {j : Nat} (h : Ev te σ H (.str (S l))) (Pv : Nat → L2.St → Hp → Prop) (h0 : ∀ H1, Ex H H1 → Pv 0 σ H1)
    (hs : ∀ i c σ' H', l[i]? = some c → Pv i σ' H' → tu { D with nx := Pv (i + 1), ct := Pv (i + 1), bk := tz D } (σ'.set j (some (.str (S [c])))) H') (hd : ∀ σ' H', Pv l.length σ' H' → tz D σ' H') : tSeq (tFor (iStr te) (gName j) tu) tz D σ H :=
  s_forS (D := { D with nx := tz D }) h Pv h0 hs hd
theorem el_lcS {l : List Nat} {tl : TE} {j : Nat} {vs : List Nat} (f : Nat → Bool) (v : Nat → V) (h : Ev tl σ H (.str (S l))) (hz : l.length ≤ 40000) (hw : ∀ x, wipe ((wipe σ vs).set j (some x)) vs = wipe σ vs)
    (ht : ∀ (i : Nat) (c : Nat) H1, Ex H H1 → l[i]? = some c → EvT t ((wipe σ vs).set j (some (.str (S [c])))) H1 (f i)) (he : ∀ (i : Nat) (c : Nat) H1, Ex H H1 → l[i]? = some c → f i = true → Ev te ((wipe σ vs).set j (some (.str (S [c])))) H1 (v i)) :
    EvL (tLc (iStr tl) (gName j) t te vs) σ H (given l.length f v) := fun H0 e Q q => h H0 e _ fun H1 e1 => ⟨S l, rfl, fun Dl hD => by
  refine ⟨fun i m H' => m = l.length - i ∧ i ≤ l.length ∧ Cw H1 f v Dl i H', ⟨l.length, by simp, Nat.zero_le _, ⟨hD, Ex.new hD, upd_same⟩⟩, ?_⟩
  rintro i m H' ⟨rfl, hi, p⟩
  by_cases hlt : i < l.length
  · refine .inr ⟨by show i < (S l).cps.size; rw [its_sz]; exact hlt, Cw H1 f v Dl (i + 1), fun H2 p2 => ⟨l.length - (i + 1), by omega, rfl, hlt, p2⟩, fun x H2 hy => ?_⟩
    obtain ⟨e2, c, hc, ex⟩ := hy
    subst e2 ex
    have hc' := its_at hc
    exact ⟨hw _, cw_turn p (by omega) (ht i c H1 (e.trans e1) hc') (fun hf => he i c H1 (e.trans e1) hc' hf)⟩
  · have ei : i = l.length := by omega
    subst ei
    exact .inl ⟨by show (S l).cps.size ≤ l.length; rw [its_sz]; exact Nat.le_refl _, q Dl H' (fresh_back e1 p.1) (e1.trans p.2.1) p.2.2⟩⟩
end
theorem et_yes {σ : L2.St} {H : Hp} : EvT tYes σ H true := fun H1 _ _ q => q H1 (Ex.refl H1)
theorem given_all (n : Nat) (v : Nat → V) : given n (fun _ => true) v = (List.range n).map v := by
  unfold given
  rw [List.filter_eq_self.mpr (fun _ _ => rfl)]
theorem ev_index {K : PySem.W.Frag} {W : WX} {σ : L2.St} {H : Hp} {to : TE} {ta : TA} {z b : Str} {k : Nat} (ho : Ev to σ H (.str z)) (ha : EvA ta σ H [.str b]) (hk : Txt.index0 z b = some k) : Ev (tBMS K "str" (rIndexX W) to ta) σ H (.int (k : Int)) := fun H1 e _ q =>
  ho H1 e _ fun H2 e2 => ⟨rfl, ha H2 (e.trans e2) _ fun H3 e3 => ⟨z, b, rfl, rfl, fun j hj => by
    rw [hk] at hj
    cases hj
    exact q H3 (e2.trans e3), fun hn => by
    rw [hk] at hn
    cases hn⟩⟩
theorem given_filter {α : Type} (l : List α) (d : α) (p : α → Bool) (g : α → V) : given l.length (fun i => p (l.getD i d)) (fun i => g (l.getD i d)) = (l.filter p).map g := by
  unfold given
  have e : l = (List.range l.length).map fun i => l.getD i d := by
    apply List.ext_getElem
    · simp
    · intro i h1 h2
      simp [h1]
  conv => rhs; rw [e]
  rw [List.filter_map, List.map_map]
  rfl
theorem ev_pow10 {σ : L2.St} {H : Hp} {n v : Int} (h : (10 : Int) ^ n.toNat = v) (h0 : 0 ≤ n) (h1 : n ≤ 1000) : Ev (tOp (rI CPow fun i j => V.int (i ^ j.toNat)) (tC (V.int 10)) (tC (V.int n))) σ H (.int v) := by
  rw [← h]
  exact ev_op ev_c ev_c (rv_I ⟨h0, by omega, by decide⟩)
theorem getD_map_str (cs : List Nat) (k : Nat) : (cs.map fun c => V.str (S [c])).getD k (V.str (S [0])) = V.str (S [cs.getD k 0]) := by
  rw [List.getD_eq_getElem?_getD, List.getD_eq_getElem?_getD, List.getElem?_map]
  cases cs[k]? <;> rfl
theorem getD_in {l : List Nat} {k : Nat} (h : k < l.length) : l.getD k 0 ∈ l := by
  rw [List.getD_eq_getElem?_getD, List.getElem?_eq_getElem h]
  exact List.getElem_mem h
theorem emod_le_nat (i : Nat) {u : Int} (h : 0 < u) : (i : Int) % u ≤ i := by
  have h1 : (i : Int) % u + u * ((i : Int) / u) = i := by
    first
      | exact Int.emod_add_mul_ediv _ _
      | exact Int.emod_add_ediv _ _
  have h2 : 0 ≤ (i : Int) / u := Int.ediv_nonneg (by omega) (by omega)
  have h3 : 0 ≤ u * ((i : Int) / u) := Int.mul_nonneg (by omega) h2
  omega
theorem ev_to {σ : L2.St} {H : Hp} {te ti : TE} {l : List Nat} {k : Nat} (h : Ev te σ H (.str (S l))) (hi : Ev ti σ H (.int (k : Int))) (hl : l.length ≤ 100000) : Ev (tSl rSlS te tNoPart (tPart ti)) σ H (.str (S (l.take k))) := by
  have h := ev_slS h eo_none (eo_some hi) (by rw [S_len]; exact hl)
  rw [cut_to] at h
  exact h
theorem ev_from {σ : L2.St} {H : Hp} {te ti : TE} {l : List Nat} {k : Nat} (h : Ev te σ H (.str (S l))) (hi : Ev ti σ H (.int (k : Int))) (hl : l.length ≤ 100000) : Ev (tSl rSlS te (tPart ti) tNoPart) σ H (.str (S (l.drop k))) := by
  have h := ev_slS h (eo_some hi) eo_none (by rw [S_len]; exact hl)
  rw [cut_from] at h
  exact h
theorem op_first {σ : L2.St} {H : Hp} {r : R2} {ta tb : TE} {x : V} {Q : VK} (h : Ev ta σ H x) (k : ∀ H1, Ex H H1 → tb σ H1 fun y H2 => r x y H2 Q) : tOp r ta tb σ H Q := h H (Ex.refl H) _ k
theorem ret_op {σ : L2.St} {H : Hp} {r : R2} {ta tb : TE} {x : V} {D : Ends} (h : Ev ta σ H x) (k : ∀ H1, Ex H H1 → tb σ H1 fun y H2 => r x y H2 D.rt) : tRet (tOp r ta tb) D σ H := h H (Ex.refl H) _ k
end Lc
namespace Lc
open PySem PySem.Spec PyProof.Rows L2
section
variable {X : Cx} {CX : CXT} {k : Nat} {C f g p : Addr} {fd : FuncData} {ps : List Str} {sp : Sp} {E : XK} {pins : List (Addr × Obj)} {σ : L2.St} {H : Hp} {s : Shared}
/-! ### a def run where the room is another -/
theorem run_at {A : Around} {us : List Value} {vs : List V} {Q : VK} (hA : A.frames = X.A.frames) (F : FnOk X.prog X.w X.K X.mg X.base CX k f fd ps sp) (hr : Room k A) (hb : Binds X.K fd ps []) (hx : Passes CX X E)
    (I : Inv X pins σ H s) (r : Vals vs us) (h : sp vs H Q E) : wpAny (model X.prog X.w) A (call (.ref f) us) (EP X pins σ Q) X.xe s := by
  have e0 : Env0 X.prog X.w X.K X.mg X.base A X.stack s H := by
    have e := I.env0
    exact ⟨by rw [hA]; exact e.frames, e.mod, e.bs, e.bsz, e.funs, e.frf, e.hok, e.bare⟩
  have hl : us.length = ps.length := by rw [← r.length]; exact F.len _ _ _ _ h
  refine wpAny_call (codeAny_mono (F.run A X.stack s H ⟨us, []⟩ us vs Q E hr e0 (by
    have h2 := hb s us I.kIn (by simpa using hl)
    simpa using h2) r h) fun r s' hq => ?_)
  cases r with
  | error e => exact hx pins σ H s e s' I hq
  | ok fl =>
    cases fl with
    | ret u => exact I.after hq
    | next => exact False.elim hq
    | brk => exact False.elim hq
    | cont => exact False.elim hq
/-! ### str(o) by an own __str__ -/
def rStrOwn (C : Addr) (sp : Sp) (E : XK) : List V → Hp → VK → Prop := fun xs H Q => ∃ a dx fs, xs = [.ref a] ∧ H a = some (.ins C dx fs) ∧ sp [.ref a] H (fun v H' => ∃ z, v = .str z ∧ Q v H') E
theorem call_strOwn (F : FnOk X.prog X.w X.K X.mg X.base CX k f fd ps sp) (hr : Room (k + 2) X.A) (hs : PySem.W.findIn X.K (.ref C) "__str__" = some (some (.ref f))) (hf : PySem.W.isFn X.K (.ref f) = true) (hb : Binds X.K fd ps []) (hx : Passes CX X E) :
    CallR X (.type "str") (rStrOwn C sp E) := by
  intro pins s σ H xs us Q I r h
  obtain ⟨a, dx, fs, rfl, ha, hsp⟩ := h
  obtain ⟨u, rfl, r1⟩ := vals1 r
  obtain rfl : u = Value.ref a := r1
  obtain ⟨mA, J, _⟩ := ins_get I.hok ha
  obtain ⟨od, J, _⟩ := J.look
  refine PySem.W.kso_call hr.in1.in1.units0 I.kIn J hs hf (wpAny_mono (run_at (A := X.A.in1.in1) rfl F hr.in1.in1 hb hx I r hsp) (fun w s' hw => ?_) fun _ _ x => x)
  obtain ⟨v, H', I', rv, z, rfl, q⟩ := hw
  obtain ⟨t, rfl⟩ := rv
  exact ⟨.str z, H', I', ⟨t, rfl⟩, q⟩
/-! ### a == b by an own __eq__, both answers -/
def rEqOwn (C : Addr) (sp : Sp) (E : XK) : R2 := fun x y H Q => ∃ a dx fs b dy gs, x = .ref a ∧ H a = some (.ins C dx fs) ∧ y = .ref b ∧ H b = some (.ins C dy gs) ∧ sp [.ref a, .ref b] H (fun v H' => ∃ k, v = .bl k ∧ Q v H') E
theorem op_eqOwn (F : FnOk X.prog X.w X.K X.mg X.base CX k f fd ps sp) (hr : Room k X.A) (hs : PySem.W.findIn X.K (.ref C) "__eq__" = some (some (.ref f))) (hf : PySem.W.isFn X.K (.ref f) = true) (hb : Binds X.K fd ps []) (hx : Passes CX X E) :
    OpR X (compareOp .Eq) (rEqOwn C sp E) := by
  intro pins s σ H x y v u Q I rx ry h
  obtain ⟨a, dx, fs, b, dy, gs, rfl, ha, rfl, hb', hsp⟩ := h
  obtain rfl : v = Value.ref a := rx
  obtain rfl : u = Value.ref b := ry
  show wpAny (model X.prog X.w) X.A (richCompare .Eq (.ref a) (.ref b)) (EP X pins σ Q) X.xe s
  obtain ⟨mA, J, _⟩ := ins_get I.hok ha
  obtain ⟨mB, J', _⟩ := ins_get I.hok hb'
  obtain ⟨od, J, _⟩ := J.look
  obtain ⟨od', J', _⟩ := J'.look
  obtain ⟨m, hF⟩ := I.fr
  refine PySem.W.cmp_K (op := .Eq) (tb := .ref C) hr.units0 hF I.ok.mod.kin J J'.type (by simp [PySem.W.notFirst]) hs hf (wpAny_mono (run_at (A := X.A) (vs := [.ref a, .ref b]) rfl F hr hb hx I (.cons (show RelV (.ref a) (Value.ref a) from rfl) (.cons (show RelV (.ref b) (Value.ref b) from rfl) .nil)) hsp) (fun w s' hw => ?_) fun _ _ x => x)
  obtain ⟨v, H', I', rv, k, rfl, q⟩ := hw
  cases rv
  exact ⟨.bl k, H', I', rfl, q⟩
/-! ### C.m(..), m a static method -/
structure SMet (K : PySem.W.Frag) (C : Addr) (mc : Value) (m : Str) (p g : Addr) : Prop where
  at_ : PySem.W.findCls K (.ref C) mc m = some (.get (.builtin "staticmethod.__get__") (.ref p) .none (.ref C))
  rc : ∃ rest, PySem.W.recIn K p "staticmethod" = some (.ref g :: rest)
  kp : PySem.W.keepIn K (.ref g) = true
def tSMeth (C : Addr) (sp : Sp) (dvs : List V) (E : L2.St → XK) (ta : TE) (t : TA) : TE := fun σ H Q => ta σ H fun x H1 => x = .ref C ∧ t σ H1 fun vs H2 => sp (vs ++ dvs) H2 Q (E σ)
theorem pe_smeth {mc : Value} {m : Str} {dvs : List V} {ds : List Value} {E : L2.St → XK} {o e : Expr} {es : List Expr} {pos apos : Pos} {ta : TE} {t : TA} {pl : Sem Bool} (he : PE X o ta) (r : ClX.CRead X.K C mc) (c : SMet X.K C mc m p g)
    (F : FnOk X.prog X.w X.K X.mg X.base CX k g fd ps sp) (hr : Room k X.A) (hb : Binds X.K fd ps ds) (hd : Vals dvs ds) (hx : ∀ σ, PassesAt CX X σ (E σ)) (ha : PA X (e :: es) t)
    (hst : starEach (e :: es) X.env = (false, eval e X.env) :: starEach es X.env := by rfl) (hpl : (backTo pos (starEach es X.env)).any (·.1) = false := by rfl)
    (ht : eval (.Call (.Attribute o m apos) (e :: es) [] pos) X.env = (do
      let ov ← eval o X.env
      standAt apos.atName
      let (f, first) ← holding [ov] (getMethod ov m pl)
      callWith pos f first (backTo pos (starEach (e :: es) X.env)) (backToKw pos (keywordEach [] X.env))) := by rfl) :
    PE X (.Call (.Attribute o m apos) (e :: es) [] pos) (tSMeth C sp dvs E ta t) := by
  refine ⟨fun pins s σ H Q I h => ?_⟩
  refine PySem.W.methodCall_KW (pl := pl) (thn (he.run pins s σ H _ I h) fun u s1 ⟨x, H1, I1, rx, ex, q⟩ => ?_) ht
  subst ex
  obtain rfl : u = Value.ref C := rx
  obtain ⟨rest, hp⟩ := c.rc
  refine PySem.W.method_cls I1.kIn r.ga (PySem.W.cls_bind I1.kIn r.rd c.at_ (wpAny_call (PySem.W.sm_get (s := { s1 with toks := s1.toks + 1 }) I1.kIn hp (PySem.W.handed_on rfl ?_))))
  have I2 := I1.tok (s1.toks + 1)
  refine PySem.W.callWith_K (h₀ := X.base) (first := []) I2.ok.mod.kin c.kp (thn (ha.run pos pins _ σ H1 _ I2 q) fun us s3 ⟨vs, H2, I3, rv, q2⟩ => ⟨I3.kIn, ?_⟩) hst hpl
  exact run_fnSD F hr hb hd (hx σ) I3 rv q2
end
/-! ### d.get(k, x) of a written table -/
def tKGet (K : PySem.W.Frag) (d : Addr) (td ty tx : TE) : TE := fun σ H Q => td σ H fun x H1 => x = .ref d ∧ ty σ H1 fun y H2 => tx σ H2 fun z H3 => ∃ (n : Str) (r : Option Value) (o : Option V), y = .str n ∧ PySem.W.nsIn K d n = some r ∧
  (match o, r with
    | some v, some u => RelV v u
    | none, none => True
    | _, _ => False) ∧ Q (o.getD z) H3
section
variable {X : Cx} {o e f : Expr} {apos cpos : Pos} {td ty tx : TE} {d : Addr} {es : Array DictEntry} {n : Nat}
theorem pe_kget (D : KDict X.K X.w d es n) (ho : PE X o td) (he : PE X e ty) (hf : PE X f tx) (m : M2 X o "get" apos e f cpos) : PE X (.Call (.Attribute o "get" apos) [e, f] [] cpos) (tKGet X.K d td ty tx) := by
  refine ⟨fun pins s σ H Q I h => ?_⟩
  refine wpAny_Call_method m.base m.few m.line PySem.F.plainAttrs_dict PySem.F.slot_dict_get PySem.F.type_dict_get (thn (ho.run pins s σ H _ I h) fun u s1 ⟨x, H1, I1, rx, ex, q1⟩ => ?_)
  subst ex
  obtain rfl : u = Value.ref d := rx
  refine ⟨kd_type D I1, fun b q => ?_, ?_⟩
  · cases q
    exact ⟨_, I1.kIn _ _ D.at_, rfl⟩
  rw [m.trees]
  refine Calls.callWith_builtin rfl (Calls.evalArgs_plain (Calls.spliced_cons (thn (he.run pins s1 σ H1 _ I1 q1) fun iv s2 ⟨y, H2, I2, ry, q2⟩ =>
    Calls.spliced_cons (thn (hf.run pins s2 σ H2 _ I2 q2) fun fv s3 ⟨z, H3, I3, rz, nm, r, ov, ey, ns, rel, q3⟩ => Calls.spliced_nil ?_))))
  subst ey
  obtain ⟨t, rfl⟩ := ry
  refine call_meetsIn PySem.F.slot_dict_get (kd_type D I3) PySem.F.entry_dict_get (PySem.F.args_dict_get_3 _ _ _) (meets_dict_get_default (strKind X.prog X.w) d (strKind_is X.prog X.w nm t) D.low fv) ⟨_, PySem.W.mapOf_K (prog := X.prog) I3.kIn D.at_ D.lit, ?_⟩
  rw [PySem.W.find_K D.at_ ns]
  refine ⟨ov.getD z, H3, I3.tok _, ?_, q3⟩
  cases ov with
  | none =>
    cases r with
    | none => exact rz
    | some u => exact False.elim rel
  | some v =>
    cases r with
    | none => exact False.elim rel
    | some u => exact rel
end
end Lc
namespace Lc
open PySem PySem.Spec PyProof.Rows L2
/-! ### the facts of classes, as Bools -/
section
variable {K : PySem.W.Frag} {c c2 f m : Str} {b : Bool}
def topB (K : PySem.W.Frag) : Bool := decide (PySem.W.specialIn K (.ref (He.ga K "LeapError")) "__getattribute__" = some (some (.builtin "type.__getattribute__"))) && (PySem.W.readsIn K (He.ga K "LeapError") (.type "type") &&
  ((match PySem.W.findCls K (.ref (He.ga K "LeapError")) (.type "type") "__init__" with
    | some (.val (.builtin b)) => b == "ValueError.__init__"
    | _ => false) && PySem.W.keepIn K (.ref (He.ga K "LeapError"))))
def errB (K : PySem.W.Frag) (c f : Str) : Bool := oexB K (He.ga K c) && (xfB K (He.ga K c) && (decide (PySem.W.findIn K (.ref (He.ga K c)) "__init__" = some (some (.ref (He.ma K (He.ga K c) "__init__")))) &&
  (decide (PySem.W.typeIn K (.ref (He.ma K (He.ga K c) "__init__")) = some (.type "function")) && (decide (PySem.W.findIn K (.ref (He.ga K c)) f = some none) && decide (PySem.W.exmOne K (.ref (He.ga K c)) (.ref (He.ga K "LeapError")) = some true)))))
structure XF (K : PySem.W.Frag) (c f : Str) : Prop where
  oex : OexC K (He.ga K c)
  xf : XfC K (He.ga K c)
  iC : PySem.W.findIn K (.ref (He.ga K c)) "__init__" = some (some (.ref (He.ma K (He.ga K c) "__init__")))
  tI : PySem.W.typeIn K (.ref (He.ma K (He.ga K c) "__init__")) = some (.type "function")
  no : PySem.W.findIn K (.ref (He.ga K c)) f = some none
  exm : PySem.W.exmOne K (.ref (He.ga K c)) (.ref (He.ga K "LeapError")) = some true
  sp : PySem.W.specialIn K (.ref (He.ga K "LeapError")) "__getattribute__" = some (some (.builtin "type.__getattribute__"))
  rd : PySem.W.readsIn K (He.ga K "LeapError") (.type "type") = true
  vV : PySem.W.findCls K (.ref (He.ga K "LeapError")) (.type "type") "__init__" = some (.val (.builtin "ValueError.__init__"))
  kL : PySem.W.keepIn K (.ref (He.ga K "LeapError")) = true
theorem errB_ok (ht : topB K = true) (h : errB K c f = true) : XF K c f := by
  unfold topB at ht
  unfold errB at h
  simp only [Bool.and_eq_true, decide_eq_true_eq] at ht h
  obtain ⟨t1, t2, t3, t4⟩ := ht
  obtain ⟨h1, h2, h3, h4, h5, h6⟩ := h
  refine ⟨oexB_ok h1, xfB_ok h2, h3, h4, h5, h6, t1, t2, ?_, t4⟩
  split at t3
  · rename_i b hb
    rw [hb, beq_iff_eq.mp t3]
  · cases t3
def kitB (K : PySem.W.Frag) (c c2 : Str) (b : Bool) : Bool := decide (PySem.W.kitOne K (.ref (He.ga K c)) (.ref (He.ga K c2)) = some b)
theorem kitB_ok (h : kitB K c c2 b = true) : PySem.W.kitOne K (.ref (He.ga K c)) (.ref (He.ga K c2)) = some b := of_decide_eq_true h
def clsB (K : PySem.W.Frag) (c : Str) : Bool := PySem.W.readsIn K (He.ga K c) (.type "type") && decide (PySem.W.specialIn K (.ref (He.ga K c)) "__getattribute__" = some (some (.builtin "type.__getattribute__")))
theorem clsB_ok (h : clsB K c = true) : ClX.CRead K (He.ga K c) (.type "type") := by
  obtain ⟨h1, h2⟩ := Bool.and_eq_true_iff.mp h
  exact ⟨h1, of_decide_eq_true h2⟩
def smB (K : PySem.W.Frag) (c m : Str) : Bool := He5.wrapB K (He.ga K c) "staticmethod" "staticmethod.__get__" m && PySem.W.keepIn K (.ref (He5.wf K (He.ga K c) "staticmethod" m))
theorem smB_ok (h : smB K c m = true) : SMet K (He.ga K c) (.type "type") m (He.ma K (He.ga K c) m) (He5.wf K (He.ga K c) "staticmethod" m) := by
  obtain ⟨h1, h2⟩ := Bool.and_eq_true_iff.mp h
  obtain ⟨h3, h4⟩ := He5.wrapB_ok h1
  exact ⟨h3, h4, h2⟩
end
/-! ### a name that a table does not have -/
theorem dicW_no {K : PySem.W.Frag} {P : Params} {a : Addr} {ks : List Str} (h : He.dicW K a = some (He.keysIn P ks)) {z : Str} (hz : z ∉ ks) : PySem.W.nsIn K a z = some none := by
  unfold He.dicW at h
  unfold PySem.W.nsIn
  split at h
  · rename_i oc es n sl hk
    rw [hk]
    split at h
    · have e := Option.some.inj h
      have key : ∀ d ∈ es.toList, ∃ k ∈ ks, ∃ t, d.key = .str k t := fun d hd => by
        have hm : He.keyOf d ∈ es.toList.map He.keyOf := List.mem_map_of_mem hd
        rw [e] at hm
        unfold He.keysIn at hm
        obtain ⟨k, hk, ek⟩ := List.mem_map.mp hm
        unfold He.keyOf at ek
        split at ek
        · rename_i x t q
          have e2 := Option.some.inj ek
          have e3 : k = x := congrArg Prod.fst e2
          exact ⟨k, hk, t, by rw [q, e3]⟩
        · cases ek
      have hf : es.toList.find? (fun d => d.key.isStr z) = none := by
        rw [List.find?_eq_none]
        intro d hd
        obtain ⟨k, hk, t, ek⟩ := key d hd
        rw [ek]
        have hne : k ≠ z := fun q => hz (by rw [← q]; exact hk)
        show ¬ (Value.isStr (.str k t) z) = true
        simp [Value.isStr, hne]
      show (match es.toList.find? (fun d => d.key.isStr z) with
        | some e => some (some e.val)
        | none => if es.toList.any (·.refKey) then none else some none) = some none
      rw [hf]
      have ha : es.toList.any (·.refKey) = false := by
        rw [List.any_eq_false]
        intro d hd
        obtain ⟨k, hk, t, ek⟩ := key d hd
        unfold DictEntry.refKey
        rw [ek]
        simp
      simp only [ha]
      rfl
    · cases h
  · cases h
theorem SaysM.tab_no {fa : List He.Fa} {fn : List He5.DefA} {ts : List He.Tab} {ex : PySem.W.Frag → Bool} {w : World} {K : PySem.W.Frag} (c : SaysM fa fn ts ex w K) (i : Nat) {t : He.Tab} (h : ts[i]? = some t) {z : Str} (hz : z ∉ t.2) : PySem.W.nsIn K (t.1 K) z = some none := by
  have e : (ts.map fun t => He.dicW K (t.1 K))[i]? = (ts.map fun t => some (He.keysIn w.params t.2))[i]? := by rw [c.t]
  rw [List.getElem?_map, List.getElem?_map, h] at e
  exact dicW_no (Option.some.inj e) hz
theorem passX {X : Cx} {E : XK} (tk : L2N.Takes X fun cls d _ H' => E cls d H') : Passes (L2N.CX X.prog X.w) X E := fun pins σ H s e s' I c => L2N.passAt tk σ pins H s e s' I c
end Lc
namespace Lc
open PySem PySem.Spec PyProof.Rows L2
/-! ### isinstance(x, C) of an instance of C itself -/
def rIsOwn (C : Addr) : List V → Hp → VK → Prop := fun xs H Q => ∃ a dx fs, xs = [.ref a, .ref C] ∧ H a = some (.ins C dx fs) ∧ Q (.bl true) H
theorem call_isOwn {X : Cx} {C : Addr} : CallR X (.builtin "isinstance") (rIsOwn C) := by
  intro pins s σ H xs us Q I r h
  obtain ⟨a, dx, fs, rfl, ha, q⟩ := h
  obtain ⟨u1, u2, rfl, r1, r2⟩ := vals2 r
  obtain rfl : u1 = Value.ref a := r1
  obtain rfl : u2 = Value.ref C := r2
  obtain ⟨mA, J, _⟩ := ins_get I.hok ha
  obtain ⟨od, J, _⟩ := J.look
  exact isi_same J fun tk => ⟨.bl true, H, I.tok _, rfl, q⟩
end Lc
namespace Lc
open PySem PySem.Spec PyProof.Rows L2
/-! ### isinstance of an error with fields, both answers -/
section
open PySem.W
variable {prog : Program} {w : World} {A : Around} {E : Value → Shared → Prop} {s : Shared} {K : Frag} {x D : Addr} {ox : Obj} {od : Option Obj}
theorem findObj_dataX {C : Addr} {name : Str} {a g : Value} (hc : (clsIn K C).isSome = true) (ha : findIn K (.ref C) name = some (some a)) (hg : specialIn K a "__get__" = some (some g)) (ht : takesIn K a = some true) : findObj K C od name = some (.bind g a) := by
  obtain ⟨cd, hc⟩ := Option.isSome_iff_exists.mp hc
  unfold findObj
  rw [hc, Option.bind_some, ha, Option.bind_some]
  simp [hg, ht]
theorem kin_classX {Q : Option Value → Shared → Prop} (hga : findIn K (.ref D) "__getattribute__" = some (some (.builtin "BaseException.__getattribute__"))) (hgt : findIn K (.ref D) "__getattr__" = some none) (hsub : subIn K (.ref D) (.type "BaseException") = some true)
    (hdct : hasDictIn K D = true) (ha : findIn K (.ref D) "__class__" = some (some (.builtin "object.__class__")))
    (hn : specialIn K (.builtin "object.__class__") "__get__" = some (some (.builtin "getset_descriptor.__get__"))) (htk : takesIn K (.builtin "object.__class__") = some true) (hm : mroIn K D (.type "object") = some true)
    (X : K.In s.heap) (I : InstAt s.heap x ox D od) (h : Q (some (.ref D)) { s with toks := s.toks + 1 }) : wpAny (model prog w) A (getAttr? (.ref x) "__class__") Q E s := by
  have hf : findObj K D od "__class__" = some (.bind (.builtin "getset_descriptor.__get__") (.builtin "object.__class__")) := findObj_dataX (by obtain ⟨cd, hc, _⟩ := any_some hdct; rw [hc]; rfl) ha hn htk
  obtain ⟨hp, g, d, t, os⟩ := s
  have L0 := I.type (M := model prog w)
  have L1 := looks_findIn (M := model prog w) X hga
  have L2 := looks_findIn (M := model prog w) X hgt
  have L3 := looks_find (M := model prog w) X I hf
  have sub : Looks (model prog w) hp (isInstance (.ref x) (.type "BaseException")) true := L0.andThen (looks_subIn X hsub)
  have hx0 : (false && onTheHeap (Value.builtin "BaseException.__getattribute__")) = false := rfl
  have hx2 : (Value.builtin "BaseException.__getattribute__" == Value.builtin "object.__getattribute__") = false := by decide +kernel
  have hx1 : (onTheHeap (Value.ref D) && Value.builtin "BaseException.__getattribute__" == Value.builtin "object.__getattribute__") = false := by rw [hx2]; rfl
  unfold getAttr? getAttrBy? getAttrBy
  refine wpAny_bind (wpAny_mkText (wpAny_bind (wpAny_attempt (wpAny_holding (wpAny_bind (L0.at (wpAny_bind (L1.at ?_))))))))
  show wpAny _ _ (if (onTheHeap (Value.ref D) && Value.builtin "BaseException.__getattribute__" == Value.builtin "object.__getattribute__") = true then _ else _) _ _ _
  rw [hx1, if_neg Bool.false_ne_true]
  unfold getAttrByItsOwn hookBefore
  refine wpAny_bind ?_
  rw [if_pos (show onTheHeap (Value.ref D) = true from rfl)]
  refine L2.at ?_
  refine wpAny_bind (wpAny_attempt (wpAny_holding ?_))
  unfold callGetattribute
  rw [hx0, if_neg Bool.false_ne_true]
  unfold boundAndCalled
  rw [PySem.F.excAttr_ValueError.ga.bind (.ref x)]
  refine wpAny_bind (wpAny_pure ?_)
  show wpAny _ _ (call (.builtin "BaseException.__getattribute__") [.ref x, .str "__class__" t]) _ _ _
  refine wpAny_call (codeAny_call_builtin PySem.F.excAttr_ValueError.ga.plain PySem.F.entry_bexc_ga ?_)
  refine @check_slot (model prog w) _ _ ⟨hp, g, d, t + 1, os⟩ "BaseException.__getattribute__" "BaseException" "__getattribute__" (.ref x) [.str "__class__" t] [] _ (by decide +kernel) (by decide +kernel) sub (PySem.F.args_bexc_ga (.ref x) (.str "__class__" t)) ?_
  unfold Builtin.«object.__getattribute__»
  refine wpAny_bind (wpAny_of_eq (a := ((Value.ref x : Value), [Value.str "__class__" t])) (by first | rfl | (simp only [slotArgs]; rfl)) ?_)
  refine wpAny_bind (wpAny_pure (wpAny_bind (L0.at (wpAny_bind (L3.at ?_)))))
  show wpAny _ _ (holding [Value.builtin "object.__class__"] (call (.builtin "getset_descriptor.__get__") [.builtin "object.__class__", .ref x, .ref D]) >>= ret) _ _ _
  refine wpAny_bind (wpAny_holding (wpAny_call (class_get (s := ⟨hp, g, d, t + 1, os⟩) (ox := ox) (od := od) X I hm ?_)))
  refine wpAny_pure ?_
  show wpAny _ _ (handedOut (.ref D)) _ _ _
  rw [handedOut_of (v := .ref D) rfl]
  first
    | exact wpAny_pure (wpAny_pure h)
    | exact wpAny_pure h
    | exact wpAny_pure (wpAny_bind (wpAny_pure (wpAny_pure h)))
theorem kitx_excX (hga : findIn K (.ref D) "__getattribute__" = some (some (.builtin "BaseException.__getattribute__"))) (hgt : findIn K (.ref D) "__getattr__" = some none) (hsub : subIn K (.ref D) (.type "BaseException") = some true) (hdct : hasDictIn K D = true) (ha : findIn K (.ref D) "__class__" = some (some (.builtin "object.__class__")))
    (hn : specialIn K (.builtin "object.__class__") "__get__" = some (some (.builtin "getset_descriptor.__get__"))) (htk : takesIn K (.builtin "object.__class__") = some true) (hm : mroIn K D (.type "object") = some true) :
    KitX K (.ref x) (.ref D) (fun h => ∃ od, InstAt h x ox D od) where
  ty := fun _ _ _ I => by
    obtain ⟨od, I⟩ := I
    exact I.type
  it := fun _ _ X _ => by
    obtain ⟨cdD, hcD, _⟩ := any_some hdct
    unfold clsIn at hcD
    split at hcD
    · rename_i c' d' cd' sl' ho
      intro A' Q' E' s' k q
      unfold isType loadHead
      exact wpAny_bind (wpAny_loadPart (k _ _ (X _ _ ho)) (wpAny_pure q))
    · cases hcD
  ne := fun h tp dd its n sl X htp => by
    obtain ⟨cdD, hcD, _⟩ := any_some hdct
    refine Bool.eq_false_iff.mpr fun q => ?_
    have e : D = tp := Value.ref.inj (beq_iff_eq.mp q)
    subst e
    unfold clsIn at hcD
    split at hcD
    · rename_i c' d' cd' sl' ho
      have z := (X _ _ ho).symm.trans htp
      cases z
    · cases hcD
  ca := fun X I k => by
    obtain ⟨od, I⟩ := I
    exact kin_classX hga hgt hsub hdct ha hn htk hm X I k
end
def excB (K : PySem.W.Frag) (D : Addr) : Bool := decide (PySem.W.findIn K (.ref D) "__class__" = some (some (.builtin "object.__class__"))) && (decide (PySem.W.specialIn K (.builtin "object.__class__") "__get__" = some (some (.builtin "getset_descriptor.__get__"))) &&
  (decide (PySem.W.takesIn K (.builtin "object.__class__") = some true) && decide (PySem.W.mroIn K D (.type "object") = some true)))
theorem excB_ok {K : PySem.W.Frag} {D : Addr} (T : XfC K D) (h : excB K D = true) : ExcC K D := by
  unfold excB at h
  simp only [Bool.and_eq_true, decide_eq_true_eq] at h
  obtain ⟨h1, h2, h3, h4⟩ := h
  exact ⟨T.ga, T.gg, T.exC, T.hdC, h1, h2, h3, h4⟩
/-- isinstance(e, c), e a caught error with fields -/
def rIsG (K : PySem.W.Frag) (D a : Addr) (cls : Value) (d : Option Addr) : List V → Hp → VK → Prop := fun xs H Q => ∃ (c : V) (cv : Value) (b : Bool) (dd : Addr) (fs : List (Str × V)), xs = [.ref a, c] ∧ ClsV c cv ∧ cls = .ref D ∧ d = some dd ∧ H dd = some (.xd fs) ∧ PySem.W.kitOne K (.ref D) cv = some b ∧ Q (.bl b) H
theorem call_isG {X : Cx} {a D : Addr} {oe : Obj} {cls : Value} {d : Option Addr} {pn : List (Addr × Obj)} (C : ExcC X.K D) (hz : Zc cls d oe) (hf : ∃ vs, oe.data = .fields vs) : CallR (X.suite a ((a, oe) :: pn)) (.builtin "isinstance") (rIsG X.K D a cls d) := by
  intro pins s σ H xs us Q I r h
  obtain ⟨c, cv, b, dd, fs, rfl, k, rfl, rfl, hdd, e, q⟩ := h
  obtain ⟨u1, u2, rfl, r1, r2⟩ := vals2 r
  obtain rfl : u1 = Value.ref a := r1
  have e2 := k.eq r2
  subst e2
  obtain ⟨hget, _⟩ := I.pin (a, oe) (List.mem_append.mpr (.inl List.mem_cons_self))
  obtain ⟨vs, hv⟩ := hf
  have hx : ObjOk X.prog X.w H s.heap dd (.xd fs) := I.hok dd _ hdd
  obtain ⟨mA, hns, _⟩ := hx
  obtain ⟨od, ho, _⟩ := lookIn_ns hns
  have J : PySem.W.InstAt s.heap a oe D (some od) := ⟨hget, hz.1, by unfold PySem.W.notCls; rw [hv] <;> rfl, by rw [hz.2]; exact ho⟩
  exact PySem.W.kia_one (kitx_excX C.hg C.hk C.hs C.hd C.ha C.hn C.ht C.hm) I.kIn ⟨some od, J⟩ e (fun z => nomatch z) fun tk => ⟨.bl b, H, I.tok tk, rfl, q⟩
/-! ### e.replace(y, z).lower(), e.replace(y, z).upper() -/
section
variable {X : Cx} {o : Expr} {to : TE}
theorem pet_m0 {id : String} {name : Str} {apos pos : Pos} {r : V → List V → Hp → VK → Prop} (slot : Slot "str" name id) (ty : typeOf (.builtin id) = pure (.type "method_descriptor")) (rule : MtR X id r) (ho : PET X o to)
    (hbase : attributeBase o name X.env (eval o X.env) = eval o X.env := by rfl) (hline : (apos.endLine == pos.line) = true := by rfl) : PET X (.Call (.Attribute o name apos) [] [] pos) (tM0 r to) := by
  intro pins s σ H Q h0 I h
  refine PySem.Call_method0 hbase hline (thn (ho pins s σ H _ h0 I h) fun v s1 ⟨x, H1, I1, r1, q1⟩ => ?_)
  obtain ⟨⟨a, rfl⟩, q1⟩ := q1
  obtain ⟨t, rfl⟩ := _root_.id r1
  exact ⟨"str", _, F.plainAttrs_str, slot, ty, typeIs_str _ _ _, (fun _ e => nomatch e), Calls.callWith_builtin rfl (PySem.evalArgs_none (rule pins s1 σ H1 _ [] _ [] Q I1 r1 .nil q1))⟩
end
/-- a def's body, one token out at its beginning -/
theorem okT {P : Program} {w : World} {K : PySem.W.Frag} {mg : Str → Option Value} {base : Heap} {k : Nat} {d : He5.DefA} {N ps : List Str} {sp : Sp} (F : HasD K d) (S : FnScope N ps d.scope) (hnc : ∀ y ∈ d.scope.names, y.2 ≠ .cell) (hps : 1 ≤ ps.length) (len : ∀ vs H Q E, sp vs H Q E → vs.length = ps.length)
    (hbody : ∀ (cdv : Value) (A : Around) (outer : List Env) (s : Shared) (H : Hp) (vs : List V) (Q : VK) (E : XK), Room k (A.deeper (envOfC d.qual d.scope s.heap.objs.size (d.at_ K) cdv)) → sp vs H Q E →
      ∃ t, PSsT (cxOf (L2N.CX P w) P w K mg base N d.qual d.scope (d.at_ K) cdv A outer s H E) d.body t ∧ t { nx := fun _ H' => Q .non H', rt := Q } (start N vs) H) :
    OkD P w K mg base (k + 1) d ps sp := by
  obtain ⟨oc, od, dV, kV, doc, pm, an, cdv, ct, osl, e, lk, hcd, _, _⟩ := F.ex
  show FnOk P w K mg base (L2N.CX P w) (k + 1) (d.at_ K) (fdOf K (d.at_ K)) ps sp
  rw [e] at lk ⊢
  exact fn_ofT lk hcd S hnc hps len (fun A outer s H vs Q E hr h => hbody cdv A outer s H vs Q E hr h)
/-! ### enumerate(a text) -/
def Itn (z : Str) : It := ⟨fun i _ => i < z.cps.size, fun i H v H' => ∃ T c, v = .ref T ∧ H T = none ∧ H' = upd H T (.tup [.int (i : Nat), .str ⟨#[c]⟩]) ∧ z.cps[i]? = some c, fun i _ => z.cps.size ≤ i⟩
theorem turn_enumS {P : Program} {w : World} {K : PySem.W.Frag} {elts : List Expr} {kk : Nat} {tpos : Pos} (z : Str) (t : Tok) (e it : Addr) (ty : String) (hty : ty = "str_ascii_iterator" ∨ ty = "str_iterator") :
    Turn P w K (.Tuple elts kk tpos) (Itn z) [e, it] e (fun i h => (∃ old, IsEnum h e it ((i : Nat) : Int) old) ∧ h.IsStrIter it ty z t i ∧ e ≠ it) where
  mem := by simp
  obj := fun i h st b hb => by
    obtain ⟨⟨old, he⟩, ⟨o, ho, hc, hd⟩, _⟩ := st
    have e' : b = e ∨ b = it := by simpa using hb
    rcases e' with q | q
    · rw [q]; exact ⟨_, he, fun v q => nomatch q⟩
    · rw [q]; exact ⟨o, ho, fun v q => by rw [hd] at q; cases q⟩
  keep := fun i h h' st k => let ⟨⟨old, he⟩, ⟨o, ho, r⟩, hne⟩ := st; ⟨⟨old, k e (by simp) _ he⟩, ⟨o, k it (by simp) o ho, r⟩, hne⟩
  item := by
    intro X hP hw hK hc i pins s σ H E I hf st hg
    subst hP hw hK
    obtain ⟨⟨old, he⟩, hit, hne⟩ := st
    have hel : e < s.heap.objs.size := Heap.lt_size he
    have hil : it < s.heap.objs.size := by obtain ⟨_, q, _⟩ := hit; exact Heap.lt_size q
    have hh : X.A.in1.handled = none := I.ok.hd hc
    have D : Draws X.prog X.w X.A.in1 it [it] z.cps.size (fun i v => ∃ c u, z.cps[i]? = some c ∧ v = .str ⟨#[c]⟩ u) (fun i h => h.IsStrIter it ty z t i) := by
      rcases hty with q | q
      · rw [q]; exact Draws.strAscii hh it z t
      · rw [q]; exact Draws.strWide hh it z t
    refine wpAny_pyNext_enum_itemD D he hit hg hne (by simpa using hne) fun x h' tk hx ho hit' hT hsz hk => ?_
    obtain ⟨c, u, hcx, rfl⟩ := hx
    refine ⟨_, rfl, wpAny_letOwnedTupleGo_enum (s := { s with heap := h', toks := tk + 1 }) ho fun h'' he' sb => ?_⟩
    have hT2 : h''.get? s.heap.objs.size = some { cls := .type "tuple", data := .seq #[.int i tk, .str ⟨#[c]⟩ u] } := (sb.2 _ (Nat.ne_of_gt hel)).trans hT
    have new : ObjOk X.prog X.w (upd H s.heap.objs.size (.tup [.int (i : Nat), .str ⟨#[c]⟩])) h'' s.heap.objs.size (.tup [.int (i : Nat), .str ⟨#[c]⟩]) :=
      ⟨by show 2 ≤ sizeLine; decide, [.int i tk, .str ⟨#[c]⟩ u], .cons ⟨_, rfl⟩ (.cons ⟨_, rfl⟩ .nil), ⟨_, hT2, rfl, _, rfl⟩⟩
    have I1 : Inv X pins σ (upd H s.heap.objs.size (.tup [.int (i : Nat), .str ⟨#[c]⟩])) { s with heap := h'', toks := tk + 1 } :=
      I.turnedNew (ch := [e, it]) (fun b ob hb q => (sb.2 b (fun z => hb (by simp [z]))).trans (hk b ob (fun z => hb (by simp [z])) (fun z => hb (by simp [z])) q)) hf (Nat.le_refl _) new
    refine ⟨.ref s.heap.objs.size, _, I1, rfl, ⟨_, c, rfl, I.hok.fresh (Nat.le_refl _), rfl, hcx⟩, ⟨⟨.str ⟨#[c]⟩ u, ?_⟩, ?_, hne⟩, fun b hb => ?_⟩
    · have e1 : ((i + 1 : Nat) : Int) = (i : Int) + 1 := by omega
      rw [e1]; exact he'
    · obtain ⟨o, ho', r⟩ := hit'
      exact ⟨o, (sb.2 it (Ne.symm hne)).trans ho', r⟩
    · have hb' : b < s.heap.objs.size := by
        have e' : b = e ∨ b = it := by simpa using hb
        rcases e' with q | q
        · rw [q]; exact hel
        · rw [q]; exact hil
      rw [upd_ne (Nat.ne_of_lt hb')]
      exact (hf b hb).1
  done := by
    intro X hP hw hK hc i pins s σ H E I hf st hg
    subst hP hw hK
    obtain ⟨⟨old, he⟩, hit, hne⟩ := st
    obtain ⟨f0, f1, f2, f3, f4, f5⟩ := hf it (by simp)
    have hh : X.A.in1.handled = none := I.ok.hd hc
    have hx : z.cps[i]? = none := Array.getElem?_eq_none hg
    have hT : s.TypeIs (.ref e) "enumerate" := ⟨_, he, rfl⟩
    unfold pyNext
    refine wpAny_bind (wpAny_attempt (wpAny_callSpecial?_slot (name := Str.ofString "__next__") hT F.slot_enumerate_next
      (wpAny_call_entry F.slot_enumerate_next hT F.entry_enumerate_next ?_ (F.args_enumerate_next_1 _))))
    show wpAny _ _ (field (.ref e) 2 >>= _) _ _ _
    refine wpAny_bind (wpAny_field he rfl (x := .ref it) rfl ?_)
    rcases hty with q | q
    · rw [q] at hit
      refine wpAny_bind (wpAny_nextOf_ascii_end hh hit hx fun h' x eb hx' => ?_)
      obtain ⟨o, ho, hc'⟩ := hx'
      refine wpAny_bind (wpAny_isInstance (T := "StopIteration") (b := true) ⟨o, ho, hc'⟩ isSubtype_stop ?_)
      exact wpAny_pure ⟨rfl, I.turned (t' := s.toks) (fun b o hb e => eb b o hb e) f0 f1 f3 f4 f5⟩
    · rw [q] at hit
      refine wpAny_bind (wpAny_nextOf_wide_end hh hit hx fun h' x eb hx' => ?_)
      obtain ⟨o, ho, hc'⟩ := hx'
      refine wpAny_bind (wpAny_isInstance (T := "StopIteration") (b := true) ⟨o, ho, hc'⟩ isSubtype_stop ?_)
      exact wpAny_pure ⟨rfl, I.turned (t' := s.toks) (fun b o hb e => eb b o hb e) f0 f1 f3 f4 f5⟩
  self := fun A i s Q E st h => let ⟨⟨_, he⟩, _⟩ := st; wpAny_pyIter_enum he h
def iEnumS (ta : TA) : TI := fun σ H R => ta σ H fun vs H1 => ∃ z, vs = [.str z] ∧ R (Itn z) H1
theorem pi_enumS {X : Cx} {e : Expr} {ta : TA} {p pos tpos : Pos} {elts : List Expr} {kk : Nat} (hg : Gl X "enumerate") (hm : X.mg "enumerate" = none) (ha : PA X [e] ta) (hs : starEach [e] X.env = [(false, eval e X.env)] := by rfl) :
    PI X (.Tuple elts kk tpos) (.Call (.Name "enumerate" p) [e] [] pos) (iEnumS ta) := by
  refine ⟨fun pins s σ H R I h => ?_⟩
  refine Call_ (ld_blt I hg hm boot_enumerate (PyProof.Rows.callWith_type1 (thn (ha.run pos pins s σ H _ I h) fun us s1 ⟨vs, H1, I1, r1, q1⟩ => ?_) hs rfl))
  obtain ⟨z, ex, q⟩ := q1
  subst ex
  obtain ⟨u, rfl, r⟩ := vals1 r1
  obtain ⟨t, rfl⟩ := r
  refine call_enumerate_str fun h' he hit hsz hk => wpAny_pyIter_enum he ?_
  have I2 : Inv X pins σ H1 { s1 with heap := h' } := I1.kept (t' := s1.toks) hk
  have hty : strIterType z = "str_ascii_iterator" ∨ strIterType z = "str_iterator" := by
    unfold strIterType
    split
    · exact .inl rfl
    · exact .inr rfl
  refine ⟨s1.heap.objs.size + 1, [s1.heap.objs.size + 1, s1.heap.objs.size], _, _, H1, rfl, I2, turn_enumS z t (s1.heap.objs.size + 1) s1.heap.objs.size _ hty, ⟨⟨.none, he⟩, hit, Nat.succ_ne_self _⟩, fun b hb => ?_, q⟩
  have e' : b = s1.heap.objs.size + 1 ∨ b = s1.heap.objs.size := by simpa using hb
  have hle : s1.heap.objs.size ≤ b := by
    rcases e' with z | z
    · rw [z]; exact Nat.le_add_right _ _
    · rw [z]; exact Nat.le_refl _
  exact I1.fpOk hle (I1.hok.fresh hle)
end Lc
namespace Lc
open PySem PySem.Spec PyProof.Rows L2
/-! ### an own error as a value: made, its field read, asked for its class -/
def tMkV (C : Addr) (sp : Sp) (dvs : List V) (ta : TA) : TE := fun σ H Q => ta σ H fun vs H1 => vs.length ≤ 1000 ∧ ∀ a, H1 a = none → sp (.ref a :: (vs ++ dvs)) (upd H1 a (exo a C none)) (fun v H2 => v = .non ∧ Q (.ref a) H2) E0
section
variable {X : Cx}
theorem pe_mkV {CY : CXT} {nm : Str} {C g : Addr} {lev : Nat} {fdI : FuncData} {prs : List Str} {pr : Sp} {xs : List Value} {ws : List V} {arg : Expr} {more : List Expr} {tA : TA} {q1 q2 : Pos}
    (ox : OexC X.K C) (at_ : PySem.W.findIn X.K (.ref C) "__init__" = some (some (.ref g))) (isf : PySem.W.typeIn X.K (.ref g) = some (.type "function"))
    (keeps : FnOk X.prog X.w X.K X.mg X.base CY lev g fdI prs pr) (room : Room (lev + 1) X.A) (bnd : Binds X.K fdI prs xs) (vls : Vals ws xs) (ps : Passes CY X E0) (gl : Gl X nm) (mgx : X.mg nm = some (.ref C)) (pa : PA X (arg :: more) tA)
    (ndb : (nm == ("__debug__" : Str)) = false := by decide) (plain1 : starEach (arg :: more) X.env = (false, eval arg X.env) :: starEach more X.env := by rfl) (plain2 : (backTo q2 (starEach more X.env)).any (·.1) = false := by rfl) :
    PE X (.Call (.Name nm q1) (arg :: more) [] q2) (tMkV C pr ws tA) := by
  refine ⟨fun pins s σ H Q I goal => ?_⟩
  obtain ⟨_, _, _, _, mro, _, _, _, _, _, _, _, _, _, _, lkC, ve⟩ := ox.cls
  refine wpAny_Call_Name_kw (ld_glob I gl mgx ?_ ndb)
  refine PySem.W.callWith_K (h₀ := X.base) I.ok.mod.kin ox.kC (thn (pa.run q2 pins s σ H _ I goal) ?_) plain1 plain2
  rintro us ⟨hp, gs, dr, tk, os⟩ ⟨vs, Ha, Ia, ra, small, each⟩
  refine ⟨Ia.kIn, ?_⟩
  show wpAny _ _ (call (.ref C) us) _ _ _
  have above : hp.objs.size ≤ hp.objs.size + 1 := by omega
  have free : Ha (hp.objs.size + 1) = none := Ia.hok.fresh above
  have pr1 := each (hp.objs.size + 1) free
  let hp2 := (hp.push (PySem.W.kdv_tup us)).push (PySem.HandSPX.excO C hp.objs.size)
  have kept : ∀ b o, hp.get? b = some o → hp2.get? b = some o := fun b o e => Heap.get?_push_of_some _ (Heap.get?_push_of_some _ e)
  have here : hp2.get? (hp.objs.size + 1) = some (PySem.HandSPX.excO C hp.objs.size) := by show ((hp.push (PySem.W.kdv_tup us)).push (PySem.HandSPX.excO C hp.objs.size)).get? _ = _; heap_get
  have Ib : Inv X pins σ (upd Ha (hp.objs.size + 1) (exo (hp.objs.size + 1) C none)) ⟨hp2, gs, dr, tk, os⟩ := Ia.laid (t' := tk) (a := hp.objs.size + 1) (o := exo (hp.objs.size + 1) C none) (h' := hp2) kept above (exo_ok here)
  have rb : Vals (V.ref (hp.objs.size + 1) :: (vs ++ ws)) (Value.ref (hp.objs.size + 1) :: (us ++ xs)) := .cons rfl (ra.append vls)
  have many : (Value.ref (hp.objs.size + 1) :: us ++ xs).length = prs.length := by rw [← keeps.len _ _ _ _ pr1]; exact rb.length.symm
  have fits : us.length ≤ sizeLine := by rw [← Paired.length ra, sizeLine_eq]; omega
  have body := keeps.run _ X.stack _ _ ⟨Value.ref (hp.objs.size + 1) :: us, []⟩ (Value.ref (hp.objs.size + 1) :: (us ++ xs)) _ _ E0 (room.make C us []) (Ib.env0.make C us []) (bnd _ (Value.ref (hp.objs.size + 1) :: us) Ib.kIn many) rb pr1
  refine wpAny_call (PySem.HandSPX.call_own F.excBase_ValueError (fun Y => PySem.HandSPX.refsVE_contains Y mro ve) (Ia.kIn _ _ lkC) (PySem.W.looks_findIn Ia.kIn at_) (fun self => PySem.W.bind_fn Ia.kIn self isf) fits (codeAny_mono body ?_))
  intro r s' after
  match r, after with
  | .error er, after => exact ps pins σ _ _ er s' Ib after
  | .ok (.ret u), after =>
    obtain ⟨v, Hb, J, rv, none_, q⟩ := Ib.after after
    subst none_
    exact ⟨rv, .ref (hp.objs.size + 1), Hb, J, rfl, q⟩
  | .ok .next, after => exact False.elim after
  | .ok .brk, after => exact False.elim after
  | .ok .cont, after => exact False.elim after
/-- e.f, e an own error with its dict -/
def tXo (K : PySem.W.Frag) (f : Str) (te : TE) : TE := fun σ H Q => te σ H fun x H1 => ∃ (a C dx : Addr) (fs : List (Str × V)) (v : V), x = .ref a ∧ XfC K C ∧ PySem.W.findIn K (.ref C) f = some none ∧ H1 a = some (exo a C (some dx)) ∧ H1 dx = some (exd dx fs) ∧ fs.lookup f = some v ∧ Q v H1
theorem exo_inst {P : Program} {w : World} {H : Hp} {h : Heap} {a C dx : Addr} {fs : List (Str × V)} (hok : HOk P w H h) (ha : H a = some (exo a C (some dx))) (hd : H dx = some (exd dx fs)) :
    ∃ (ox : Obj) (od : Obj) (mA : Str → Option Value), PySem.W.InstAt h a ox C (some od) ∧ (∀ f, RelO (fs.lookup f) (mA f)) ∧ (∀ f, PySem.W.lookIn f od = some (mA f)) := by
  obtain ⟨t1, ho⟩ := exo_at hok ha
  obtain ⟨mA, hns, rel⟩ := exd_at hok hd
  obtain ⟨od, hod, hl⟩ := lookIn_ns hns
  exact ⟨_, od, mA, ⟨ho, rfl, rfl, hod⟩, rel, hl⟩
theorem pe_xo {e : Expr} {te : TE} {pos : Pos} {n : Str} (he : PE X e te) (hb : attributeBase e n X.env (eval e X.env) = eval e X.env := by rfl) : PE X (.Attribute e n pos) (tXo X.K n te) := by
  refine ⟨fun pins s σ H Q I h => ?_⟩
  refine attr_of hb (thn (he.run pins s σ H _ I h) fun u s1 hh => ?_)
  obtain ⟨x, H1, I1, rx, a, C, dx, fs, v, ex, T, hno, ha, hd, l, q⟩ := hh
  subst ex
  obtain rfl : u = Value.ref a := rx
  obtain ⟨ox, od, mA, J, rel, hl⟩ := exo_inst I1.hok ha hd
  obtain ⟨u, hu, ru⟩ := RelO.some_of (v := v) (o := mA n) (by rw [← l]; exact rel n)
  exact HandSPX.exc_get I1.kIn J T.ga T.gg T.exC (PySem.W.findObj_own T.hdC hno rfl (by rw [hl, hu])) (handed_of ru) ⟨v, H1, I1.tok _, ru, q⟩
/-- isinstance(e, c), e an own error with its dict -/
def rIsV (K : PySem.W.Frag) : List V → Hp → VK → Prop := fun xs H Q => ∃ (a D dx : Addr) (fs : List (Str × V)) (c : V) (cv : Value) (b : Bool), xs = [.ref a, c] ∧ ClsV c cv ∧ ExcC K D ∧ H a = some (exo a D (some dx)) ∧ H dx = some (exd dx fs) ∧ PySem.W.kitOne K (.ref D) cv = some b ∧ Q (.bl b) H
theorem call_isV : CallR X (.builtin "isinstance") (rIsV X.K) := by
  intro pins s σ H xs us Q I r h
  obtain ⟨a, D, dx, fs, c, cv, b, rfl, k, C, ha, hd, e, q⟩ := h
  obtain ⟨u1, u2, rfl, r1, r2⟩ := vals2 r
  obtain rfl : u1 = Value.ref a := r1
  have e2 := k.eq r2
  subst e2
  obtain ⟨ox, od, mA, J, _, _⟩ := exo_inst I.hok ha hd
  exact PySem.W.kia_one (kitx_excX C.hg C.hk C.hs C.hd C.ha C.hn C.ht C.hm) I.kIn ⟨some od, J⟩ e (fun z => nomatch z) fun tk => ⟨.bl b, H, I.tok tk, rfl, q⟩
/-- {t!r}, t a tuple of texts -/
theorem pe_fmtRT {e : Expr} {te : TE} {pos : Pos} {k : Nat} (hr : Room k X.A) (he : PE X e te) : PE X (.FormattedValue e 114 none pos) (tFmtT X.K te) := by
  refine ⟨fun pins s σ H Q I h => ?_⟩
  refine wpAny_FormattedValue_repr (thn (he.run pins s σ H _ I h) fun v s1 hv => ?_)
  obtain ⟨x, H1, I1, r1, a, l, rfl, ht, hc, hz, q⟩ := hv
  cases r1
  obtain ⟨its, rv, ⟨o, ho, hcl, n, hd⟩, _⟩ := I1.tuple ht
  have hp := fmt_piled l hc
  have htx := fmt_text (l.map reprText)
  have hu := hr.units
  refine wpAny_pyReprObj_slot (by omega) ⟨o, ho, hcl⟩ F.slot_tuple_repr (fmt_tuple_repr (ts := l.map reprText) ho hcl hd (repr_all rv fun y hy => ?_) (by omega) fun m u tk hm => ⟨m, u, rfl, ?_⟩)
  · have h1 := StrLaws.reprText_len y (hc y hy)
    have h2 := fmtCost_mem hy
    omega
  · exact wpAny_formatField_str ⟨.str m, H1, I1.tok _, ⟨_, rfl⟩, q m (by omega)⟩ ⟨.str m, H1, I1.tok _, ⟨_, rfl⟩, q m (by omega)⟩ (by omega)
/-- sorted(t), t a text below 64 signs -/
def sgs (z : Str) : List Str := z.cps.toList.map fun c => (⟨#[c]⟩ : Str)
def rSortS : List V → Hp → VK → Prop := fun xs H Q => ∃ z : Str, xs = [.str z] ∧ z.length < 64 ∧ ∀ ys p H', ys.Perm (sgs z) → sortedS ys = true → H p = none → H' = upd H p (.lst (ys.map V.str)) → Q (.ref p) H'
theorem call_sortedStr (hcalm : X.calm = true) : CallR X (.builtin "sorted") rSortS := by
  intro pins s σ H xs us Q I r q
  obtain ⟨z, ex, h64, q⟩ := q
  subst ex
  obtain ⟨u, eu, rx⟩ := vals1 r
  subst eu
  obtain ⟨t, rfl⟩ := rx
  have hzl : z.cps.size = z.length := rfl
  have hzs : (sgs z).length = z.length := by
    unfold sgs
    rw [List.length_map, Array.length_toList]
    rfl
  refine Calls.call_function_entry PyProof.Rows.kind_sorted PyProof.Rows.plain_sorted PyProof.Rows.entry_sorted (PyProof.Rows.args_sorted1 _) ?_
  unfold Builtin.«sorted»
  refine wpAny_bind (m := checkCount "sorted" 1 1 _) (wpAny_pure ?_)
  refine wpAny_bind (wpAny_collect_str (A := X.A.in1) (I.ok.hd hcalm) z t (fun s' acc hk hg hd ho hacc => ?_) (by rw [hzl, sizeLine_eq]; omega))
  obtain ⟨hp', g', d', tk, os'⟩ := s'
  dsimp only at hk hg hd ho
  subst hg hd ho
  have hal : acc.toList.length = (sgs z).length := by rw [Array.length_toList, hacc.1, hzs]; rfl
  have hS : StrsAre acc.toList (sgs z) := L2.strs_at hal fun j v e => by
    obtain ⟨c, u, e1, e2⟩ := hacc.2 j v (by rw [← Array.getElem?_toList]; exact e)
    refine ⟨⟨#[c]⟩, u, ?_, e2⟩
    unfold sgs
    rw [List.getElem?_map, Array.getElem?_toList, e1]
    rfl
  have I1 : Inv X pins σ H { s with heap := hp', toks := tk } := I.kept hk
  refine wpAny_bind (wpAny_newList ?_ (by rw [hal, hzs, sizeLine_eq]; omega))
  have hoL : (hp'.push (seqObj "list" acc.toList.toArray 0)).get? hp'.objs.size = some (seqObj "list" acc.toList.toArray 0) := Heap.get?_push_size _ rfl
  show wpAny _ _ _ _ _ { s with heap := hp'.push (seqObj "list" acc.toList.toArray 0), toks := tk }
  refine wpAny_bind (wpAny_holding (wpAny_call_entry PyProof.Rows.slot_list_sort ⟨_, hoL, rfl⟩ PyProof.Rows.entry_list_sort
    (list_sort_treeK strKind_oneLt (s := { s with heap := hp'.push (seqObj "list" acc.toList.toArray 0), toks := tk }) hoL hS.keysOf (fun v₁ v₂ rest e => keyKind_strs (by rw [← e]; exact hS)) (by rw [hal, hzs]; exact h64) fun st' hp hs => ⟨_, rfl, ?_⟩)
    (PyProof.Rows.args_list_sort _)))
  obtain ⟨ys, g1, g2, g3⟩ := sorted_out_str hS hp hs
  obtain ⟨e', he'⟩ := PyProof.Rows.sortedHeap_at (vs := acc.toList) (out := (arrOf st').map (·.2)) hoL
  have hlen : (ys.map V.str).length ≤ sizeLine := by
    rw [List.length_map, g2.length_eq, hzs]
    exact Nat.le_trans (Nat.le_of_lt h64) (by decide)
  refine wpAny_pure ⟨_, rfl, .ref hp'.objs.size, upd H hp'.objs.size (.lst (ys.map V.str)), I1.laid (t' := tk) (fun b u e => ?_) (Nat.le_refl _)
    (show ObjOk X.prog X.w _ _ _ (.lst (ys.map V.str)) from ⟨hlen, ((arrOf st').map (·.2)).toList, e', vals_of_strs g1, by rw [Array.toArray_toList]; exact he'⟩), rfl, q ys _ _ g2 g3 (I1.hok.fresh (Nat.le_refl _)) rfl⟩
  have hb : b < hp'.objs.size := Heap.lt_size e
  rw [PyProof.Rows.sortedHeap_old (Nat.ne_of_lt hb) (by rw [size_push']; exact Nat.lt_succ_of_lt hb)]
  exact Heap.get?_push_of_some _ e
end
end Lc
namespace Lc
open PySem PySem.Spec PyProof.Rows L2 Evl
section
variable {K : PySem.W.Frag} {σ : L2.St} {H H' : Hp} {ta tb te tx : TE} {t : TT} {x y z v : V} {r : R2} {D : Ends} {tu tz : TS} {tA : TA}
/-- the pair (i, sign) taken apart -/
theorem gpair {K : PySem.W.Frag} {p q : Nat} {Ta : Addr} {a b : V} {σ : L2.St} {H : Hp} {Q : L2.St → Hp → Prop} (h : H Ta = some (.tup [a, b])) (k : Q ((σ.set p (some a)).set q (some b)) H) : gTup K 2 (gCons (gName p) (gCons (gName q) gNil)) (.ref Ta) σ H Q :=
  ⟨Ta, [a, b], rfl, st_of h, rfl, _, _, rfl, _, _, rfl, rfl, k⟩
theorem el_lcE {l : List Nat} {p q : Nat} {vs : List Nat} (f : Nat → Bool) (v : Nat → V) (h : EvA tA σ H [.str (S l)]) (hz : l.length ≤ 40000) (hw : ∀ x y, wipe (((wipe σ vs).set p (some x)).set q (some y)) vs = wipe σ vs)
    (ht : ∀ (i : Nat) (c : Nat) H1, Ex H H1 → l[i]? = some c → EvT t (((wipe σ vs).set p (some (.int (i : Nat)))).set q (some (.str (S [c])))) H1 (f i))
    (he : ∀ (i : Nat) (c : Nat) H1, Ex H H1 → l[i]? = some c → f i = true → Ev te (((wipe σ vs).set p (some (.int (i : Nat)))).set q (some (.str (S [c])))) H1 (v i)) :
    EvL (tLc (iEnumS tA) (gTup K 2 (gCons (gName p) (gCons (gName q) gNil))) t te vs) σ H (given l.length f v) := fun H0 e Q qq => h H0 e _ fun H1 e1 => ⟨S l, rfl, fun Dl hD => by
  refine ⟨fun i m H' => m = l.length - i ∧ i ≤ l.length ∧ Cw H1 f v Dl i H', ⟨l.length, by simp, Nat.zero_le _, ⟨hD, Ex.new hD, upd_same⟩⟩, ?_⟩
  rintro i m H' ⟨rfl, hi, pc⟩
  by_cases hlt : i < l.length
  · refine .inr ⟨by show i < (S l).cps.size; rw [its_sz]; exact hlt, Cw H1 f v Dl (i + 1), fun H2 p2 => ⟨l.length - (i + 1), by omega, rfl, hlt, p2⟩, fun x H2 hy => ?_⟩
    obtain ⟨Ta, c, ex, hT, e2, hc⟩ := hy
    subst ex
    have hc' := its_at hc
    obtain ⟨c1, c2, c3⟩ := pc
    have pc2 : Cw H1 f v Dl i H2 := ⟨c1, by rw [e2]; exact c2.trans (Ex.new hT), by
      rw [e2, upd_ne (fun z => by rw [z, hT] at c3; cases c3)]
      exact c3⟩
    refine gpair (by rw [e2]; exact upd_same) ⟨hw _ _, ?_⟩
    exact cw_turn pc2 (by omega) (ht i c H1 (e.trans e1) hc') (fun hf => he i c H1 (e.trans e1) hc' hf)
  · have ei : i = l.length := by omega
    subst ei
    exact .inl ⟨by show (S l).cps.size ≤ l.length; rw [its_sz]; exact Nat.le_refl _, qq Dl H' (fresh_back e1 pc.1) (e1.trans pc.2.1) pc.2.2⟩⟩
theorem s_forE {l : List Nat} {p q : Nat} (h : EvA tA σ H [.str (S l)]) (Pv : Nat → L2.St → Hp → Prop) (h0 : ∀ H1, Ex H H1 → Pv 0 σ H1) (hx : ∀ i σ' H1 H2, Pv i σ' H1 → Ex H1 H2 → Pv i σ' H2)
    (hs : ∀ i c σ' H', l[i]? = some c → Pv i σ' H' → tu { D with nx := Pv (i + 1), ct := Pv (i + 1), bk := D.nx } ((σ'.set p (some (.int (i : Nat)))).set q (some (.str (S [c])))) H') (hd : ∀ σ' H', Pv l.length σ' H' → D.nx σ' H') :
    tFor (iEnumS tA) (gTup K 2 (gCons (gName p) (gCons (gName q) gNil))) tu D σ H :=
  h H (Ex.refl H) _ fun H1 e => ⟨S l, rfl, fun i m σ' H' => m = l.length - i ∧ i ≤ l.length ∧ Pv i σ' H', ⟨l.length, by simp, Nat.zero_le _, h0 H1 e⟩, fun i m σ' H' hw => by
    obtain ⟨rfl, hi, pv⟩ := hw
    by_cases hlt : i < l.length
    · refine .inr ⟨by show i < (S l).cps.size; rw [its_sz]; exact hlt, Pv (i + 1), fun σ2 H2 p2 => ⟨l.length - (i + 1), by omega, rfl, hlt, p2⟩, fun x H2 hy => ?_⟩
      obtain ⟨Ta, c, ex, hT, e2, hc⟩ := hy
      subst ex
      refine gpair (by rw [e2]; exact upd_same) ?_
      exact hs i c σ' _ (its_at hc) (hx _ _ _ _ pv (by rw [e2]; exact Ex.new hT))
    · have ei : i = l.length := by omega
      subst ei
      exact .inl ⟨by show (S l).cps.size ≤ l.length; rw [its_sz]; exact Nat.le_refl _, hd σ' H' pv⟩⟩
end
end Lc
namespace Lc
open PySem PySem.Spec PyProof.Rows L2 Evl
/-! ### keywords, no positional defaults -/
theorem kbinds0 {K : PySem.W.Frag} {x qual : Str} {params : Arguments} {body : List Stmt} {scope : Scope} {kws : List (Str × V)} {f : Addr} {fd : FuncData} {ps : List Str} (F : FunD K x qual params body scope [] kws f fd) (n : Nat) (ks : List Str) (ms : List (Str × V)) (g : {α : Type} → List α → List α → List α → List α) (hk : kws ≠ []) (hms : ∀ q ∈ ms, q ∈ kws)
    (hrel : ∀ {vs mz zs : List V} {us mv ws : List Value}, Vals vs us → Vals mz mv → Vals zs ws → mv.length = ms.length → Vals (g vs mz zs) (g us mv ws))
    (h : ∀ (D : Addr) (doc pm : Value) (an : Option Addr) (cdv ct : Value) (us mv ws : List Value), us.length = n → mv.length = ms.length → ws.length = ks.length →
      KwChain D ((ms.map (·.1)).zip mv) (bindArgs (PySem.W.fnOf x qual params body scope .none (.ref D) doc pm an cdv ct) ⟨us, ks.zip ws⟩) (ps.zip (g us mv ws))) :
    ∃ mv : List Value, KBn K fd ps n ks (fun us ws => g us mv ws) (fun vs zs => g vs (ms.map (·.2)) zs) := by
  obtain ⟨oc, od, dV, kV, doc, pm, an, cdv, ct, osl, rfl, lk, hcd, hD, hK⟩ := F.ex
  rcases hD with ⟨_, rfl⟩ | ⟨e, _⟩
  · rcases hK with e | ⟨D, rfl, hq⟩
    · exact absurd e hk
    · obtain ⟨mv, hl, rk, hks⟩ := kwd_vals (ms := ms) fun q hm => hq q (hms q hm)
      refine ⟨mv, ⟨fun s us ws X l1 l2 => ?_, fun r1 r2 => hrel r1 rk r2 hl⟩⟩
      exact BindsTo.of_looks fun M => KwChain.looks X hks (h D doc pm an cdv ct us mv ws l1 hl l2)
  · exact absurd rfl e
end Lc
namespace Lc
open PySem PySem.Spec PyProof.Rows L2 Evl
/-! ### lists of ints and of Bools compared -/
section
variable {K : PySem.W.Frag} {H : Hp}
theorem dpAll_of {α : Type} {g : α → V} {d : α → PyData} (hg : ∀ x, Dp K H (g x) (d x)) : ∀ l : List α, DpAll K H (l.map g) (l.map d)
  | [] => .nil
  | x :: r => .cons (hg x) (dpAll_of hg r)
theorem lay_of {α : Type} {d : α → PyData} (hd : ∀ x, (d x).canLay0 = true) : ∀ l : List α, PyData.canLayAll0 (l.map d) = true
  | [] => rfl
  | x :: r => by
    show (PyData.canLay0 (d x) && PyData.canLayAll0 (r.map d)) = true
    rw [hd, lay_of hd r]
    rfl
theorem depth_of {α : Type} {d : α → PyData} {n : Nat} (hd : ∀ x, (d x).depth ≤ n) : ∀ l : List α, PyData.depthAll (l.map d) ≤ n
  | [] => by simp [PyData.depthAll]
  | x :: r => by
    have h1 := hd x
    have h2 := depth_of hd r
    simp only [List.map_cons, PyData.depthAll]
    omega
theorem shaped_of {α : Type} {d : α → PyData} (hd : ∀ x, (d x).canLay0 = true) (hn : ∀ x, (d x).depth ≤ 1) (l : List α) : SeqAt.shaped (.list (l.map d)) = true := by
  have h1 := depth_of hn l
  unfold SeqAt.shaped
  rw [Bool.and_eq_true]
  refine ⟨lay_of hd l, decide_eq_true ?_⟩
  simp only [PyData.depth]
  omega
theorem eqvAll_of {α : Type} [DecidableEq α] {d : α → PyData} (hd : ∀ x y, PyData.eqv (d x) (d y) = decide (x = y)) : ∀ l m : List α, PyData.eqvAll (l.map d) (m.map d) = decide (l = m)
  | [], [] => rfl
  | [], y :: m => by simp [PyData.eqvAll]
  | x :: l, [] => by simp [PyData.eqvAll]
  | x :: l, y :: m => by
    simp only [List.map_cons, PyData.eqvAll]
    rw [hd, eqvAll_of hd l m, Bool.eq_iff_iff]
    simp
theorem rv_neL {α : Type} [DecidableEq α] {g : α → V} {d : α → PyData} (hg : ∀ x H, Dp K H (g x) (d x)) (h1 : ∀ x, (d x).canLay0 = true) (h2 : ∀ x, (d x).depth ≤ 1) (h3 : ∀ x y, PyData.eqv (d x) (d y) = decide (x = y)) {p q : Addr} {l m : List α} (hp : SqL K H p (l.map g)) (hq : SqL K H q (m.map g)) :
    RV (rNeD K) (.ref p) (.ref q) H (.bl (!decide (l = m))) := fun H1 e Q k => by
  refine ⟨.list (l.map d), .list (m.map d), .lst (ex_l e hp) (dpAll_of (fun x => hg x H1) l), .lst (ex_l e hq) (dpAll_of (fun x => hg x H1) m), shaped_of h1 h2 l, shaped_of h1 h2 m, ?_⟩
  rw [show PyData.eqv (.list (l.map d)) (.list (m.map d)) = decide (l = m) by simp only [PyData.eqv]; exact eqvAll_of h3 l m]
  exact k H1 (Ex.refl H1)
theorem rv_eqL {α : Type} [DecidableEq α] {g : α → V} {d : α → PyData} (hg : ∀ x H, Dp K H (g x) (d x)) (h1 : ∀ x, (d x).canLay0 = true) (h2 : ∀ x, (d x).depth ≤ 1) (h3 : ∀ x y, PyData.eqv (d x) (d y) = decide (x = y)) {p q : Addr} {l m : List α} (hp : SqL K H p (l.map g)) (hq : SqL K H q (m.map g)) :
    RV (rEqD K) (.ref p) (.ref q) H (.bl (decide (l = m))) := fun H1 e Q k => by
  refine ⟨.list (l.map d), .list (m.map d), .lst (ex_l e hp) (dpAll_of (fun x => hg x H1) l), .lst (ex_l e hq) (dpAll_of (fun x => hg x H1) m), shaped_of h1 h2 l, shaped_of h1 h2 m, ?_⟩
  rw [show PyData.eqv (.list (l.map d)) (.list (m.map d)) = decide (l = m) by simp only [PyData.eqv]; exact eqvAll_of h3 l m]
  exact k H1 (Ex.refl H1)
theorem rv_neLI {p q : Addr} {l m : List Int} (hp : SqL K H p (l.map V.int)) (hq : SqL K H q (m.map V.int)) : RV (rNeD K) (.ref p) (.ref q) H (.bl (!decide (l = m))) :=
  rv_neL (d := PyData.int) (fun x _ => .int x) (fun _ => rfl) (fun _ => by simp [PyData.depth]) (fun x y => by simp only [PyData.eqv]; rw [Bool.eq_iff_iff]; simp) hp hq
theorem rv_neLB {p q : Addr} {l m : List Bool} (hp : SqL K H p (l.map V.bl)) (hq : SqL K H q (m.map V.bl)) : RV (rNeD K) (.ref p) (.ref q) H (.bl (!decide (l = m))) :=
  rv_neL (d := PyData.bool) (fun x _ => .bl x) (fun _ => rfl) (fun _ => by simp [PyData.depth]) (fun x y => by simp only [PyData.eqv]; rw [Bool.eq_iff_iff]; simp) hp hq
theorem rv_eqLI {p q : Addr} {l m : List Int} (hp : SqL K H p (l.map V.int)) (hq : SqL K H q (m.map V.int)) : RV (rEqD K) (.ref p) (.ref q) H (.bl (decide (l = m))) :=
  rv_eqL (d := PyData.int) (fun x _ => .int x) (fun _ => rfl) (fun _ => by simp [PyData.depth]) (fun x y => by simp only [PyData.eqv]; rw [Bool.eq_iff_iff]; simp) hp hq
theorem strOk_low {l : List Nat} (h : ∀ c ∈ l, c < 128) : PyData.strOk (S l) = true := by
  show l.toArray.all (fun x => decide (x < 1114112)) = true
  rw [List.all_toArray, List.all_eq_true]
  intro c hc
  have := h c hc
  exact decide_eq_true (by omega)
end
/-! ### a name set to a new tuple if a test says so -/
section
variable {σ : L2.St} {H : Hp} {te : TE} {t : TT} {D : Ends} {tz : TS}
theorem q_ifAsgU {b : Bool} {i : Nat} {xs : List V} {x0 : V} (h : EvT t σ H b) (h1 : b = true → EvU te σ H xs) (hs : σ.set i (some x0) = σ)
    (k : ∀ (x : V) H1, Ex H H1 → (b = true → ∃ p, x = .ref p ∧ H1 p = some (.tup xs)) → (b = false → x = x0) → tz D (σ.set i (some x)) H1) : tSeq (tIfS t (tAsg te (gName i)) tNext) tz D σ H := by
  refine q_when h (fun hb H1 e1 => ?_) (fun hb H1 e1 => ?_)
  · exact s_asgU (fun H2 e2 Q q => h1 hb H2 (e1.trans e2) Q q) fun p H2 hp e2 h2 => k (.ref p) H2 (e1.trans e2) (fun _ => ⟨p, rfl, h2⟩) (fun z => by rw [hb] at z; cases z)
  · have q := k x0 H1 e1 (fun z => by rw [hb] at z; cases z) (fun _ => rfl)
    rw [hs] at q
    exact q
end
end Lc
namespace Lc
open PySem PySem.Spec PyProof.Rows L2 Evl
section
variable {X : Cx} {CX : CXT} {k : Nat} {f C : Addr} {fd : FuncData} {ps : List Str} {sp : Sp} {E : XK}
/-! ### operators by an own method -/
def rBinOwn (C : Addr) (sp : Sp) (E : XK) : R2 := fun x y H Q => ∃ a dx fs b dy gs, x = .ref a ∧ H a = some (.ins C dx fs) ∧ y = .ref b ∧ H b = some (.ins C dy gs) ∧ sp [.ref a, .ref b] H (fun v H' => (∃ r, v = .ref r) ∧ Q v H') E
theorem op_binOwn {op : Operator} (F : FnOk X.prog X.w X.K X.mg X.base CX k f fd ps sp) (hr : Room k X.A) (h1 : PySem.W.selfFirst X.K C = true) (hs : PySem.W.findIn X.K (.ref C) (PySem.dunder op.info.2) = some (some (.ref f))) (hf : PySem.W.isFn X.K (.ref f) = true) (hb : Binds X.K fd ps []) (hx : Passes CX X E) :
    OpR X (binaryOp op) (rBinOwn C sp E) := by
  intro pins s σ H x y v u Q I rx ry h
  obtain ⟨a, dx, fs, b, dy, gs, rfl, ha, rfl, hb', hsp⟩ := h
  obtain rfl : v = Value.ref a := rx
  obtain rfl : u = Value.ref b := ry
  obtain ⟨mA, J, _⟩ := ins_get I.hok ha
  obtain ⟨mB, J', _⟩ := ins_get I.hok hb'
  obtain ⟨od, J, _⟩ := J.look
  obtain ⟨od', J', _⟩ := J'.look
  obtain ⟨m, hF⟩ := I.fr
  refine PySem.W.binop_K hF I.ok.mod.kin J J'.type h1 hs hf (wpAny_mono (run_at (A := X.A) (vs := [.ref a, .ref b]) rfl F hr hb hx I (.cons (show RelV (.ref a) (Value.ref a) from rfl) (.cons (show RelV (.ref b) (Value.ref b) from rfl) .nil)) hsp) (fun w s' hw => ?_) fun _ _ x => x)
  obtain ⟨v, H', I', rv, ⟨r, rfl⟩, q⟩ := hw
  cases rv
  exact ⟨.ref r, H', I', rfl, q⟩
def rBinInt (C : Addr) (sp : Sp) (E : XK) : R2 := fun x y H Q => ∃ a dx fs i, x = .ref a ∧ H a = some (.ins C dx fs) ∧ y = .int i ∧ sp [.ref a, .int i] H (fun v H' => (∃ r, v = .ref r) ∧ Q v H') E
theorem op_binInt {op : Operator} {fo ro : Option Value} (F : FnOk X.prog X.w X.K X.mg X.base CX k f fd ps sp) (hr : Room k X.A) (h1 : PySem.W.selfFirst X.K C = true) (hs : PySem.W.findIn X.K (.ref C) (PySem.dunder op.info.2) = some (some (.ref f))) (hf : PySem.W.isFn X.K (.ref f) = true)
    (h2 : PySem.W.findIn X.K (.ref C) (dunderR op.info.2) = some none) (h3 : PySem.W.findIn X.K (.type "int") (PySem.dunder op.info.2) = some fo) (h4 : PySem.W.findIn X.K (.type "int") (dunderR op.info.2) = some ro) (h5 : PySem.W.subIn X.K (.type "int") (.ref C) = some false) (hb : Binds X.K fd ps []) (hx : Passes CX X E) :
    OpR X (binaryOp op) (rBinInt C sp E) := by
  intro pins s σ H x y v u Q I rx ry h
  obtain ⟨a, dx, fs, i, rfl, ha, rfl, hsp⟩ := h
  obtain rfl : v = Value.ref a := rx
  obtain ⟨t, rfl⟩ := ry
  obtain ⟨mA, J, _⟩ := ins_get I.hok ha
  obtain ⟨od, J, _⟩ := J.look
  obtain ⟨m, hF⟩ := I.fr
  refine PySem.W.ksp_binT hF I.ok.mod.kin J rfl h1 hs hf h2 (.inl rfl) h3 h4 h5 (wpAny_mono (run_at (A := X.A) (vs := [.ref a, .int i]) rfl F hr hb hx I (.cons (show RelV (.ref a) (Value.ref a) from rfl) (.cons (show RelV (.int i) (Value.int i t) from ⟨t, rfl⟩) .nil)) hsp) (fun w s' hw => ?_) fun _ _ x => x)
  obtain ⟨v, H', I', rv, ⟨r, rfl⟩, q⟩ := hw
  cases rv
  exact ⟨.ref r, H', I', rfl, q⟩
def rUnOwn (C : Addr) (sp : Sp) (E : XK) : V → Hp → VK → Prop := fun x H Q => ∃ a dx fs, x = .ref a ∧ H a = some (.ins C dx fs) ∧ sp [.ref a] H Q E
theorem un_negOwn (F : FnOk X.prog X.w X.K X.mg X.base CX k f fd ps sp) (hr : Room k X.A) (hs : PySem.W.findIn X.K (.ref C) "__neg__" = some (some (.ref f))) (hf : PySem.W.isFn X.K (.ref f) = true) (hb : Binds X.K fd ps []) (hx : Passes CX X E) :
    UnR X (unaryOp .USub) (rUnOwn C sp E) := by
  intro pins s σ H x v Q I rx h
  obtain ⟨a, dx, fs, rfl, ha, hsp⟩ := h
  obtain rfl : v = Value.ref a := rx
  obtain ⟨mA, J, _⟩ := ins_get I.hok ha
  obtain ⟨od, J, _⟩ := J.look
  obtain ⟨m, hF⟩ := I.fr
  refine PySem.W.ksp_neg hF I.ok.mod.kin J hs hf (wpAny_mono (run_at (A := X.A) (vs := [.ref a]) rfl F hr hb hx I (.cons (show RelV (.ref a) (Value.ref a) from rfl) .nil) hsp) (fun w s' hw => ?_) fun _ _ x => x)
  obtain ⟨v, H', I', rv, q⟩ := hw
  exact ⟨v, H', I', rv, q⟩
/-! ### a list or a tuple, walked -/
def iSeq (K : PySem.W.Frag) (tl : TE) : TI := fun σ H R => tl σ H fun x H1 => ∃ a, x = .ref a ∧ (((∃ xs, SqL K H1 a xs) ∧ R (Itl K a) H1) ∨ ((∃ xs, SqT K H1 a xs) ∧ R (Itt K a) H1))
theorem pi_seq {tg l : Expr} {tl : TE} (hl : PE X l tl) : PI X tg l (iSeq X.K tl) := by
  refine ⟨fun pins s σ H R I h => ?_⟩
  refine thn (hl.run pins s σ H _ I h) fun v s1 ⟨x, H1, I1, r1, q1⟩ => ?_
  obtain ⟨a, e, q1⟩ := q1
  subst e
  cases r1
  rcases q1 with ⟨⟨xs, hq⟩, q⟩ | ⟨⟨xs, hq⟩, q⟩
  · obtain ⟨its, rv, p, hz⟩ := I1.list hq
    refine wpAny_pyIter_list p.isList ?_
    refine ⟨s1.heap.objs.size, [s1.heap.objs.size], _, _, H1, rfl, I1.kept (t' := s1.toks) fun b o e => Heap.get?_push_of_some _ e, turn_list a _, ⟨_, Heap.get?_push_size _ rfl, rfl, rfl⟩, fun b hb => ?_, q⟩
    have e : b = s1.heap.objs.size := by simpa using hb
    subst e
    exact I1.fpOk (Nat.le_refl _) (I1.hok.fresh (Nat.le_refl _))
  · obtain ⟨its, rv, p, hz⟩ := I1.tuple hq
    refine wpAny_pyIter_tuple (show s1.heap.IsTuple a its.toArray from p) ?_
    refine ⟨s1.heap.objs.size, [s1.heap.objs.size], _, _, H1, rfl, I1.kept (t' := s1.toks) fun b o e => Heap.get?_push_of_some _ e, turn_tuple a _, ⟨_, Heap.get?_push_size _ rfl, rfl, rfl⟩, fun b hb => ?_, q⟩
    have e : b = s1.heap.objs.size := by simpa using hb
    subst e
    exact I1.fpOk (Nat.le_refl _) (I1.hok.fresh (Nat.le_refl _))
end
section
variable {K : PySem.W.Frag} {σ : L2.St} {H H' : Hp} {ta tb te : TE} {t : TT} {x y z v : V} {tA : TA}
/-! ### rows of whole numbers -/
/-- rs: the rows' objects (lists or tuples, c), G: what stands in them -/
structure Rw (c : List V → HO) (H : Hp) (rs : List Addr) (G : List (List Int)) : Prop where
  len : rs.length = G.length
  row : ∀ k, k < G.length → H (rs.getD k 0) = some (c ((G.getD k []).map V.int))
theorem Rw.ex {c : List V → HO} {rs : List Addr} {G : List (List Int)} (h : Rw c H rs G) (e : Ex H H') : Rw c H' rs G := ⟨h.len, fun k hk => e _ _ (h.row k hk)⟩
theorem Rw.at_ {c : List V → HO} {rs : List Addr} {G : List (List Int)} (h : Rw c H rs G) {k : Nat} {x : V} (hx : (rs.map V.ref)[k]? = some x) : k < G.length ∧ x = .ref (rs.getD k 0) ∧ H (rs.getD k 0) = some (c ((G.getD k []).map V.int)) := by
  obtain ⟨hk, e⟩ := List.getElem?_eq_some_iff.mp hx
  rw [List.length_map] at hk
  have hk2 : k < G.length := by rw [← h.len]; exact hk
  refine ⟨hk2, ?_, h.row k hk2⟩
  rw [← e, List.getElem_map, List.getD_eq_getElem?_getD, List.getElem?_eq_getElem hk]
  rfl
/-- a new row -/
def EvN (c : List V → HO) (te : TE) (σ : L2.St) (H : Hp) (row : List Int) : Prop := ∀ H1, Ex H H1 → ∀ Q : VK, (∀ p H2, H1 p = none → Ex H1 H2 → H2 p = some (c (row.map V.int)) → Q (.ref p) H2) → te σ H1 Q
/-- a new list of new rows -/
def EvG (c : List V → HO) (te : TE) (σ : L2.St) (H : Hp) (G : List (List Int)) : Prop := ∀ H1, Ex H H1 → ∀ Q : VK, (∀ p rs H2, H1 p = none → Ex H1 H2 → H2 p = some (.lst (rs.map V.ref)) → Rw c H2 rs G → (∀ r ∈ rs, H1 r = none) → (p :: rs).Nodup → Q (.ref p) H2) → te σ H1 Q
structure Cg (H : Hp) (c : List V → HO) (G : List (List Int)) (Dl : Addr) (i : Nat) (H' : Hp) : Prop where
  no : H Dl = none
  ex : Ex H H'
  out : ∃ rs : List Addr, H' Dl = some (.lst (rs.map V.ref)) ∧ rs.length = i ∧ (∀ k, k < i → H' (rs.getD k 0) = some (c ((G.getD k []).map V.int))) ∧ (∀ r ∈ rs, H r = none) ∧ (Dl :: rs).Nodup
theorem mem_getD {rs : List Addr} {r : Addr} (h : r ∈ rs) : ∃ k, k < rs.length ∧ rs.getD k 0 = r := by
  obtain ⟨k, hk, e⟩ := List.getElem_of_mem h
  exact ⟨k, hk, by rw [List.getD_eq_getElem?_getD, List.getElem?_eq_getElem hk]; exact e⟩
theorem getD_mem {rs : List Addr} {k : Nat} (h : k < rs.length) : rs.getD k 0 ∈ rs := by
  rw [List.getD_eq_getElem?_getD, List.getElem?_eq_getElem h]
  exact List.getElem_mem h
theorem cg_start {c : List V → HO} {G : List (List Int)} {Dl : Addr} (hD : H Dl = none) : Cg H c G Dl 0 (upd H Dl (.lst [])) := ⟨hD, Ex.new hD, [], upd_same, rfl, fun k hk => absurd hk (Nat.not_lt_zero _), by simp, by simp⟩
theorem cg_turn {c : List V → HO} {G : List (List Int)} {Dl : Addr} {i : Nat} {σ2 : L2.St} (p : Cg H c G Dl i H') (hi : i < 50000) (he : EvN c te σ2 H (G.getD i [])) :
    tYes σ2 H' fun b H3 => if b = true then te σ2 H3 fun y H4 => ∃ acc, H4 Dl = some (.lst acc) ∧ acc.length < sizeLine ∧ Cg H c G Dl (i + 1) (upd H4 Dl (.lst (acc ++ [y]))) else Cg H c G Dl (i + 1) H3 := by
  obtain ⟨hD, e, rs, h1, hl, hrow, hfr, hnd⟩ := p
  show te σ2 H' fun y H4 => ∃ acc, H4 Dl = some (.lst acc) ∧ acc.length < sizeLine ∧ Cg H c G Dl (i + 1) (upd H4 Dl (.lst (acc ++ [y])))
  refine he H' e _ fun q H4 hq e4 h4 => ⟨rs.map V.ref, e4 _ _ h1, sz_lt (by rw [List.length_map]; omega), hD, Ex.mut (e.trans e4) hD, rs ++ [q], ?_, by simp [hl], ?_, ?_, ?_⟩
  · rw [upd_same, List.map_append]
    rfl
  · intro k hk
    have hqD : q ≠ Dl := fun z => by rw [z, h1] at hq; cases hq
    rcases Nat.lt_or_ge k i with hlt | hge
    · have e1 : (rs ++ [q]).getD k 0 = rs.getD k 0 := by
        rw [List.getD_eq_getElem?_getD, List.getD_eq_getElem?_getD, List.getElem?_append_left (by omega)]
      rw [e1, upd_ne (fun z => (List.nodup_cons.mp hnd).1 (by rw [← z]; exact getD_mem (by omega)))]
      exact e4 _ _ (hrow k hlt)
    · have ek : k = i := by omega
      subst ek
      have e1 : (rs ++ [q]).getD k 0 = q := by
        rw [List.getD_eq_getElem?_getD, List.getElem?_append_right (by omega), hl, Nat.sub_self]
        rfl
      rw [e1, upd_ne hqD]
      exact h4
  · intro r hr
    rcases List.mem_append.mp hr with hr | hr
    · exact hfr r hr
    · have : r = q := by simpa using hr
      rw [this]
      exact fresh_back e hq
  · rw [← List.cons_append]
    refine List.nodup_append.mpr ⟨hnd, by simp, ?_⟩
    intro a ha b hb
    have hb' : b = q := by simpa using hb
    rw [hb']
    intro z
    rcases List.mem_cons.mp ha with ha | ha
    · rw [← z, ha, h1] at hq; cases hq
    · obtain ⟨k, hk, ek⟩ := mem_getD ha
      have := hrow k (by omega)
      rw [ek, z, hq] at this
      cases this
theorem cg_end {c : List V → HO} {G : List (List Int)} {Dl : Addr} {H0 H1 : Hp} {Q : VK} (p : Cg H1 c G Dl G.length H') (e1 : Ex H0 H1) (q : ∀ p rs H2, H0 p = none → Ex H0 H2 → H2 p = some (.lst (rs.map V.ref)) → Rw c H2 rs G → (∀ r ∈ rs, H0 r = none) → (p :: rs).Nodup → Q (.ref p) H2) : Q (.ref Dl) H' := by
  obtain ⟨hD, e, rs, h1, hl, hrow, hfr, hnd⟩ := p
  exact q Dl rs H' (fresh_back e1 hD) (e1.trans e) h1 ⟨hl, hrow⟩ (fun r hr => fresh_back e1 (hfr r hr)) hnd
/-! comprehensions that make rows -/
theorem eg_R1 {c : List V → HO} {G : List (List Int)} {ta : TA} {j : Nat} {vs : List Nat} (h : EvA ta σ H [.int (G.length : Nat)]) (hz : G.length ≤ 40000) (hw : ∀ x, wipe ((wipe σ vs).set j (some x)) vs = wipe σ vs)
    (he : ∀ (i : Nat) H1, Ex H H1 → i < G.length → EvN c te ((wipe σ vs).set j (some (.int (i : Int)))) H1 (G.getD i [])) : EvG c (tLc (iRng1 ta) (gName j) tYes te vs) σ H G := fun H0 e Q q => h H0 e _ fun H1 e1 => ⟨(G.length : Nat), rfl, by omega, by omega, fun Dl hD =>
  lc_range (lo := 0) (n := G.length) (Cg H1 c G Dl) (cg_start hD) (fun i H' hi p => by
    have e0 : (0 : Int) + (i : Int) = (i : Int) := Int.zero_add _
    show wipe ((wipe σ vs).set j (some (.int ((0 : Int) + (i : Int))))) vs = wipe σ vs ∧ tYes ((wipe σ vs).set j (some (.int ((0 : Int) + (i : Int))))) H' fun b H3 => if b = true then te ((wipe σ vs).set j (some (.int ((0 : Int) + (i : Int))))) H3 fun y H4 => ∃ acc, H4 Dl = some (.lst acc) ∧ acc.length < sizeLine ∧ Cg H1 c G Dl (i + 1) (upd H4 Dl (.lst (acc ++ [y]))) else Cg H1 c G Dl (i + 1) H3
    rw [e0]
    exact ⟨hw _, cg_turn p (by omega) (he i H1 (e.trans e1) hi)⟩) (fun H' p => cg_end p e1 q)⟩
theorem eg_L {c : List V → HO} {G : List (List Int)} {a : Addr} {xs : List V} {tl : TE} {j : Nat} {vs : List Nat} (h : Ev tl σ H (.ref a)) (hx : SqL K H a xs) (hl : xs.length = G.length) (hz : G.length ≤ 40000) (hw : ∀ x, wipe ((wipe σ vs).set j (some x)) vs = wipe σ vs)
    (he : ∀ (i : Nat) (x : V) H1, Ex H H1 → xs[i]? = some x → EvN c te ((wipe σ vs).set j (some x)) H1 (G.getD i [])) : EvG c (tLc (iList K tl) (gName j) tYes te vs) σ H G := fun H0 e Q q => h H0 e _ fun H1 e1 => ⟨a, rfl, ⟨xs, ex_l (e.trans e1) hx⟩, fun Dl hD =>
  lc_list (xs := xs) (Cg H1 c G Dl) (cg_start hD) (fun i H' _ p => ex_l ((e.trans e1).trans p.ex) hx) (fun i x H' hi p => ⟨hw x, cg_turn p (by have := (List.getElem?_eq_some_iff.mp hi).1; omega) (he i x H1 (e.trans e1) hi)⟩)
    (fun H' p => cg_end (hl ▸ p) e1 q)⟩
theorem eg_T {c : List V → HO} {G : List (List Int)} {a : Addr} {xs : List V} {tl : TE} {j : Nat} {vs : List Nat} (h : Ev tl σ H (.ref a)) (hx : SqT K H a xs) (hl : xs.length = G.length) (hz : G.length ≤ 40000) (hw : ∀ x, wipe ((wipe σ vs).set j (some x)) vs = wipe σ vs)
    (he : ∀ (i : Nat) (x : V) H1, Ex H H1 → xs[i]? = some x → EvN c te ((wipe σ vs).set j (some x)) H1 (G.getD i [])) : EvG c (tLc (iTup K tl) (gName j) tYes te vs) σ H G := fun H0 e Q q => h H0 e _ fun H1 e1 => ⟨a, rfl, ⟨xs, ex_t (e.trans e1) hx⟩, fun Dl hD =>
  lc_tup (xs := xs) (Cg H1 c G Dl) (cg_start hD) (fun i H' _ p => ex_t ((e.trans e1).trans p.ex) hx) (fun i x H' hi p => ⟨hw x, cg_turn p (by have := (List.getElem?_eq_some_iff.mp hi).1; omega) (he i x H1 (e.trans e1) hi)⟩)
    (fun H' p => cg_end (hl ▸ p) e1 q)⟩
theorem eg_S {c : List V → HO} {G : List (List Int)} {a : Addr} {xs : List V} {tl : TE} {j : Nat} {vs : List Nat} (h : Ev tl σ H (.ref a)) (hx : SqL K H a xs ∨ SqT K H a xs) (hl : xs.length = G.length) (hz : G.length ≤ 40000) (hw : ∀ x, wipe ((wipe σ vs).set j (some x)) vs = wipe σ vs)
    (he : ∀ (i : Nat) (x : V) H1, Ex H H1 → xs[i]? = some x → EvN c te ((wipe σ vs).set j (some x)) H1 (G.getD i [])) : EvG c (tLc (iSeq K tl) (gName j) tYes te vs) σ H G := fun H0 e Q q => h H0 e _ fun H1 e1 => ⟨a, rfl, by
  rcases hx with hx | hx
  · exact .inl ⟨⟨xs, ex_l (e.trans e1) hx⟩, fun Dl hD => lc_list (xs := xs) (Cg H1 c G Dl) (cg_start hD) (fun i H' _ p => ex_l ((e.trans e1).trans p.ex) hx) (fun i x H' hi p => ⟨hw x, cg_turn p (by have := (List.getElem?_eq_some_iff.mp hi).1; omega) (he i x H1 (e.trans e1) hi)⟩) (fun H' p => cg_end (hl ▸ p) e1 q)⟩
  · exact .inr ⟨⟨xs, ex_t (e.trans e1) hx⟩, fun Dl hD => lc_tup (xs := xs) (Cg H1 c G Dl) (cg_start hD) (fun i H' _ p => ex_t ((e.trans e1).trans p.ex) hx) (fun i x H' hi p => ⟨hw x, cg_turn p (by have := (List.getElem?_eq_some_iff.mp hi).1; omega) (he i x H1 (e.trans e1) hi)⟩) (fun H' p => cg_end (hl ▸ p) e1 q)⟩⟩
theorem lc_zipT {a b : Addr} {xs ys : List V} {g : TG} {tt : TT} {te : TE} {vs : List Nat} {σ : L2.St} {H1 : Hp} {D : Addr} {Qd : Hp → Prop} (hl : xs.length = ys.length) (Pv : Nat → Hp → Prop) (h0 : Pv 0 (upd H1 D (.lst []))) (hq : ∀ i H, Pv i H → SqT K H a xs ∧ SqT K H b ys)
    (hs : ∀ i x y T H, xs[i]? = some x → ys[i]? = some y → Pv i H → H T = none → g (.ref T) (wipe σ vs) (upd H T (.tup [x, y])) fun σ2 H2 => wipe σ2 vs = wipe σ vs ∧ tt σ2 H2 fun b H3 =>
      if b = true then te σ2 H3 fun y H4 => ∃ acc, H4 D = some (.lst acc) ∧ acc.length < sizeLine ∧ Pv (i + 1) (upd H4 D (.lst (acc ++ [y]))) else Pv (i + 1) H3) (hd : ∀ H, Pv xs.length H → Qd H) :
    ∃ W : Nat → Nat → Hp → Prop, (∃ m, W 0 m (upd H1 D (.lst []))) ∧ ∀ i m H, W i m H →
      ((RZ.ItzT K a b).stop i H ∧ Qd H) ∨ ((RZ.ItzT K a b).go i H ∧ ∃ Nx : Hp → Prop, (∀ H', Nx H' → ∃ m', m' < m ∧ W (i + 1) m' H') ∧ ∀ x H', (RZ.ItzT K a b).yld i H x H' → g x (wipe σ vs) H' fun σ2 H2 => wipe σ2 vs = wipe σ vs ∧ tt σ2 H2 fun b H3 =>
        if b = true then te σ2 H3 fun y H4 => ∃ acc, H4 D = some (.lst acc) ∧ acc.length < sizeLine ∧ Nx (upd H4 D (.lst (acc ++ [y]))) else Nx H3) := by
  refine ⟨fun i m H => m = xs.length - i ∧ i ≤ xs.length ∧ Pv i H, ⟨xs.length, by simp, Nat.zero_le _, h0⟩, ?_⟩
  rintro i m H ⟨rfl, hi, p⟩
  obtain ⟨qx, qy⟩ := hq i H p
  by_cases hlt : i < xs.length
  · have hx : xs[i]? = some xs[i] := List.getElem?_eq_getElem hlt
    have hlt2 : i < ys.length := by omega
    have hy : ys[i]? = some ys[i] := List.getElem?_eq_getElem hlt2
    refine .inr ⟨⟨xs, ys, _, _, qx, qy, hx, hy⟩, Pv (i + 1), fun H' p' => ⟨xs.length - (i + 1), by omega, rfl, hlt, p'⟩, fun v H' y => ?_⟩
    obtain ⟨T, x', y', rfl, hT, rfl, f1, f2⟩ := y
    exact hs i x' y' T H (f1 xs qx) (f2 ys qy) p hT
  · have e : i = xs.length := by omega
    subst e
    exact .inl ⟨⟨xs, ys, qx, qy, Or.inl (Nat.le_refl _)⟩, hd H p⟩
/-- pairs of two tuples -/
theorem el_lcZ {a b : Addr} {xs ys : List V} {p q : Nat} {vs : List Nat} (f : Nat → Bool) (v : Nat → V) (h : EvA tA σ H [.ref a, .ref b]) (hx : SqT K H a xs) (hy : SqT K H b ys) (hl : xs.length = ys.length) (hz : xs.length ≤ 40000)
    (hw : ∀ x y, wipe (((wipe σ vs).set p (some x)).set q (some y)) vs = wipe σ vs)
    (ht : ∀ (i : Nat) (x y : V) H1, Ex H H1 → xs[i]? = some x → ys[i]? = some y → EvT t (((wipe σ vs).set p (some x)).set q (some y)) H1 (f i))
    (he : ∀ (i : Nat) (x y : V) H1, Ex H H1 → xs[i]? = some x → ys[i]? = some y → f i = true → Ev te (((wipe σ vs).set p (some x)).set q (some y)) H1 (v i)) :
    EvL (tLc (RZ.iZipA K tA) (gTup K 2 (gCons (gName p) (gCons (gName q) gNil))) t te vs) σ H (given xs.length f v) := fun H0 e Q qq => h H0 e _ fun H1 e1 => ⟨a, b, xs, ys, rfl, .inr ⟨ex_t (e.trans e1) hx, ex_t (e.trans e1) hy, fun Dl hD =>
  lc_zipT hl (Cw H1 f v Dl) ⟨hD, Ex.new hD, upd_same⟩ (fun i H' pc => ⟨ex_t ((e.trans e1).trans pc.2.1) hx, ex_t ((e.trans e1).trans pc.2.1) hy⟩) (fun i x y Ta H' hi hj pc hT => by
    obtain ⟨c1, c2, c3⟩ := pc
    have pc2 : Cw H1 f v Dl i (upd H' Ta (.tup [x, y])) := ⟨c1, c2.trans (Ex.new hT), by
      rw [upd_ne (fun z => by rw [z, hT] at c3; cases c3)]
      exact c3⟩
    exact gpair upd_same ⟨hw _ _, cw_turn pc2 (by have := (List.getElem?_eq_some_iff.mp hi).1; omega) (ht i x y H1 (e.trans e1) hi hj) (fun hf => he i x y H1 (e.trans e1) hi hj hf)⟩)
    (fun H' pc => qq Dl H' (fresh_back e1 pc.1) (e1.trans pc.2.1) pc.2.2)⟩⟩
theorem eg_Z {c : List V → HO} {G : List (List Int)} {a b : Addr} {xs ys : List V} {p q : Nat} {vs : List Nat} (h : EvA tA σ H [.ref a, .ref b]) (hx : SqT K H a xs) (hy : SqT K H b ys) (hl : xs.length = ys.length) (hg : xs.length = G.length) (hz : xs.length ≤ 40000)
    (hw : ∀ x y, wipe (((wipe σ vs).set p (some x)).set q (some y)) vs = wipe σ vs)
    (he : ∀ (i : Nat) (x y : V) H1, Ex H H1 → xs[i]? = some x → ys[i]? = some y → EvN c te (((wipe σ vs).set p (some x)).set q (some y)) H1 (G.getD i [])) :
    EvG c (tLc (RZ.iZipA K tA) (gTup K 2 (gCons (gName p) (gCons (gName q) gNil))) tYes te vs) σ H G := fun H0 e Q qq => h H0 e _ fun H1 e1 => ⟨a, b, xs, ys, rfl, .inr ⟨ex_t (e.trans e1) hx, ex_t (e.trans e1) hy, fun Dl hD =>
  lc_zipT hl (Cg H1 c G Dl) (cg_start hD) (fun i H' pc => ⟨ex_t ((e.trans e1).trans pc.ex) hx, ex_t ((e.trans e1).trans pc.ex) hy⟩) (fun i x y Ta H' hi hj pc hT => by
    obtain ⟨c1, c2, rs, h1, hl', hrow, hfr, hnd⟩ := pc
    have e2 : Ex H' (upd H' Ta (.tup [x, y])) := Ex.new hT
    have pc2 : Cg H1 c G Dl i (upd H' Ta (.tup [x, y])) := ⟨c1, c2.trans e2, rs, e2 _ _ h1, hl', fun k hk => e2 _ _ (hrow k hk), hfr, hnd⟩
    exact gpair upd_same ⟨hw _ _, cg_turn pc2 (by have := (List.getElem?_eq_some_iff.mp hi).1; omega) (he i x y H1 (e.trans e1) hi hj)⟩)
    (fun H' pc => cg_end (hg ▸ pc) e1 qq)⟩⟩
theorem el_lcT {a : Addr} {xs : List V} {tl : TE} {j : Nat} {vs : List Nat} (f : Nat → Bool) (v : Nat → V) (h : Ev tl σ H (.ref a)) (hx : SqT K H a xs) (hz : xs.length ≤ 40000) (hw : ∀ x, wipe ((wipe σ vs).set j (some x)) vs = wipe σ vs)
    (ht : ∀ (i : Nat) (x : V) H1, Ex H H1 → xs[i]? = some x → EvT t ((wipe σ vs).set j (some x)) H1 (f i)) (he : ∀ (i : Nat) (x : V) H1, Ex H H1 → xs[i]? = some x → f i = true → Ev te ((wipe σ vs).set j (some x)) H1 (v i)) :
    EvL (tLc (iTup K tl) (gName j) t te vs) σ H (given xs.length f v) := fun H0 e Q q => h H0 e _ fun H1 e1 => ⟨a, rfl, ⟨xs, ex_t (e.trans e1) hx⟩, fun Dl hD =>
  lc_tup (xs := xs) (Cw H1 f v Dl) ⟨hD, Ex.new hD, upd_same⟩ (fun i H' _ p => ex_t ((e.trans e1).trans p.2.1) hx) (fun i x H' hi p => ⟨hw x, cw_turn p (by have := (List.getElem?_eq_some_iff.mp hi).1; omega) (ht i x H1 (e.trans e1) hi) (fun hf => he i x H1 (e.trans e1) hi hf)⟩)
    (fun H' p => q Dl H' (fresh_back e1 p.1) (e1.trans p.2.1) p.2.2)⟩
theorem el_lcSq {a : Addr} {xs : List V} {tl : TE} {j : Nat} {vs : List Nat} (f : Nat → Bool) (v : Nat → V) (h : Ev tl σ H (.ref a)) (hx : SqL K H a xs ∨ SqT K H a xs) (hz : xs.length ≤ 40000) (hw : ∀ x, wipe ((wipe σ vs).set j (some x)) vs = wipe σ vs)
    (ht : ∀ (i : Nat) (x : V) H1, Ex H H1 → xs[i]? = some x → EvT t ((wipe σ vs).set j (some x)) H1 (f i)) (he : ∀ (i : Nat) (x : V) H1, Ex H H1 → xs[i]? = some x → f i = true → Ev te ((wipe σ vs).set j (some x)) H1 (v i)) :
    EvL (tLc (iSeq K tl) (gName j) t te vs) σ H (given xs.length f v) := fun H0 e Q q => h H0 e _ fun H1 e1 => ⟨a, rfl, by
  rcases hx with hx | hx
  · exact .inl ⟨⟨xs, ex_l (e.trans e1) hx⟩, fun Dl hD => lc_list (xs := xs) (Cw H1 f v Dl) ⟨hD, Ex.new hD, upd_same⟩ (fun i H' _ p => ex_l ((e.trans e1).trans p.2.1) hx) (fun i x H' hi p => ⟨hw x, cw_turn p (by have := (List.getElem?_eq_some_iff.mp hi).1; omega) (ht i x H1 (e.trans e1) hi) (fun hf => he i x H1 (e.trans e1) hi hf)⟩) (fun H' p => q Dl H' (fresh_back e1 p.1) (e1.trans p.2.1) p.2.2)⟩
  · exact .inr ⟨⟨xs, ex_t (e.trans e1) hx⟩, fun Dl hD => lc_tup (xs := xs) (Cw H1 f v Dl) ⟨hD, Ex.new hD, upd_same⟩ (fun i H' _ p => ex_t ((e.trans e1).trans p.2.1) hx) (fun i x H' hi p => ⟨hw x, cw_turn p (by have := (List.getElem?_eq_some_iff.mp hi).1; omega) (ht i x H1 (e.trans e1) hi) (fun hf => he i x H1 (e.trans e1) hi hf)⟩) (fun H' p => q Dl H' (fresh_back e1 p.1) (e1.trans p.2.1) p.2.2)⟩⟩
end
end Lc
namespace Lc
open PySem PySem.Spec PyProof.Rows L2 Evl
section
variable {K : PySem.W.Frag} {σ : L2.St} {H H' : Hp} {ta tb tc te : TE} {t : TT} {x y z v : V} {tA : TA} {r r' : R2}
theorem ev_chain {b1 b2 : Bool} (ha : Ev ta σ H x) (hb : Ev tb σ H y) (hc : Ev tc σ H z) (h1 : RV r x y H (.bl b1)) (h2 : b1 = true → RV r' y z H (.bl b2)) : Ev (tChain r r' ta tb tc) σ H (.bl (b1 && b2)) := fun H1 e1 Q q =>
  ha H1 e1 _ fun H2 e2 => hb H2 (e1.trans e2) _ fun H3 e3 => h1 H3 ((e1.trans e2).trans e3) _ fun H4 e4 => ⟨b1, rfl, by
    cases b1 with
    | true =>
      rw [if_pos rfl]
      refine hc H4 (((e1.trans e2).trans e3).trans e4) _ fun H5 e5 => h2 rfl H5 ((((e1.trans e2).trans e3).trans e4).trans e5) _ fun H6 e6 => ?_
      exact q H6 ((((e2.trans e3).trans e4).trans e5).trans e6)
    | false =>
      rw [if_neg (by decide)]
      exact q H4 ((e2.trans e3).trans e4)⟩
theorem rc_lenSq {p : Addr} {xs : List V} (h : SqL K H p xs ∨ SqT K H p xs) : RC (fun xs H Q => ∃ x n, xs = [x] ∧ LenV K x H n ∧ Q (.int n) H) [.ref p] H (.int xs.length) := by
  rcases h with h | h
  · exact rc_lenL h
  · exact rc_lenT h
theorem rc_max2 {i j : Int} : RC (fun xs H Q => ∃ i j, xs = [V.int i, V.int j] ∧ Q (.int (if j > i then j else i)) H) [.int i, .int j] H (.int (if j > i then j else i)) := fun H1 _ _ q => ⟨i, j, rfl, q H1 (Ex.refl H1)⟩
abbrev rTupOf (K : PySem.W.Frag) : List V → Hp → VK → Prop := fun xs H Q => ∃ p ys, xs = [.ref p] ∧ ((SqL K H p ys ∧ ∀ l, H l = none → Q (.ref l) (upd H l (.tup ys))) ∨ (SqT K H p ys ∧ Q (.ref p) H))
abbrev rListOf (K : PySem.W.Frag) : List V → Hp → VK → Prop := fun xs H Q => ∃ p ys, xs = [.ref p] ∧ (SqL K H p ys ∨ SqT K H p ys) ∧ ∀ l, H l = none → Q (.ref l) (upd H l (.lst ys))
theorem eu_tupOf {xs : List V} (h : EvL te σ H xs) : EvU (tCB (rTupOf K) (tCons te tNil)) σ H xs := fun H1 e Q q =>
  h H1 e _ fun p H2 hp e2 h2 => ⟨p, xs, rfl, .inl ⟨sq_of h2, fun l hl => q l _ (fresh_back e2 hl) (e2.trans (Ex.new hl)) upd_same⟩⟩
theorem eu_tupL {p : Addr} {xs : List V} (h : Ev te σ H (.ref p)) (hs : SqL K H p xs) : EvU (tCB (rTupOf K) (tCons te tNil)) σ H xs := fun H1 e Q q =>
  h H1 e _ fun H2 e2 => ⟨p, xs, rfl, .inl ⟨ex_l (e.trans e2) hs, fun l hl => q l _ (fresh_back e2 hl) (e2.trans (Ex.new hl)) upd_same⟩⟩
theorem el_listOf {p : Addr} {xs : List V} (h : Ev te σ H (.ref p)) (hs : SqL K H p xs ∨ SqT K H p xs) : EvL (tCB (rListOf K) (tCons te tNil)) σ H xs := fun H1 e Q q =>
  h H1 e _ fun H2 e2 => ⟨p, xs, rfl, (hs.imp (ex_l (e.trans e2)) (ex_t (e.trans e2))), fun l hl => q l _ (fresh_back e2 hl) (e2.trans (Ex.new hl)) upd_same⟩
/-- a new tuple of new rows -/
def EvGT (te : TE) (σ : L2.St) (H : Hp) (c : List V → HO) (G : List (List Int)) : Prop := ∀ H1, Ex H H1 → ∀ Q : VK, (∀ p rs H2, H1 p = none → Ex H1 H2 → H2 p = some (.tup (rs.map V.ref)) → Rw c H2 rs G → (∀ r ∈ rs, H1 r = none) → Q (.ref p) H2) → te σ H1 Q
theorem eg_tup {c : List V → HO} {G : List (List Int)} (h : EvG c te σ H G) : EvGT (tCB (rTupOf K) (tCons te tNil)) σ H c G := fun H1 e Q q =>
  h H1 e _ fun p rs H2 hp e2 h2 hr hf _ => ⟨p, rs.map V.ref, rfl, .inl ⟨sq_of h2, fun l hl => q l rs _ (fresh_back e2 hl) (e2.trans (Ex.new hl)) upd_same (hr.ex (Ex.new hl)) hf⟩⟩
theorem given_map (row : List Int) (g : Int → Int) (v : Nat → V) (hv : ∀ i, i < row.length → v i = .int (g (row.getD i 0))) : given row.length (fun _ => true) v = (row.map g).map V.int := by
  rw [given_all]
  apply List.ext_getElem
  · simp
  · intro i h1 h2
    simp only [List.length_map, List.length_range] at h1
    rw [List.getElem_map, List.getElem_range, hv i h1, List.getElem_map, List.getElem_map, List.getD_eq_getElem?_getD, List.getElem?_eq_getElem h1]
    rfl
theorem int_at {row : List Int} {i : Nat} {x : V} (h : (row.map V.int)[i]? = some x) : i < row.length ∧ x = .int (row.getD i 0) := by
  obtain ⟨hi, e⟩ := List.getElem?_eq_some_iff.mp h
  rw [List.length_map] at hi
  refine ⟨hi, ?_⟩
  rw [← e, List.getElem_map, List.getD_eq_getElem?_getD, List.getElem?_eq_getElem hi]
  rfl
theorem row_map {G : List (List Int)} {f : List Int → List Int} {k : Nat} (hk : k < G.length) : (G.map f).getD k [] = f (G.getD k []) := by
  rw [List.getD_eq_getElem?_getD, List.getD_eq_getElem?_getD, List.getElem?_map, List.getElem?_eq_getElem hk]
  rfl
theorem row_mem {G : List (List Int)} {k : Nat} (hk : k < G.length) : G.getD k [] ∈ G := by
  rw [List.getD_eq_getElem?_getD, List.getElem?_eq_getElem hk]
  exact List.getElem_mem hk
theorem atI_int {row : List Int} {i : Int} (h0 : 0 ≤ i) (h1 : i < row.length) : atI (row.map V.int) i = some (.int (row.getD i.toNat 0)) := by
  have h := atI_i (xs := row.map V.int) h0 (by rw [List.length_map]; exact h1) V.non
  rw [h, List.getD_eq_getElem?_getD, List.getD_eq_getElem?_getD, List.getElem?_map, List.getElem?_eq_getElem (show i.toNat < row.length by omega)]
  rfl
theorem atI_ref {rs : List Addr} {i : Int} (h0 : 0 ≤ i) (h1 : i < rs.length) : atI (rs.map V.ref) i = some (.ref (rs.getD i.toNat 0)) := by
  have h := atI_i (xs := rs.map V.ref) h0 (by rw [List.length_map]; exact h1) V.non
  rw [h, List.getD_eq_getElem?_getD, List.getD_eq_getElem?_getD, List.getElem?_map, List.getElem?_eq_getElem (show i.toNat < rs.length by omega)]
  rfl
end
end Lc
namespace Lc
open PySem PySem.Spec PyProof.Rows L2 Evl
section
variable {K : PySem.W.Frag} {σ : L2.St} {H H' : Hp} {ta tb tc te : TE} {t : TT} {x y z v : V} {tA : TA} {r r' : R2} {b : Addr}
theorem q_first {tz : TS} {D : Ends} {i : Nat} (h : te σ H fun v H1 => tz D (σ.set i (some v)) H1) : tSeq (tAsg te (gName i)) tz D σ H := h
theorem op_fst {Q : VK} (h : ta σ H fun x H1 => tb σ H1 fun y H2 => r x y H2 Q) : tOp r ta tb σ H Q := h
theorem asg_fst {D : Ends} {i : Nat} (h : te σ H fun v H1 => D.nx (σ.set i (some v)) H1) : tAsg te (gName i) D σ H := h
theorem ret_fst {D : Ends} (h : te σ H D.rt) : tRet te D σ H := h
theorem cons_fst {tr : TA} {Q : List V → Hp → Prop} (h : te σ H fun x H1 => tr σ H1 fun xs H2 => Q (x :: xs) H2) : tCons te tr σ H Q := h
/-! ### numbers drawn on the way: the box alone is changed -/
def EvI (b : Addr) (te : TE) (σ : L2.St) (Pd : Int → Prop) : Prop := ∀ H1, Bx H1 b → ∀ Q : VK, (∀ d H2, Pd d → ExB b H1 H2 → Bx H2 b → Q (.int d) H2) → te σ H1 Q
theorem ei_is {n : Int} (h : ∀ H1, Ev te σ H1 (.int n)) : EvI b te σ (· = n) := fun H1 hb Q q => h H1 H1 (Ex.refl H1) _ fun H2 e2 => q n H2 rfl (ExB.of e2) (hb.ex e2)
theorem ei_c {n : Int} : EvI b (tC (.int n)) σ (· = n) := ei_is fun H1 => ev_c
theorem ei_var {i : Nat} {n : Int} (h : σ[i]? = some (some (.int n))) : EvI b (tVar i) σ (· = n) := ei_is fun H1 => ev_var h
theorem ei_imp {P1 P2 : Int → Prop} (h : EvI b te σ P1) (k : ∀ d, P1 d → P2 d) : EvI b te σ P2 := fun H1 hb Q q => h H1 hb Q fun d H2 hd e2 b2 => q d H2 (k d hd) e2 b2
theorem ei_op {g : Int → Int → Int} {Pa Pb Pd : Int → Prop} (ha : EvI b ta σ Pa) (hb : EvI b tb σ Pb) (h : ∀ x y, Pa x → Pb y → Pd (g x y)) : EvI b (tOp (rI0 fun i j => .int (g i j)) ta tb) σ Pd := fun H1 b1 Q q =>
  ha H1 b1 _ fun x H2 hx e2 b2 => hb H2 b2 _ fun y H3 hy e3 b3 => ⟨x, y, rfl, rfl, q _ H3 (h x y hx hy) (e2.trans e3) b3⟩
theorem ei_opC {C : Int → Int → Prop} {g : Int → Int → Int} {Pa Pb Pd : Int → Prop} (ha : EvI b ta σ Pa) (hb : EvI b tb σ Pb) (hc : ∀ x y, Pa x → Pb y → C x y) (h : ∀ x y, Pa x → Pb y → Pd (g x y)) : EvI b (tOp (rI C fun i j => .int (g i j)) ta tb) σ Pd := fun H1 b1 Q q =>
  ha H1 b1 _ fun x H2 hx e2 b2 => hb H2 b2 _ fun y H3 hy e3 b3 => ⟨x, y, rfl, rfl, hc x y hx hy, q _ H3 (h x y hx hy) (e2.trans e3) b3⟩
theorem ei_pow {n v : Int} (h : (10 : Int) ^ n.toNat = v) (h0 : 0 ≤ n) (h1 : n ≤ 1000) : EvI b (tOp (rI CPow fun i j => V.int (i ^ j.toNat)) (tC (V.int 10)) (tC (V.int n))) σ (· = v) := ei_is fun H1 => ev_pow10 h h0 h1
/-- a new row, drawn -/
def EvRB (b : Addr) (te : TE) (σ : L2.St) (H : Hp) (Pr : List Int → Prop) : Prop := ∀ H1, ExB b H H1 → Bx H1 b → ∀ Q : VK, (∀ p row H2, H1 p = none → ExB b H1 H2 → Bx H2 b → H2 p = some (.lst (row.map V.int)) → Pr row → Q (.ref p) H2) → te σ H1 Q
structure Db (b : Addr) (H : Hp) (Pd : Nat → Int → Prop) (Dl : Addr) (i : Nat) (H' : Hp) : Prop where
  no : H Dl = none
  bx : Bx H' b
  ex : ExB b H H'
  out : ∃ row : List Int, row.length = i ∧ H' Dl = some (.lst (row.map V.int)) ∧ ∀ k, k < i → Pd k (row.getD k 0)
theorem bx_ne {H : Hp} {a b : Addr} (hb : Bx H b) (ha : H a = none) : a ≠ b := fun z => by
  obtain ⟨i, j, k, h⟩ := hb
  rw [z, h] at ha
  cases ha
theorem ExB.mut {H H' : Hp} {p : Addr} {o : HO} (e : ExB b H H') (h : H p = none) : ExB b H (L2.upd H' p o) := fun c o' hc hx => by
  have : c ≠ p := fun z => by rw [z, h] at hx; cases hx
  rw [upd_ne this]
  exact e c o' hc hx
theorem Bx.put2 {H : Hp} {p : Addr} {o : HO} (h : Bx H b) (n : p ≠ b) : Bx (L2.upd H p o) b := by
  obtain ⟨i, j, k, h⟩ := h
  exact ⟨i, j, k, by rw [upd_ne (Ne.symm n)]; exact h⟩
theorem fresh_b {H H' : Hp} {p : Addr} (e : ExB b H H') (hb : Bx H' b) (h : H' p = none) : H p = none := by
  cases hp : H p with
  | none => rfl
  | some o =>
    have n : p ≠ b := bx_ne hb h
    rw [e p o n hp] at h
    cases h
theorem db_turn {Pd : Nat → Int → Prop} {Dl : Addr} {i : Nat} {σ2 : L2.St} (hDb : Dl ≠ b) (p : Db b H Pd Dl i H') (hi : i < 50000) (he : EvI b te σ2 (Pd i)) :
    tYes σ2 H' fun bb H3 => if bb = true then te σ2 H3 fun y H4 => ∃ acc, H4 Dl = some (.lst acc) ∧ acc.length < sizeLine ∧ Db b H Pd Dl (i + 1) (L2.upd H4 Dl (.lst (acc ++ [y]))) else Db b H Pd Dl (i + 1) H3 := by
  obtain ⟨hD, hb, e, row, hl, h1, hp⟩ := p
  show te σ2 H' fun y H4 => ∃ acc, H4 Dl = some (.lst acc) ∧ acc.length < sizeLine ∧ Db b H Pd Dl (i + 1) (L2.upd H4 Dl (.lst (acc ++ [y])))
  refine he H' hb _ fun d H4 hd e4 b4 => ⟨row.map V.int, e4 _ _ hDb h1, sz_lt (by rw [List.length_map]; omega), hD, b4.put2 hDb, (e.trans e4).mut hD, row ++ [d], by simp [hl], ?_, ?_⟩
  · rw [upd_same, List.map_append]
    rfl
  · intro k hk
    rcases Nat.lt_or_ge k i with hlt | hge
    · have e1 : (row ++ [d]).getD k 0 = row.getD k 0 := by
        rw [List.getD_eq_getElem?_getD, List.getD_eq_getElem?_getD, List.getElem?_append_left (by omega)]
      rw [e1]
      exact hp k hlt
    · have ek : k = i := by omega
      subst ek
      have e1 : (row ++ [d]).getD k 0 = d := by
        rw [List.getD_eq_getElem?_getD, List.getElem?_append_right (by omega), hl, Nat.sub_self]
        rfl
      rw [e1]
      exact hd
theorem db_start {Pd : Nat → Int → Prop} {Dl : Addr} (hb : Bx H b) (hD : H Dl = none) : Db b H Pd Dl 0 (L2.upd H Dl (.lst [])) := ⟨hD, hb.put2 (bx_ne hb hD), (ExB.refl H).mut hD, [], rfl, upd_same, fun k hk => absurd hk (Nat.not_lt_zero _)⟩
/-- [te for j in range(n)], te draws -/
theorem rb_R1 {Pd : Nat → Int → Prop} {n : Nat} {j : Nat} {vs : List Nat} (h : ∀ H1, EvA tA σ H1 [.int (n : Int)]) (hz : n ≤ 40000) (hw : ∀ x, wipe ((wipe σ vs).set j (some x)) vs = wipe σ vs)
    (he : ∀ i : Nat, i < n → EvI b te ((wipe σ vs).set j (some (.int (i : Int)))) (Pd i)) : EvRB b (tLc (iRng1 tA) (gName j) tYes te vs) σ H fun row => row.length = n ∧ ∀ k, k < n → Pd k (row.getD k 0) := fun H0 e0 b0 Q q => h H0 H0 (Ex.refl H0) _ fun H1 e1 => ⟨(n : Int), rfl, by omega, by omega, fun Dl hD =>
  lc_range (lo := 0) (n := n) (Db b H1 Pd Dl) (db_start (b0.ex e1) hD) (fun i H' hi p => by
    have e0 : (0 : Int) + (i : Int) = (i : Int) := Int.zero_add _
    show wipe ((wipe σ vs).set j (some (.int ((0 : Int) + (i : Int))))) vs = wipe σ vs ∧ tYes ((wipe σ vs).set j (some (.int ((0 : Int) + (i : Int))))) H' fun bb H3 => if bb = true then te ((wipe σ vs).set j (some (.int ((0 : Int) + (i : Int))))) H3 fun y H4 => ∃ acc, H4 Dl = some (.lst acc) ∧ acc.length < sizeLine ∧ Db b H1 Pd Dl (i + 1) (L2.upd H4 Dl (.lst (acc ++ [y]))) else Db b H1 Pd Dl (i + 1) H3
    rw [e0]
    exact ⟨hw _, db_turn (bx_ne (b0.ex e1) hD) p (by omega) (he i hi)⟩) (fun H' p => by
    obtain ⟨c1, c2, c3, row, c4, c5, c6⟩ := p
    exact q Dl row H' (fresh_back e1 c1) ((ExB.of e1).trans c3) c2 c5 ⟨c4, c6⟩)⟩
/-- [te for x in a list of numbers], te draws -/
theorem rb_L {Pd : Nat → Int → Prop} {a : Addr} {xs : List V} {j : Nat} {vs : List Nat} {tl : TE} (h : ∀ H1, Ev tl σ H1 (.ref a)) (hab : a ≠ b) (hx : SqL K H a xs) (hz : xs.length ≤ 40000) (hw : ∀ x, wipe ((wipe σ vs).set j (some x)) vs = wipe σ vs)
    (he : ∀ (i : Nat) x, xs[i]? = some x → EvI b te ((wipe σ vs).set j (some x)) (Pd i)) : EvRB b (tLc (iList K tl) (gName j) tYes te vs) σ H fun row => row.length = xs.length ∧ ∀ k, k < xs.length → Pd k (row.getD k 0) := fun H0 e0 b0 Q q => h H0 H0 (Ex.refl H0) _ fun H1 e1 => ⟨a, rfl, ⟨xs, ex_l e1 (e0.seq hab hx)⟩, fun Dl hD =>
  lc_list (xs := xs) (Db b H1 Pd Dl) (db_start (b0.ex e1) hD) (fun i H' _ p => p.ex.seq hab (ex_l e1 (e0.seq hab hx))) (fun i x H' hi p => ⟨hw x, db_turn (bx_ne (b0.ex e1) hD) p (by have := (List.getElem?_eq_some_iff.mp hi).1; omega) (he i x hi)⟩) (fun H' p => by
    obtain ⟨c1, c2, c3, row, c4, c5, c6⟩ := p
    exact q Dl row H' (fresh_back e1 c1) ((ExB.of e1).trans c3) c2 c5 ⟨c4, c6⟩)⟩
/-- rows that were drawn, in a list -/
structure Dg (b : Addr) (H : Hp) (Pr : Nat → List Int → Prop) (Dl : Addr) (i : Nat) (H' : Hp) : Prop where
  no : H Dl = none
  bx : Bx H' b
  ex : ExB b H H'
  out : ∃ (rs : List Addr) (G : List (List Int)), G.length = i ∧ H' Dl = some (.lst (rs.map V.ref)) ∧ Rw .lst H' rs G ∧ (∀ k, k < i → Pr k (G.getD k [])) ∧ (∀ r ∈ rs, H r = none) ∧ (Dl :: rs).Nodup
theorem Rw.exB {c : List V → HO} {rs : List Addr} {G : List (List Int)} (h : Rw c H rs G) (e : ExB b H H') (n : ∀ r ∈ rs, r ≠ b) : Rw c H' rs G := ⟨h.len, fun k hk => e _ _ (n _ (getD_mem (by rw [h.len]; exact hk))) (h.row k hk)⟩
/-- one more row -/
theorem rw_push {rs : List Addr} {G : List (List Int)} {Dl q : Addr} {row : List Int} {ob : HO} (h : Rw .lst H rs G) (hq : H q = some (.lst (row.map V.int))) (hqD : q ≠ Dl) (hDl : Dl ∉ rs) : Rw .lst (L2.upd H Dl ob) (rs ++ [q]) (G ++ [row]) := by
  refine ⟨by simp [h.len], fun k hk => ?_⟩
  rw [List.length_append] at hk
  have hk' : k < G.length + 1 := hk
  rcases Nat.lt_or_ge k G.length with hlt | hge
  · have e1 : (rs ++ [q]).getD k 0 = rs.getD k 0 := by
      rw [List.getD_eq_getElem?_getD, List.getD_eq_getElem?_getD, List.getElem?_append_left (by rw [h.len]; exact hlt)]
    have e2 : (G ++ [row]).getD k [] = G.getD k [] := by
      rw [List.getD_eq_getElem?_getD, List.getD_eq_getElem?_getD, List.getElem?_append_left hlt]
    rw [e1, e2, upd_ne (fun z => hDl (by rw [← z]; exact getD_mem (by rw [h.len]; exact hlt)))]
    exact h.row k hlt
  · have ek : k = G.length := by omega
    subst ek
    have e1 : (rs ++ [q]).getD G.length 0 = q := by
      rw [List.getD_eq_getElem?_getD, ← h.len, List.getElem?_append_right (Nat.le_refl _), Nat.sub_self]
      rfl
    have e2 : (G ++ [row]).getD G.length [] = row := by
      rw [List.getD_eq_getElem?_getD, List.getElem?_append_right (Nat.le_refl _), Nat.sub_self]
      rfl
    rw [e1, e2, upd_ne hqD]
    exact hq
theorem dg_push {Pr : Nat → List Int → Prop} {Dl q : Addr} {i : Nat} {row : List Int} {H4 : Hp} {rs : List Addr} {G : List (List Int)} (hDb : Dl ≠ b) (hD : H Dl = none) (hb : Bx H' b) (e : ExB b H H') (hl : G.length = i) (h1 : H' Dl = some (.lst (rs.map V.ref))) (hr : Rw .lst H' rs G) (hp : ∀ k, k < i → Pr k (G.getD k []))
    (hf : ∀ r ∈ rs, H r = none) (hnd : (Dl :: rs).Nodup) (hb0 : Bx H b) (hq : H' q = none) (e4 : ExB b H' H4) (b4 : Bx H4 b) (h4 : H4 q = some (.lst (row.map V.int))) (hrow : Pr i row) : Dg b H Pr Dl (i + 1) (L2.upd H4 Dl (.lst (rs.map V.ref ++ [.ref q]))) := by
  have hqD : q ≠ Dl := fun z => by rw [z, h1] at hq; cases hq
  have hnb : ∀ r ∈ rs, r ≠ b := fun r hr => bx_ne hb0 (hf r hr)
  refine ⟨hD, b4.put2 hDb, (e.trans e4).mut hD, rs ++ [q], G ++ [row], by simp [hl], ?_, rw_push (hr.exB e4 hnb) h4 hqD (List.nodup_cons.mp hnd).1, ?_, ?_, ?_⟩
  · rw [upd_same, List.map_append]
    rfl
  · intro k hk
    rcases Nat.lt_or_ge k i with hlt | hge
    · have e2 : (G ++ [row]).getD k [] = G.getD k [] := by
        rw [List.getD_eq_getElem?_getD, List.getD_eq_getElem?_getD, List.getElem?_append_left (by omega)]
      rw [e2]
      exact hp k hlt
    · have ek : k = i := by omega
      subst ek
      have e2 : (G ++ [row]).getD k [] = row := by
        rw [List.getD_eq_getElem?_getD, List.getElem?_append_right (by omega), hl, Nat.sub_self]
        rfl
      rw [e2]
      exact hrow
  · intro r hr
    rcases List.mem_append.mp hr with hr | hr
    · exact hf r hr
    · have : r = q := by simpa using hr
      rw [this]
      exact fresh_b e hb hq
  · rw [← List.cons_append]
    refine List.nodup_append.mpr ⟨hnd, by simp, ?_⟩
    intro a ha c hc
    have hc' : c = q := by simpa using hc
    rw [hc']
    intro z
    rcases List.mem_cons.mp ha with ha | ha
    · exact hqD (by rw [← z, ha])
    · obtain ⟨k, hk, ek⟩ := mem_getD ha
      have := hr.row k (by rw [← hr.len]; exact hk)
      rw [ek, z, hq] at this
      cases this
theorem dg_turn {Pr : Nat → List Int → Prop} {Dl : Addr} {i : Nat} {σ2 : L2.St} (hDb : Dl ≠ b) (hb0 : Bx H b) (p : Dg b H Pr Dl i H') (hi : i < 50000) (he : EvRB b te σ2 H (Pr i)) :
    tYes σ2 H' fun bb H3 => if bb = true then te σ2 H3 fun y H4 => ∃ acc, H4 Dl = some (.lst acc) ∧ acc.length < sizeLine ∧ Dg b H Pr Dl (i + 1) (L2.upd H4 Dl (.lst (acc ++ [y]))) else Dg b H Pr Dl (i + 1) H3 := by
  obtain ⟨hD, hb, e, rs, G, hl, h1, hr, hp, hf, hnd⟩ := p
  show te σ2 H' fun y H4 => ∃ acc, H4 Dl = some (.lst acc) ∧ acc.length < sizeLine ∧ Dg b H Pr Dl (i + 1) (L2.upd H4 Dl (.lst (acc ++ [y])))
  exact he H' e hb _ fun q row H4 hq e4 b4 h4 hrow => ⟨rs.map V.ref, e4 _ _ hDb h1, sz_lt (by rw [List.length_map, hr.len]; omega), dg_push hDb hD hb e hl h1 hr hp hf hnd hb0 hq e4 b4 h4 hrow⟩
theorem dg_start {Pr : Nat → List Int → Prop} {Dl : Addr} (hb : Bx H b) (hD : H Dl = none) : Dg b H Pr Dl 0 (L2.upd H Dl (.lst [])) := ⟨hD, hb.put2 (bx_ne hb hD), (ExB.refl H).mut hD, [], [], rfl, upd_same, ⟨rfl, fun k hk => absurd hk (Nat.not_lt_zero _)⟩, fun k hk => absurd hk (Nat.not_lt_zero _), by simp, by simp⟩
/-- what a drawn grid is -/
def RetGB (b : Addr) (H : Hp) (Pg : List (List Int) → Prop) (Q : VK) : Prop := ∀ p rs G H2, H p = none → ExB b H H2 → Bx H2 b → H2 p = some (.lst (rs.map V.ref)) → Rw .lst H2 rs G → (∀ r ∈ rs, H r = none) → (p :: rs).Nodup → Pg G → Q (.ref p) H2
def RetG (G : List (List Int)) (H : Hp) (Q : VK) : Prop := ∀ p rs H2, H p = none → Ex H H2 → H2 p = some (.lst (rs.map V.ref)) → Rw .lst H2 rs G → (∀ r ∈ rs, H r = none) → (p :: rs).Nodup → Q (.ref p) H2
/-- [row for x in a list], the rows drawn -/
theorem gb_L {Pr : Nat → List Int → Prop} {a : Addr} {xs : List V} {j : Nat} {vs : List Nat} {tl : TE} {Q : VK} (hb : Bx H b) (h : ∀ H1, Ex H H1 → Ev tl σ H1 (.ref a)) (hab : a ≠ b) (hx : SqL K H a xs) (hz : xs.length ≤ 40000) (hw : ∀ x, wipe ((wipe σ vs).set j (some x)) vs = wipe σ vs)
    (he : ∀ (i : Nat) x H1, Ex H H1 → xs[i]? = some x → EvRB b te ((wipe σ vs).set j (some x)) H1 (Pr i)) (q : RetGB b H (fun G => G.length = xs.length ∧ ∀ k, k < xs.length → Pr k (G.getD k [])) Q) : tLc (iList K tl) (gName j) tYes te vs σ H Q :=
  h H (Ex.refl H) H (Ex.refl H) _ fun H1 e1 => ⟨a, rfl, ⟨xs, ex_l e1 hx⟩, fun Dl hD =>
  lc_list (xs := xs) (Dg b H1 Pr Dl) (dg_start (hb.ex e1) hD) (fun i H' _ p => p.ex.seq hab (ex_l e1 hx)) (fun i x H' hi p => ⟨hw x, dg_turn (bx_ne (hb.ex e1) hD) (hb.ex e1) p (by have := (List.getElem?_eq_some_iff.mp hi).1; omega) (he i x H1 e1 hi)⟩) (fun H' p => by
    obtain ⟨c1, c2, c3, rs, G, c4, c5, c6, c7, c8, c9⟩ := p
    exact q Dl rs G H' (fresh_back e1 c1) ((ExB.of e1).trans c3) c2 c5 c6 (fun r hr => fresh_back e1 (c8 r hr)) c9 ⟨c4, c7⟩)⟩
end
end Lc
namespace Lc
open PySem PySem.Spec PyProof.Rows L2 Evl
section
variable {K : PySem.W.Frag} {H H' : Hp}
/-! ### rows of rows compared -/
theorem rw_dp {c : List V → HO} {d : List Int → PyData} (hd : ∀ r (row : List Int), H r = some (c (row.map V.int)) → Dp K H (.ref r) (d row)) : ∀ (G : List (List Int)) (rs : List Addr), Rw c H rs G → DpAll K H (rs.map V.ref) (G.map d)
  | [], [], _ => .nil
  | [], r :: rs, h => by cases h.len
  | row :: G, [], h => by cases h.len
  | row :: G, r :: rs, h => .cons (hd r row (h.row 0 (by simp))) (rw_dp hd G rs ⟨by have := h.len; simpa using this, fun k hk => h.row (k + 1) (by simp; omega)⟩)
def dRL (row : List Int) : PyData := .list (row.map PyData.int)
def dRT (row : List Int) : PyData := .tuple (row.map PyData.int)
theorem int_eqv (x y : Int) : PyData.eqv (.int x) (.int y) = decide (x = y) := by simp only [PyData.eqv]; rw [Bool.eq_iff_iff]; simp
theorem dRL_eqv (x y : List Int) : PyData.eqv (dRL x) (dRL y) = decide (x = y) := by
  unfold dRL
  simp only [PyData.eqv]
  exact eqvAll_of int_eqv x y
theorem dRT_eqv (x y : List Int) : PyData.eqv (dRT x) (dRT y) = decide (x = y) := by
  unfold dRT
  simp only [PyData.eqv]
  exact eqvAll_of int_eqv x y
theorem dRL_lay (x : List Int) : (dRL x).canLay0 = true := lay_of (d := PyData.int) (fun _ => rfl) x
theorem dRT_lay (x : List Int) : (dRT x).canLay0 = true := lay_of (d := PyData.int) (fun _ => rfl) x
theorem dRL_depth (x : List Int) : (dRL x).depth ≤ 2 := by
  have h := depth_of (d := PyData.int) (n := 1) (fun _ => by simp [PyData.depth]) x
  unfold dRL
  simp only [PyData.depth]
  omega
theorem dRT_depth (x : List Int) : (dRT x).depth ≤ 2 := by
  have h := depth_of (d := PyData.int) (n := 1) (fun _ => by simp [PyData.depth]) x
  unfold dRT
  simp only [PyData.depth]
  omega
theorem shapedL {d : List Int → PyData} (h1 : ∀ x, (d x).canLay0 = true) (h2 : ∀ x, (d x).depth ≤ 2) (l : List (List Int)) : SeqAt.shaped (.list (l.map d)) = true := by
  have h := depth_of h2 l
  unfold SeqAt.shaped
  rw [Bool.and_eq_true]
  refine ⟨lay_of h1 l, decide_eq_true ?_⟩
  simp only [PyData.depth]
  omega
theorem shapedT {d : List Int → PyData} (h1 : ∀ x, (d x).canLay0 = true) (h2 : ∀ x, (d x).depth ≤ 2) (l : List (List Int)) : SeqAt.shaped (.tuple (l.map d)) = true := by
  have h := depth_of h2 l
  unfold SeqAt.shaped
  rw [Bool.and_eq_true]
  refine ⟨lay_of h1 l, decide_eq_true ?_⟩
  simp only [PyData.depth]
  omega
theorem dpL {p : Addr} {rs : List Addr} {G : List (List Int)} (h : H p = some (.lst (rs.map V.ref))) (hr : Rw .lst H rs G) : Dp K H (.ref p) (.list (G.map dRL)) :=
  .lst (sq_of h) (rw_dp (fun r row hh => .lst (sq_of hh) (dpAll_of (fun x => .int x) row)) G rs hr)
theorem dpT {p : Addr} {rs : List Addr} {G : List (List Int)} (h : H p = some (.tup (rs.map V.ref))) (hr : Rw .tup H rs G) : Dp K H (.ref p) (.tuple (G.map dRT)) :=
  .tup (st_of h) (rw_dp (fun r row hh => .tup (st_of hh) (dpAll_of (fun x => .int x) row)) G rs hr)
theorem rv_eqGL {p q : Addr} {rs ss : List Addr} {F G : List (List Int)} (h : H p = some (.lst (rs.map V.ref))) (hr : Rw .lst H rs F) (h' : H q = some (.lst (ss.map V.ref))) (hr' : Rw .lst H ss G) : RV (rEqD K) (.ref p) (.ref q) H (.bl (decide (F = G))) := fun H1 e Q k => by
  refine ⟨_, _, dpL (e _ _ h) (hr.ex e), dpL (e _ _ h') (hr'.ex e), shapedL dRL_lay dRL_depth F, shapedL dRL_lay dRL_depth G, ?_⟩
  rw [show PyData.eqv (.list (F.map dRL)) (.list (G.map dRL)) = decide (F = G) by simp only [PyData.eqv]; exact eqvAll_of dRL_eqv F G]
  exact k H1 (Ex.refl H1)
theorem rv_neGL {p q : Addr} {rs ss : List Addr} {F G : List (List Int)} (h : H p = some (.lst (rs.map V.ref))) (hr : Rw .lst H rs F) (h' : H q = some (.lst (ss.map V.ref))) (hr' : Rw .lst H ss G) : RV (rNeD K) (.ref p) (.ref q) H (.bl (!decide (F = G))) := fun H1 e Q k => by
  refine ⟨_, _, dpL (e _ _ h) (hr.ex e), dpL (e _ _ h') (hr'.ex e), shapedL dRL_lay dRL_depth F, shapedL dRL_lay dRL_depth G, ?_⟩
  rw [show PyData.eqv (.list (F.map dRL)) (.list (G.map dRL)) = decide (F = G) by simp only [PyData.eqv]; exact eqvAll_of dRL_eqv F G]
  exact k H1 (Ex.refl H1)
theorem rv_eqGT {p q : Addr} {rs ss : List Addr} {F G : List (List Int)} (h : H p = some (.tup (rs.map V.ref))) (hr : Rw .tup H rs F) (h' : H q = some (.tup (ss.map V.ref))) (hr' : Rw .tup H ss G) : RV (rEqD K) (.ref p) (.ref q) H (.bl (decide (F = G))) := fun H1 e Q k => by
  refine ⟨_, _, dpT (e _ _ h) (hr.ex e), dpT (e _ _ h') (hr'.ex e), shapedT dRT_lay dRT_depth F, shapedT dRT_lay dRT_depth G, ?_⟩
  rw [show PyData.eqv (.tuple (F.map dRT)) (.tuple (G.map dRT)) = decide (F = G) by simp only [PyData.eqv]; exact eqvAll_of dRT_eqv F G]
  exact k H1 (Ex.refl H1)
end
end Lc
namespace Lc
open PySem PySem.Spec PyProof.Rows L2 Evl
section
variable {X : Cx} {tg : Expr}
/-! ### the walks within a comprehension: K told apart from the context -/
theorem pi_listK (K : PySem.W.Frag) (hK : X.K = K) {l : Expr} {tl : TE} (hl : PE X l tl) : PI X tg l (iList K tl) := by
  subst hK
  exact pi_list hl
theorem pi_tupK (K : PySem.W.Frag) (hK : X.K = K) {l : Expr} {tl : TE} (hl : PE X l tl) : PI X tg l (iTup K tl) := by
  subst hK
  exact pi_tup hl
theorem pi_seqK (K : PySem.W.Frag) (hK : X.K = K) {l : Expr} {tl : TE} (hl : PE X l tl) : PI X tg l (iSeq K tl) := by
  subst hK
  exact pi_seq hl
theorem pi_zipAK (K : PySem.W.Frag) (hK : X.K = K) {e e2 : Expr} {ta : TA} {p pos tpos : Pos} {elts : List Expr} {kk : Nat} (hg : Gl X "zip") (hm : X.mg "zip" = none) (ha : PA X [e, e2] ta)
    (hs : starEach [e, e2] X.env = (false, eval e X.env) :: starEach [e2] X.env := by rfl) (hpl : (backTo pos (starEach [e2] X.env)).any (·.1) = false := by rfl) :
    PI X (.Tuple elts kk tpos) (.Call (.Name "zip" p) [e, e2] [] pos) (RZ.iZipA K ta) := by
  subst hK
  exact RZ.pi_zipA hg hm ha hs hpl
end
end Lc
namespace Lc
open PySem PySem.Spec PyProof.Rows L2 Evl
section
variable {X : Cx} {CX : CXT} {k : Nat} {f C : Addr} {fd : FuncData} {ps : List Str} {sp : Sp} {dvs : List V} {ds : List Value} {E : L2.St → XK} {x m : Str} {p pos apos : Pos} {e o a b : Expr} {es : List Expr} {te ta tb : TE} {t : TA}
/-! ### in a try's body: what an exception may do hangs on the slots -/
theorem run_atS {σ : L2.St} {pins : List (Addr × Obj)} {H : Hp} {s : Shared} {E : XK} {us : List Value} {vs : List V} {Q : VK} (F : FnOk X.prog X.w X.K X.mg X.base CX k f fd ps sp) (hr : Room k X.A) (hb : Binds X.K fd ps []) (hx : PassesAt CX X σ E)
    (I : Inv X pins σ H s) (r : Vals vs us) (h : sp vs H Q E) : wpAny (model X.prog X.w) X.A (call (.ref f) us) (EP X pins σ Q) X.xe s := by
  have hl : us.length = ps.length := by rw [← r.length]; exact F.len _ _ _ _ h
  refine wpAny_call (codeAny_mono (F.run X.A X.stack s H ⟨us, []⟩ us vs Q E hr I.env0 (by
    have h2 := hb s us I.kIn (by simpa using hl)
    simpa using h2) r h) fun r s' hq => ?_)
  cases r with
  | error e => exact hx pins H s e s' I hq
  | ok fl =>
    cases fl with
    | ret u => exact I.after hq
    | next => exact False.elim hq
    | brk => exact False.elim hq
    | cont => exact False.elim hq
def tMakeS (C : Addr) (sp : Sp) (dvs : List V) (E : L2.St → XK) (t : TA) : TE := fun σ H Q => t σ H fun vs H1 => ∀ x dx, H1 x = none → H1 dx = none → dx ≠ x →
  sp (.ref x :: (vs ++ dvs)) (upd (upd H1 dx (.own x)) x (.ins C dx [])) (fun v H2 => v = .non ∧ Q (.ref x) H2) (E σ)
theorem run_makeS {pins : List (Addr × Obj)} {σ : L2.St} {H : Hp} {s : Shared} {Q : VK} {us : List Value} {vs : List V} {E : XK} (M : Mk X.K C f) (F : FnOk X.prog X.w X.K X.mg X.base CX k f fd ps sp) (hr : Room (k + 1) X.A) (hb : Binds X.K fd ps ds) (hd : Vals dvs ds)
    (hx : PassesAt CX X σ E) (I : Inv X pins σ H s) (r : Vals vs us)
    (h : ∀ x dx, H x = none → H dx = none → dx ≠ x → sp (.ref x :: (vs ++ dvs)) (upd (upd H dx (.own x)) x (.ins C dx [])) (fun v H2 => v = .non ∧ Q (.ref x) H2) E) :
    wpAny (model X.prog X.w) X.A (call (.ref C) us) (EP X pins σ Q) X.xe s := by
  have hq := h (s.heap.objs.size + 1) s.heap.objs.size (I.hok.fresh (Nat.le_succ _)) (I.hok.fresh (Nat.le_refl _)) (Nat.ne_of_lt (Nat.lt_succ_self _))
  have I2 := Inv.made (C := C) I
  have r2 : Vals (V.ref (s.heap.objs.size + 1) :: (vs ++ dvs)) (Value.ref (s.heap.objs.size + 1) :: (us ++ ds)) := .cons rfl (r.append hd)
  have hl : (Value.ref (s.heap.objs.size + 1) :: us ++ ds).length = ps.length := by
    have e := r2.length
    rw [F.len _ _ _ _ hq] at e
    exact e.symm
  refine wpAny_call (make_map (f := f) I.kIn M.makes M.init (beq_iff_eq.mp M.fn) (codeAny_mono (F.run _ X.stack _ _ ⟨Value.ref (s.heap.objs.size + 1) :: us, []⟩ (Value.ref (s.heap.objs.size + 1) :: (us ++ ds)) _ _ E (hr.make C us [])
    (I2.env0.make C us []) (hb _ (Value.ref (s.heap.objs.size + 1) :: us) I2.kIn hl) r2 hq) fun r s' hq' => ?_))
  cases r with
  | error e => exact hx pins _ _ e s' I2 hq'
  | ok fl =>
    cases fl with
    | ret u =>
      obtain ⟨v, H', I3, rv, ev, q3⟩ := I2.after hq'
      subst ev
      exact ⟨rv, ⟨V.ref (s.heap.objs.size + 1), H', I3, rfl, q3⟩⟩
    | next => exact False.elim hq'
    | brk => exact False.elim hq'
    | cont => exact False.elim hq'
theorem pe_makeS (M : Mk X.K C f) (F : FnOk X.prog X.w X.K X.mg X.base CX k f fd ps sp) (hr : Room (k + 1) X.A) (hg : Gl X x) (hm : X.mg x = some (.ref C)) (hb : Binds X.K fd ps ds) (hd : Vals dvs ds) (hx : ∀ σ, PassesAt CX X σ (E σ))
    (ha : PA X (e :: es) t) (hdb : (x == ("__debug__" : Str)) = false := by decide) (he : starEach (e :: es) X.env = (false, eval e X.env) :: starEach es X.env := by rfl) (hpl : (backTo pos (starEach es X.env)).any (·.1) = false := by rfl) :
    PE X (.Call (.Name x p) (e :: es) [] pos) (tMakeS C sp dvs E t) := by
  refine ⟨fun pins s σ H Q I h => ?_⟩
  refine wpAny_Call_Name_kw (ld_glob I hg hm ?_ hdb)
  refine PySem.W.callWith_K (h₀ := X.base) I.ok.mod.kin M.kp (thn (ha.run pos pins s σ H _ I h) fun us s1 ⟨vs, H1, I1, r, q⟩ => ⟨I1.kIn, ?_⟩) he hpl
  exact run_makeS M F hr hb hd (hx σ) I1 r q
def tMethSg (C : Addr) (m : Str) (sp : Sp) (E : L2.St → XK) (ta : TE) (t : TA) : TE := fun σ H Q => ta σ H fun x H1 => ∃ a dx fs, x = .ref a ∧ H1 a = some (.ins C dx fs) ∧ fs.lookup m = none ∧
  t σ H1 fun vs H2 => sp (x :: vs) H2 Q (E σ)
theorem pe_methSg {pl : Sem Bool} (he : PE X o ta) (c : Cls X.K C) (hm : Meth X.K C m f) (F : FnOk X.prog X.w X.K X.mg X.base CX k f fd ps sp) (hr : Room k X.A) (hb : Binds X.K fd ps []) (hx : ∀ σ, PassesAt CX X σ (E σ)) (ha : PA X (e :: es) t)
    (hst : starEach (e :: es) X.env = (false, eval e X.env) :: starEach es X.env := by rfl) (hpl : (backTo pos (starEach es X.env)).any (·.1) = false := by rfl)
    (ht : eval (.Call (.Attribute o m apos) (e :: es) [] pos) X.env = (do
      let ov ← eval o X.env
      standAt apos.atName
      let (f, first) ← holding [ov] (getMethod ov m pl)
      callWith pos f first (backTo pos (starEach (e :: es) X.env)) (backToKw pos (keywordEach [] X.env))) := by rfl) :
    PE X (.Call (.Attribute o m apos) (e :: es) [] pos) (tMethSg C m sp E ta t) := by
  refine ⟨fun pins s σ H Q I h => ?_⟩
  refine PySem.W.methodCall_KW (pl := pl) (thn (he.run pins s σ H _ I h) fun u s1 ⟨x, H1, I1, rx, a, dx, fs, ex, ea, l, q⟩ => ?_) ht
  subst ex
  obtain rfl : u = Value.ref a := rx
  refine getmeth_ok I1 ea c hm l ?_
  refine PySem.W.callWith_K (first := [.ref a]) (h₀ := X.base) I.ok.mod.kin hm.kp (thn (ha.run pos pins s1 σ H1 _ I1 q) fun us s2 ⟨vs, H2, I2, r, q2⟩ => ⟨I2.kIn, ?_⟩) hst hpl
  exact run_atS (us := .ref a :: us) (vs := .ref a :: vs) F hr hb (hx σ) I2 (.cons rfl r) q2
def tBinS (C : Addr) (sp : Sp) (E : L2.St → XK) (ta tb : TE) : TE := fun σ H Q => ta σ H fun x H1 => tb σ H1 fun y H2 => ∃ a dx fs b dy gs, x = .ref a ∧ H2 a = some (.ins C dx fs) ∧ y = .ref b ∧ H2 b = some (.ins C dy gs) ∧ sp [.ref a, .ref b] H2 (fun v H' => (∃ r, v = .ref r) ∧ Q v H') (E σ)
theorem pe_binS {op : Operator} (F : FnOk X.prog X.w X.K X.mg X.base CX k f fd ps sp) (hr : Room k X.A) (h1 : PySem.W.selfFirst X.K C = true) (hs : PySem.W.findIn X.K (.ref C) (PySem.dunder op.info.2) = some (some (.ref f))) (hf : PySem.W.isFn X.K (.ref f) = true) (hb : Binds X.K fd ps []) (hx : ∀ σ, PassesAt CX X σ (E σ)) (hea : PE X a ta) (heb : PE X b tb) :
    PE X (.BinOp a op b pos) (tBinS C sp E ta tb) := by
  refine ⟨fun pins s σ H Q I h => ?_⟩
  refine wpAny_BinOp (binT hea heb I h fun v u s2 x y H2 I2 rx ry q => ?_)
  obtain ⟨a, dx, fs, b, dy, gs, rfl, ha, rfl, hb', hsp⟩ := q
  obtain rfl : v = Value.ref a := rx
  obtain rfl : u = Value.ref b := ry
  obtain ⟨mA, J, _⟩ := ins_get I2.hok ha
  obtain ⟨mB, J', _⟩ := ins_get I2.hok hb'
  obtain ⟨od, J, _⟩ := J.look
  obtain ⟨od', J', _⟩ := J'.look
  obtain ⟨m, hF⟩ := I2.fr
  refine PySem.W.binop_K hF I2.ok.mod.kin J J'.type h1 hs hf (wpAny_mono (run_atS (vs := [.ref a, .ref b]) F hr hb (hx σ) I2 (.cons (show RelV (.ref a) (Value.ref a) from rfl) (.cons (show RelV (.ref b) (Value.ref b) from rfl) .nil)) hsp) (fun w s' hw => ?_) fun _ _ x => x)
  obtain ⟨v, H', I', rv, ⟨r, rfl⟩, q⟩ := hw
  cases rv
  exact ⟨.ref r, H', I', rfl, q⟩
end
end Lc
namespace Lc
open PySem PySem.Spec PyProof.Rows L2
/-! ### a class's own number -/
def cvI (K : PySem.W.Frag) (C : Addr) (f : Str) (n : Int) : Bool := match PySem.W.findCls K (.ref C) (.type "type") f with
  | some (.val (.int m _)) => decide (m = n)
  | _ => false
theorem cvI_ok {K : PySem.W.Frag} {C : Addr} {f : Str} {n : Int} (h : cvI K C f n = true) : ∃ u, ClX.CVal K C (.type "type") f (.int n) u := by
  unfold cvI at h
  split at h
  · rename_i m t e
    have e2 := of_decide_eq_true h
    subst e2
    exact ⟨_, e, ⟨t, rfl⟩⟩
  · cases h
end Lc
namespace Lc
open PySem PySem.Spec PyProof.Rows L2
/-! ### a module's own tuple of whole numbers -/
def intsB : List Value → List Int → Bool
  | [], [] => true
  | .int m _ :: vs, n :: ns => decide (m = n) && intsB vs ns
  | _, _ => false
theorem intsB_ok : ∀ {vs : List Value} {ns : List Int}, intsB vs ns = true → Vals (ns.map V.int) vs
  | [], [], _ => .nil
  | .int m t :: vs, n :: ns, h => by
    obtain ⟨h1, h2⟩ := Bool.and_eq_true_iff.mp (show (decide (m = n) && intsB vs ns) = true from h)
    have e := of_decide_eq_true h1
    subst e
    exact .cons ⟨t, rfl⟩ (intsB_ok h2)
def tupIB (K : PySem.W.Frag) (a : Addr) (ns : List Int) : Bool := match K.lookup a with
  | some o => (match o.data with
    | .seq its _ => decide (its.size ≤ 100) && intsB its.toList ns
    | _ => false) && (o.cls == .type "tuple")
  | none => false
theorem tupIB_ok {K : PySem.W.Frag} {a : Addr} {ns : List Int} (h : tupIB K a ns = true) (H : Hp) : SqT K H a (ns.map V.int) := by
  unfold tupIB at h
  split at h
  · rename_i o e
    obtain ⟨h1, h2⟩ := Bool.and_eq_true_iff.mp h
    split at h1
    · rename_i its n e2
      obtain ⟨h3, h4⟩ := Bool.and_eq_true_iff.mp h1
      exact .inr ⟨o, its, n, e, beq_iff_eq.mp h2, e2, Nat.le_trans (of_decide_eq_true h3) (by decide), intsB_ok h4⟩
    · cases h1
  · cases h
end Lc
namespace K57
open PySem PySem.Spec PyProof.Rows L2 Lc
abbrev R : PySem.W.OpenRow := PySem.W.OpenLaw.row PySem.Challenge.rw_leapcard_k57_all_falling_weights
def topS (i : Nat) : Stmt := PySem.Challenge.pw_leapcard_k57_all_falling_weights.main.body.getD i (.Pass ⟨0, 0, 0, 0⟩)
abbrev st_InvalidRow_init : Stmt := inClass (topS 3) 0
abbrev ps_InvalidRow_init : List Str := ["self", "row"]
abbrev ns_InvalidRow_init : List Str := ["self", "row"]
theorem sc_InvalidRow_init : FnScope ns_InvalidRow_init ps_InvalidRow_init (defScope st_InvalidRow_init) := ⟨rfl, rfl, rfl, by decide +kernel, rfl, by decide +kernel, by decide +kernel⟩
abbrev st_InvalidJump_init : Stmt := inClass (topS 4) 0
abbrev ps_InvalidJump_init : List Str := ["self", "text"]
abbrev ns_InvalidJump_init : List Str := ["self", "text"]
theorem sc_InvalidJump_init : FnScope ns_InvalidJump_init ps_InvalidJump_init (defScope st_InvalidJump_init) := ⟨rfl, rfl, rfl, by decide +kernel, rfl, by decide +kernel, by decide +kernel⟩
abbrev st_InvalidCard_init : Stmt := inClass (topS 5) 0
abbrev ps_InvalidCard_init : List Str := ["self", "part"]
abbrev ns_InvalidCard_init : List Str := ["self", "part"]
theorem sc_InvalidCard_init : FnScope ns_InvalidCard_init ps_InvalidCard_init (defScope st_InvalidCard_init) := ⟨rfl, rfl, rfl, by decide +kernel, rfl, by decide +kernel, by decide +kernel⟩
abbrev st_TooMany_init : Stmt := inClass (topS 6) 0
abbrev ps_TooMany_init : List Str := ["self", "limit"]
abbrev ns_TooMany_init : List Str := ["self", "limit"]
theorem sc_TooMany_init : FnScope ns_TooMany_init ps_TooMany_init (defScope st_TooMany_init) := ⟨rfl, rfl, rfl, by decide +kernel, rfl, by decide +kernel, by decide +kernel⟩
abbrev st_InvalidWeight_init : Stmt := inClass (topS 7) 0
abbrev ps_InvalidWeight_init : List Str := ["self", "part"]
abbrev ns_InvalidWeight_init : List Str := ["self", "part"]
theorem sc_InvalidWeight_init : FnScope ns_InvalidWeight_init ps_InvalidWeight_init (defScope st_InvalidWeight_init) := ⟨rfl, rfl, rfl, by decide +kernel, rfl, by decide +kernel, by decide +kernel⟩
abbrev st_signs_of : Stmt := topS 11
abbrev ps_signs_of : List Str := ["kinds", "walls", "marks"]
abbrev ns_signs_of : List Str := ["kinds", "walls", "marks", "plain_signs", "chosen"]
theorem sc_signs_of : FnScope ns_signs_of ps_signs_of (defScope st_signs_of) := ⟨rfl, rfl, rfl, by decide +kernel, rfl, by decide +kernel, by decide +kernel⟩
abbrev st_check_row : Stmt := topS 12
abbrev ps_check_row : List Str := ["row", "signs"]
abbrev ns_check_row : List Str := ["row", "signs", "sign"]
theorem sc_check_row : FnScope ns_check_row ps_check_row (defScope st_check_row) := ⟨rfl, rfl, rfl, by decide +kernel, rfl, by decide +kernel, by decide +kernel⟩
abbrev st_unmarked : Stmt := topS 13
abbrev ps_unmarked : List Str := ["row"]
abbrev ns_unmarked : List Str := ["row"]
theorem sc_unmarked : FnScope ns_unmarked ps_unmarked (defScope st_unmarked) := ⟨rfl, rfl, rfl, by decide +kernel, rfl, by decide +kernel, by decide +kernel⟩
abbrev st_all_marked : Stmt := topS 14
abbrev ps_all_marked : List Str := ["row"]
abbrev ns_all_marked : List Str := ["row"]
theorem sc_all_marked : FnScope ns_all_marked ps_all_marked (defScope st_all_marked) := ⟨rfl, rfl, rfl, by decide +kernel, rfl, by decide +kernel, by decide +kernel⟩
abbrev st_mirror : Stmt := topS 15
abbrev ps_mirror : List Str := ["row"]
abbrev ns_mirror : List Str := ["row"]
theorem sc_mirror : FnScope ns_mirror ps_mirror (defScope st_mirror) := ⟨rfl, rfl, rfl, by decide +kernel, rfl, by decide +kernel, by decide +kernel⟩
abbrev st_check_period : Stmt := topS 19
abbrev ps_check_period : List Str := ["period"]
abbrev ns_check_period : List Str := ["period"]
theorem sc_check_period : FnScope ns_check_period ps_check_period (defScope st_check_period) := ⟨rfl, rfl, rfl, by decide +kernel, rfl, by decide +kernel, by decide +kernel⟩
abbrev st_is_table : Stmt := topS 20
abbrev ps_is_table : List Str := ["table", "period"]
abbrev ns_is_table : List Str := ["table", "period", "row"]
theorem sc_is_table : FnScope ns_is_table ps_is_table (defScope st_is_table) := ⟨rfl, rfl, rfl, by decide +kernel, rfl, by decide +kernel, by decide +kernel⟩
abbrev st_remainder : Stmt := topS 21
abbrev ps_remainder : List Str := ["number", "modulus"]
abbrev ns_remainder : List Str := ["number", "modulus"]
theorem sc_remainder : FnScope ns_remainder ps_remainder (defScope st_remainder) := ⟨rfl, rfl, rfl, by decide +kernel, rfl, by decide +kernel, by decide +kernel⟩
abbrev st_changes_of : Stmt := topS 22
abbrev ps_changes_of : List Str := ["card", "period", "kinds"]
abbrev ns_changes_of : List Str := ["card", "period", "kinds", "found", "before", "after", "begin", "change", "window", "step", "_", "place", "sign", "at"]
theorem sc_changes_of : FnScope ns_changes_of ps_changes_of (defScope st_changes_of) := ⟨rfl, rfl, rfl, by decide +kernel, rfl, by decide +kernel, by decide +kernel⟩
abbrev st_rises : Stmt := topS 23
abbrev ps_rises : List Str := ["weights", "card"]
abbrev ns_rises : List Str := ["weights", "card", "flat", "changes", "row", "number", "change", "count"]
theorem sc_rises : FnScope ns_rises ps_rises (defScope st_rises) := ⟨rfl, rfl, rfl, by decide +kernel, rfl, by decide +kernel, by decide +kernel⟩
abbrev st_Weights_init : Stmt := inClass (topS 26) 0
abbrev ps_Weights_init : List Str := ["self", "period", "modulus", "table"]
abbrev ns_Weights_init : List Str := ["self", "period", "modulus", "table", "row", "number"]
theorem sc_Weights_init : FnScope ns_Weights_init ps_Weights_init (defScope st_Weights_init) := ⟨rfl, rfl, rfl, by decide +kernel, rfl, by decide +kernel, by decide +kernel⟩
abbrev st_Weights_falls : Stmt := inClass (topS 26) 3
abbrev ps_Weights_falls : List Str := ["self", "card"]
abbrev ns_Weights_falls : List Str := ["self", "card", "numbers", "rise"]
theorem sc_Weights_falls : FnScope ns_Weights_falls ps_Weights_falls (defScope st_Weights_falls) := ⟨rfl, rfl, rfl, by decide +kernel, rfl, by decide +kernel, by decide +kernel⟩
abbrev st_as_table : Stmt := topS 29
abbrev ps_as_table : List Str := ["numbers", "period"]
abbrev ns_as_table : List Str := ["numbers", "period", "at"]
theorem sc_as_table : FnScope ns_as_table ps_as_table (defScope st_as_table) := ⟨rfl, rfl, rfl, by decide +kernel, rfl, by decide +kernel, by decide +kernel⟩
abbrev st_count_up : Stmt := topS 30
abbrev ps_count_up : List Str := ["numbers", "high"]
abbrev ns_count_up : List Str := ["numbers", "high", "at", "_"]
theorem sc_count_up : FnScope ns_count_up ps_count_up (defScope st_count_up) := ⟨rfl, rfl, rfl, by decide +kernel, rfl, by decide +kernel, by decide +kernel⟩
abbrev st_never_rises : Stmt := topS 31
abbrev ps_never_rises : List Str := ["numbers", "sums"]
abbrev ns_never_rises : List Str := ["numbers", "sums", "parts", "at", "count"]
theorem sc_never_rises : FnScope ns_never_rises ps_never_rises (defScope st_never_rises) := ⟨rfl, rfl, rfl, by decide +kernel, rfl, by decide +kernel, by decide +kernel⟩
abbrev st_falling_weights : Stmt := topS 32
abbrev ps_falling_weights : List Str := ["card", "period", "high"]
abbrev ns_falling_weights : List Str := ["card", "period", "high", "kinds", "count", "_", "sums", "found", "numbers", "change", "at", "number"]
theorem sc_falling_weights : FnScope ns_falling_weights ps_falling_weights (defScope st_falling_weights) := ⟨rfl, rfl, rfl, by decide +kernel, rfl, by decide +kernel, by decide +kernel⟩
abbrev st_is_jump : Stmt := topS 36
abbrev ps_is_jump : List Str := ["before", "after", "ways"]
abbrev ns_is_jump : List Str := ["before", "after", "ways", "sign"]
theorem sc_is_jump : FnScope ns_is_jump ps_is_jump (defScope st_is_jump) := ⟨rfl, rfl, rfl, by decide +kernel, rfl, by decide +kernel, by decide +kernel⟩
abbrev st_Jump_init : Stmt := inClass (topS 37) 0
abbrev ps_Jump_init : List Str := ["self", "before", "after", "ways"]
abbrev ns_Jump_init : List Str := ["self", "before", "after", "ways"]
theorem sc_Jump_init : FnScope ns_Jump_init ps_Jump_init (defScope st_Jump_init) := ⟨rfl, rfl, rfl, by decide +kernel, rfl, by decide +kernel, by decide +kernel⟩
abbrev st_Jump_windows : Stmt := inClass (topS 37) 1
abbrev ps_Jump_windows : List Str := ["self"]
abbrev ns_Jump_windows : List Str := ["self", "pairs"]
theorem sc_Jump_windows : FnScope ns_Jump_windows ps_Jump_windows (defScope st_Jump_windows) := ⟨rfl, rfl, rfl, by decide +kernel, rfl, by decide +kernel, by decide +kernel⟩
abbrev st_Jump_eq : Stmt := inClass (topS 37) 3
abbrev ps_Jump_eq : List Str := ["self", "other"]
abbrev ns_Jump_eq : List Str := ["self", "other"]
theorem sc_Jump_eq : FnScope ns_Jump_eq ps_Jump_eq (defScope st_Jump_eq) := ⟨rfl, rfl, rfl, by decide +kernel, rfl, by decide +kernel, by decide +kernel⟩
abbrev st_Jump_str : Stmt := inClass (topS 37) 4
abbrev ps_Jump_str : List Str := ["self"]
abbrev ns_Jump_str : List Str := ["self"]
theorem sc_Jump_str : FnScope ns_Jump_str ps_Jump_str (defScope st_Jump_str) := ⟨rfl, rfl, rfl, by decide +kernel, rfl, by decide +kernel, by decide +kernel⟩
abbrev st_worth_in : Stmt := topS 41
abbrev ps_worth_in : List Str := ["worths", "row"]
abbrev ns_worth_in : List Str := ["worths", "row", "table", "kind", "worth", "sign"]
theorem sc_worth_in : FnScope ns_worth_in ps_worth_in (defScope st_worth_in) := ⟨rfl, rfl, rfl, by decide +kernel, rfl, by decide +kernel, by decide +kernel⟩
abbrev st_are_worths : Stmt := topS 42
abbrev ps_are_worths : List Str := ["worths"]
abbrev ns_are_worths : List Str := ["worths", "worth"]
theorem sc_are_worths : FnScope ns_are_worths ps_are_worths (defScope st_are_worths) := ⟨rfl, rfl, rfl, by decide +kernel, rfl, by decide +kernel, by decide +kernel⟩
abbrev st_fits_worths : Stmt := topS 43
abbrev ps_fits_worths : List Str := ["jump", "worths"]
abbrev ns_fits_worths : List Str := ["jump", "worths", "signs", "sign"]
theorem sc_fits_worths : FnScope ns_fits_worths ps_fits_worths (defScope st_fits_worths) := ⟨rfl, rfl, rfl, by decide +kernel, rfl, by decide +kernel, by decide +kernel⟩
abbrev st_pairs_of : Stmt := topS 44
abbrev ps_pairs_of : List Str := ["jumps"]
abbrev ns_pairs_of : List Str := ["jumps", "found", "jump", "pair"]
theorem sc_pairs_of : FnScope ns_pairs_of ps_pairs_of (defScope st_pairs_of) := ⟨rfl, rfl, rfl, by decide +kernel, rfl, by decide +kernel, by decide +kernel⟩
abbrev st_Card_init : Stmt := inClass (topS 47) 1
abbrev ps_Card_init : List Str := ["self", "worths", "jumps"]
abbrev ns_Card_init : List Str := ["self", "worths", "jumps", "texts", "jump"]
theorem sc_Card_init : FnScope ns_Card_init ps_Card_init (defScope st_Card_init) := ⟨rfl, rfl, rfl, by decide +kernel, rfl, by decide +kernel, by decide +kernel⟩
abbrev st_Card_eq : Stmt := inClass (topS 47) 10
abbrev ps_Card_eq : List Str := ["self", "other"]
abbrev ns_Card_eq : List Str := ["self", "other"]
theorem sc_Card_eq : FnScope ns_Card_eq ps_Card_eq (defScope st_Card_eq) := ⟨rfl, rfl, rfl, by decide +kernel, rfl, by decide +kernel, by decide +kernel⟩
abbrev st_law_cell : Stmt := topS 49
abbrev ps_law_cell : List Str := ["script", "k"]
abbrev ns_law_cell : List Str := ["script", "k"]
theorem sc_law_cell : FnScope ns_law_cell ps_law_cell (defScope st_law_cell) := ⟨rfl, rfl, rfl, by decide +kernel, rfl, by decide +kernel, by decide +kernel⟩
abbrev st_law_box : Stmt := topS 50
abbrev ps_law_box : List Str := ["script", "k"]
abbrev ns_law_box : List Str := ["script", "k", "cell", "great"]
theorem sc_law_box : FnScope ns_law_box ps_law_box (defScope st_law_box) := ⟨rfl, rfl, rfl, by decide +kernel, rfl, by decide +kernel, by decide +kernel⟩
abbrev st_law_take : Stmt := topS 51
abbrev ps_law_take : List Str := ["box", "size"]
abbrev ns_law_take : List Str := ["box", "size", "mixed", "twice", "digit"]
theorem sc_law_take : FnScope ns_law_take ps_law_take (defScope st_law_take) := ⟨rfl, rfl, rfl, by decide +kernel, rfl, by decide +kernel, by decide +kernel⟩
abbrev st_law_is_integer : Stmt := topS 52
abbrev ps_law_is_integer : List Str := ["actual"]
abbrev ns_law_is_integer : List Str := ["actual"]
theorem sc_law_is_integer : FnScope ns_law_is_integer ps_law_is_integer (defScope st_law_is_integer) := ⟨rfl, rfl, rfl, by decide +kernel, rfl, by decide +kernel, by decide +kernel⟩
abbrev st_law_kind : Stmt := topS 53
abbrev ps_law_kind : List Str := ["sign"]
abbrev ns_law_kind : List Str := ["sign"]
theorem sc_law_kind : FnScope ns_law_kind ps_law_kind (defScope st_law_kind) := ⟨rfl, rfl, rfl, by decide +kernel, rfl, by decide +kernel, by decide +kernel⟩
abbrev st_law_worth : Stmt := topS 54
abbrev ps_law_worth : List Str := ["worths", "line"]
abbrev ns_law_worth : List Str := ["worths", "line", "sign"]
theorem sc_law_worth : FnScope ns_law_worth ps_law_worth (defScope st_law_worth) := ⟨rfl, rfl, rfl, by decide +kernel, rfl, by decide +kernel, by decide +kernel⟩
abbrev st_law_jump : Stmt := topS 55
abbrev ps_law_jump : List Str := ["box", "worths"]
abbrev ns_law_jump : List Str := ["box", "worths", "size", "before", "after", "k"]
theorem sc_law_jump : FnScope ns_law_jump ps_law_jump (defScope st_law_jump) := ⟨rfl, rfl, rfl, by decide +kernel, rfl, by decide +kernel, by decide +kernel⟩
abbrev st_law_sides : Stmt := topS 56
abbrev ps_law_sides : List Str := ["jump"]
abbrev ns_law_sides : List Str := ["jump", "sides"]
theorem sc_law_sides : FnScope ns_law_sides ps_law_sides (defScope st_law_sides) := ⟨rfl, rfl, rfl, by decide +kernel, rfl, by decide +kernel, by decide +kernel⟩
abbrev st_law_card : Stmt := topS 57
abbrev ps_law_card : List Str := ["worths", "jumps"]
abbrev ns_law_card : List Str := ["worths", "jumps", "jump"]
theorem sc_law_card : FnScope ns_law_card ps_law_card (defScope st_law_card) := ⟨rfl, rfl, rfl, by decide +kernel, rfl, by decide +kernel, by decide +kernel⟩
abbrev st_law_conditions : Stmt := topS 58
abbrev ps_law_conditions : List Str := ["sides", "span", "many"]
abbrev ns_law_conditions : List Str := ["sides", "span", "many", "rows", "side", "start", "row", "i", "place", "kind"]
theorem sc_law_conditions : FnScope ns_law_conditions ps_law_conditions (defScope st_law_conditions) := ⟨rfl, rfl, rfl, by decide +kernel, rfl, by decide +kernel, by decide +kernel⟩
abbrev st_law_is_weights : Stmt := topS 59
abbrev ps_law_is_weights : List Str := ["actual", "span", "many", "flat"]
abbrev ns_law_is_weights : List Str := ["actual", "span", "many", "flat", "k", "entries", "i"]
theorem sc_law_is_weights : FnScope ns_law_is_weights ps_law_is_weights (defScope st_law_is_weights) := ⟨rfl, rfl, rfl, by decide +kernel, rfl, by decide +kernel, by decide +kernel⟩
abbrev st_law_total : Stmt := topS 60
abbrev ps_law_total : List Str := ["high", "size"]
abbrev ns_law_total : List Str := ["high", "size", "total", "i"]
theorem sc_law_total : FnScope ns_law_total ps_law_total (defScope st_law_total) := ⟨rfl, rfl, rfl, by decide +kernel, rfl, by decide +kernel, by decide +kernel⟩
abbrev st_law_greatest : Stmt := topS 61
abbrev ps_law_greatest : List Str := ["limit", "size"]
abbrev ns_law_greatest : List Str := ["limit", "size", "low", "top", "k", "middle"]
theorem sc_law_greatest : FnScope ns_law_greatest ps_law_greatest (defScope st_law_greatest) := ⟨rfl, rfl, rfl, by decide +kernel, rfl, by decide +kernel, by decide +kernel⟩
abbrev st_law_falls : Stmt := topS 62
abbrev ps_law_falls : List Str := ["rows", "flat"]
abbrev ns_law_falls : List Str := ["rows", "flat", "row", "i"]
theorem sc_law_falls : FnScope ns_law_falls ps_law_falls (defScope st_law_falls) := ⟨rfl, rfl, rfl, by decide +kernel, rfl, by decide +kernel, by decide +kernel⟩
abbrev st_law_due : Stmt := topS 63
abbrev ps_law_due : List Str := ["rows", "high", "size"]
abbrev ns_law_due : List Str := ["rows", "high", "size", "due", "number", "flat", "i"]
theorem sc_law_due : FnScope ns_law_due ps_law_due (defScope st_law_due) := ⟨rfl, rfl, rfl, by decide +kernel, rfl, by decide +kernel, by decide +kernel⟩
abbrev st_law_is_due : Stmt := topS 64
abbrev ps_law_is_due : List Str := ["found", "due", "span", "many", "card"]
abbrev ns_law_is_due : List Str := ["found", "due", "span", "many", "card", "k"]
theorem sc_law_is_due : FnScope ns_law_is_due ps_law_is_due (defScope st_law_is_due) := ⟨rfl, rfl, rfl, by decide +kernel, rfl, by decide +kernel, by decide +kernel⟩
abbrev st_law_asked : Stmt := topS 65
abbrev ps_law_asked : List Str := ["box", "card", "rows", "span", "high", "due"]
abbrev ns_law_asked : List Str := ["box", "card", "rows", "span", "high", "due", "size", "flat", "grid", "actual", "i", "start"]
theorem sc_law_asked : FnScope ns_law_asked ps_law_asked (defScope st_law_asked) := ⟨rfl, rfl, rfl, by decide +kernel, rfl, by decide +kernel, by decide +kernel⟩
abbrev st_law_too_many : Stmt := topS 66
abbrev ps_law_too_many : List Str := ["card", "span", "high"]
abbrev ns_law_too_many : List Str := ["card", "span", "high", "raised"]
theorem sc_law_too_many : FnScope ns_law_too_many ps_law_too_many (defScope st_law_too_many) := ⟨rfl, rfl, rfl, by decide +kernel, rfl, by decide +kernel, by decide +kernel⟩
abbrev st_law_refuses : Stmt := topS 67
abbrev ps_law_refuses : List Str := ["card", "far", "high"]
abbrev ns_law_refuses : List Str := ["card", "far", "high", "raised"]
theorem sc_law_refuses : FnScope ns_law_refuses ps_law_refuses (defScope st_law_refuses) := ⟨rfl, rfl, rfl, by decide +kernel, rfl, by decide +kernel, by decide +kernel⟩
abbrev st_law : Stmt := topS 68
abbrev ps_law : List Str := ["script"]
abbrev ns_law : List Str := ["script", "box", "great", "many", "span", "limit", "size", "high", "pen", "worths", "jumps", "count", "k", "card", "sides", "jump", "rows", "due", "far", "beyond"]
theorem sc_law : FnScope ns_law ps_law (defScope st_law) := ⟨rfl, rfl, rfl, by decide +kernel, rfl, by decide +kernel, by decide +kernel⟩
def d_InvalidRow_init : He5.DefA := ⟨fun K => He.ma K (He.ga K "InvalidRow") "__init__", "__init__", "InvalidRow.__init__", defArgs st_InvalidRow_init, defBody st_InvalidRow_init, defScope st_InvalidRow_init, [], []⟩
def d_InvalidJump_init : He5.DefA := ⟨fun K => He.ma K (He.ga K "InvalidJump") "__init__", "__init__", "InvalidJump.__init__", defArgs st_InvalidJump_init, defBody st_InvalidJump_init, defScope st_InvalidJump_init, [], []⟩
def d_InvalidCard_init : He5.DefA := ⟨fun K => He.ma K (He.ga K "InvalidCard") "__init__", "__init__", "InvalidCard.__init__", defArgs st_InvalidCard_init, defBody st_InvalidCard_init, defScope st_InvalidCard_init, [], []⟩
def d_TooMany_init : He5.DefA := ⟨fun K => He.ma K (He.ga K "TooMany") "__init__", "__init__", "TooMany.__init__", defArgs st_TooMany_init, defBody st_TooMany_init, defScope st_TooMany_init, [], []⟩
def d_InvalidWeight_init : He5.DefA := ⟨fun K => He.ma K (He.ga K "InvalidWeight") "__init__", "__init__", "InvalidWeight.__init__", defArgs st_InvalidWeight_init, defBody st_InvalidWeight_init, defScope st_InvalidWeight_init, [], []⟩
def d_signs_of : He5.DefA := ⟨fun K => He.ga K "signs_of", "signs_of", "signs_of", defArgs st_signs_of, defBody st_signs_of, defScope st_signs_of, [], [("walls", .bl false), ("marks", .bl false)]⟩
def d_check_row : He5.DefA := ⟨fun K => He.ga K "check_row", "check_row", "check_row", defArgs st_check_row, defBody st_check_row, defScope st_check_row, [.str "#.:ABCDabcd"], []⟩
def d_unmarked : He5.DefA := ⟨fun K => He.ga K "unmarked", "unmarked", "unmarked", defArgs st_unmarked, defBody st_unmarked, defScope st_unmarked, [], []⟩
def d_all_marked : He5.DefA := ⟨fun K => He.ga K "all_marked", "all_marked", "all_marked", defArgs st_all_marked, defBody st_all_marked, defScope st_all_marked, [], []⟩
def d_mirror : He5.DefA := ⟨fun K => He.ga K "mirror", "mirror", "mirror", defArgs st_mirror, defBody st_mirror, defScope st_mirror, [], []⟩
def d_check_period : He5.DefA := ⟨fun K => He.ga K "check_period", "check_period", "check_period", defArgs st_check_period, defBody st_check_period, defScope st_check_period, [], []⟩
def d_is_table : He5.DefA := ⟨fun K => He.ga K "is_table", "is_table", "is_table", defArgs st_is_table, defBody st_is_table, defScope st_is_table, [], []⟩
def d_remainder : He5.DefA := ⟨fun K => He.ga K "remainder", "remainder", "remainder", defArgs st_remainder, defBody st_remainder, defScope st_remainder, [], []⟩
def d_changes_of : He5.DefA := ⟨fun K => He.ga K "changes_of", "changes_of", "changes_of", defArgs st_changes_of, defBody st_changes_of, defScope st_changes_of, [], []⟩
def d_rises : He5.DefA := ⟨fun K => He.ga K "rises", "rises", "rises", defArgs st_rises, defBody st_rises, defScope st_rises, [], []⟩
def d_Weights_init : He5.DefA := ⟨fun K => He.ma K (He.ga K "Weights") "__init__", "__init__", "Weights.__init__", defArgs st_Weights_init, defBody st_Weights_init, defScope st_Weights_init, [], []⟩
def d_Weights_falls : He5.DefA := ⟨fun K => He.ma K (He.ga K "Weights") "falls", "falls", "Weights.falls", defArgs st_Weights_falls, defBody st_Weights_falls, defScope st_Weights_falls, [], []⟩
def d_as_table : He5.DefA := ⟨fun K => He.ga K "as_table", "as_table", "as_table", defArgs st_as_table, defBody st_as_table, defScope st_as_table, [], []⟩
def d_count_up : He5.DefA := ⟨fun K => He.ga K "count_up", "count_up", "count_up", defArgs st_count_up, defBody st_count_up, defScope st_count_up, [], []⟩
def d_never_rises : He5.DefA := ⟨fun K => He.ga K "never_rises", "never_rises", "never_rises", defArgs st_never_rises, defBody st_never_rises, defScope st_never_rises, [], []⟩
def d_falling_weights : He5.DefA := ⟨fun K => He.ga K "falling_weights", "falling_weights", "falling_weights", defArgs st_falling_weights, defBody st_falling_weights, defScope st_falling_weights, [], []⟩
def d_is_jump : He5.DefA := ⟨fun K => He.ga K "is_jump", "is_jump", "is_jump", defArgs st_is_jump, defBody st_is_jump, defScope st_is_jump, [], []⟩
def d_Jump_init : He5.DefA := ⟨fun K => He.ma K (He.ga K "Jump") "__init__", "__init__", "Jump.__init__", defArgs st_Jump_init, defBody st_Jump_init, defScope st_Jump_init, [.str "right"], []⟩
def d_Jump_windows : He5.DefA := ⟨fun K => He.ma K (He.ga K "Jump") "windows", "windows", "Jump.windows", defArgs st_Jump_windows, defBody st_Jump_windows, defScope st_Jump_windows, [], []⟩
def d_Jump_eq : He5.DefA := ⟨fun K => He.ma K (He.ga K "Jump") "__eq__", "__eq__", "Jump.__eq__", defArgs st_Jump_eq, defBody st_Jump_eq, defScope st_Jump_eq, [], []⟩
def d_Jump_str : He5.DefA := ⟨fun K => He.ma K (He.ga K "Jump") "__str__", "__str__", "Jump.__str__", defArgs st_Jump_str, defBody st_Jump_str, defScope st_Jump_str, [], []⟩
def d_worth_in : He5.DefA := ⟨fun K => He.ga K "worth_in", "worth_in", "worth_in", defArgs st_worth_in, defBody st_worth_in, defScope st_worth_in, [], []⟩
def d_are_worths : He5.DefA := ⟨fun K => He.ga K "are_worths", "are_worths", "are_worths", defArgs st_are_worths, defBody st_are_worths, defScope st_are_worths, [], []⟩
def d_fits_worths : He5.DefA := ⟨fun K => He.ga K "fits_worths", "fits_worths", "fits_worths", defArgs st_fits_worths, defBody st_fits_worths, defScope st_fits_worths, [], []⟩
def d_pairs_of : He5.DefA := ⟨fun K => He.ga K "pairs_of", "pairs_of", "pairs_of", defArgs st_pairs_of, defBody st_pairs_of, defScope st_pairs_of, [], []⟩
def d_Card_init : He5.DefA := ⟨fun K => He.ma K (He.ga K "Card") "__init__", "__init__", "Card.__init__", defArgs st_Card_init, defBody st_Card_init, defScope st_Card_init, [], []⟩
def d_Card_eq : He5.DefA := ⟨fun K => He.ma K (He.ga K "Card") "__eq__", "__eq__", "Card.__eq__", defArgs st_Card_eq, defBody st_Card_eq, defScope st_Card_eq, [], []⟩
def d_law_cell : He5.DefA := ⟨fun K => He.ga K "_law_cell", "_law_cell", "_law_cell", defArgs st_law_cell, defBody st_law_cell, defScope st_law_cell, [], []⟩
def d_law_box : He5.DefA := ⟨fun K => He.ga K "_law_box", "_law_box", "_law_box", defArgs st_law_box, defBody st_law_box, defScope st_law_box, [], []⟩
def d_law_take : He5.DefA := ⟨fun K => He.ga K "_law_take", "_law_take", "_law_take", defArgs st_law_take, defBody st_law_take, defScope st_law_take, [], []⟩
def d_law_is_integer : He5.DefA := ⟨fun K => He.ga K "_law_is_integer", "_law_is_integer", "_law_is_integer", defArgs st_law_is_integer, defBody st_law_is_integer, defScope st_law_is_integer, [], []⟩
def d_law_kind : He5.DefA := ⟨fun K => He.ga K "_law_kind", "_law_kind", "_law_kind", defArgs st_law_kind, defBody st_law_kind, defScope st_law_kind, [], []⟩
def d_law_worth : He5.DefA := ⟨fun K => He.ga K "_law_worth", "_law_worth", "_law_worth", defArgs st_law_worth, defBody st_law_worth, defScope st_law_worth, [], []⟩
def d_law_jump : He5.DefA := ⟨fun K => He.ga K "_law_jump", "_law_jump", "_law_jump", defArgs st_law_jump, defBody st_law_jump, defScope st_law_jump, [], []⟩
def d_law_sides : He5.DefA := ⟨fun K => He.ga K "_law_sides", "_law_sides", "_law_sides", defArgs st_law_sides, defBody st_law_sides, defScope st_law_sides, [], []⟩
def d_law_card : He5.DefA := ⟨fun K => He.ga K "_law_card", "_law_card", "_law_card", defArgs st_law_card, defBody st_law_card, defScope st_law_card, [], []⟩
def d_law_conditions : He5.DefA := ⟨fun K => He.ga K "_law_conditions", "_law_conditions", "_law_conditions", defArgs st_law_conditions, defBody st_law_conditions, defScope st_law_conditions, [], []⟩
def d_law_is_weights : He5.DefA := ⟨fun K => He.ga K "_law_is_weights", "_law_is_weights", "_law_is_weights", defArgs st_law_is_weights, defBody st_law_is_weights, defScope st_law_is_weights, [], []⟩
def d_law_total : He5.DefA := ⟨fun K => He.ga K "_law_total", "_law_total", "_law_total", defArgs st_law_total, defBody st_law_total, defScope st_law_total, [], []⟩
def d_law_greatest : He5.DefA := ⟨fun K => He.ga K "_law_greatest", "_law_greatest", "_law_greatest", defArgs st_law_greatest, defBody st_law_greatest, defScope st_law_greatest, [], []⟩
def d_law_falls : He5.DefA := ⟨fun K => He.ga K "_law_falls", "_law_falls", "_law_falls", defArgs st_law_falls, defBody st_law_falls, defScope st_law_falls, [], []⟩
def d_law_due : He5.DefA := ⟨fun K => He.ga K "_law_due", "_law_due", "_law_due", defArgs st_law_due, defBody st_law_due, defScope st_law_due, [], []⟩
def d_law_is_due : He5.DefA := ⟨fun K => He.ga K "_law_is_due", "_law_is_due", "_law_is_due", defArgs st_law_is_due, defBody st_law_is_due, defScope st_law_is_due, [], []⟩
def d_law_asked : He5.DefA := ⟨fun K => He.ga K "_law_asked", "_law_asked", "_law_asked", defArgs st_law_asked, defBody st_law_asked, defScope st_law_asked, [], []⟩
def d_law_too_many : He5.DefA := ⟨fun K => He.ga K "_law_too_many", "_law_too_many", "_law_too_many", defArgs st_law_too_many, defBody st_law_too_many, defScope st_law_too_many, [], []⟩
def d_law_refuses : He5.DefA := ⟨fun K => He.ga K "_law_refuses", "_law_refuses", "_law_refuses", defArgs st_law_refuses, defBody st_law_refuses, defScope st_law_refuses, [], []⟩
def d_law : He5.DefA := ⟨fun K => He.ga K "law", "law", "law", defArgs st_law, defBody st_law, defScope st_law, [], []⟩
def fn : List He5.DefA := [d_InvalidRow_init, d_InvalidJump_init, d_InvalidCard_init, d_TooMany_init, d_InvalidWeight_init, d_signs_of, d_check_row, d_unmarked, d_all_marked, d_mirror, d_check_period, d_is_table, d_remainder, d_changes_of, d_rises, d_Weights_init, d_Weights_falls, d_as_table, d_count_up, d_never_rises, d_falling_weights, d_is_jump, d_Jump_init, d_Jump_windows, d_Jump_eq, d_Jump_str, d_worth_in, d_are_worths, d_fits_worths, d_pairs_of, d_Card_init, d_Card_eq, d_law_cell, d_law_box, d_law_take, d_law_is_integer, d_law_kind, d_law_worth, d_law_jump, d_law_sides, d_law_card, d_law_conditions, d_law_is_weights, d_law_total, d_law_greatest, d_law_falls, d_law_due, d_law_is_due, d_law_asked, d_law_too_many, d_law_refuses, d_law]
def fa : List He.Fa := [.glo "_wall", .glo "LeapError", .glo "InvalidRow", .glo "InvalidJump", .glo "InvalidCard", .glo "TooMany", .glo "InvalidWeight", .str "SIGNS" "#.:ABCDabcd", .str "KINDS" "abcd", .glo "signs_of", .glo "check_row", .glo "unmarked", .glo "all_marked", .glo "mirror", .int "MOST_PERIOD" 12, .int "MOST_MODULUS" 97, .glo "check_period", .glo "is_table", .glo "remainder", .glo "changes_of", .glo "rises", .glo "summed", .glo "multiple", .glo "Weights", .int "MOST_TABLES" 20000, .glo "as_table", .glo "count_up", .glo "never_rises", .glo "falling_weights", .glo "WAY_SIGNS", .glo "SIGN_WAYS", .glo "is_jump", .glo "Jump", .int "MOST_WORTH" 1000, .str "DIGITS" "0123456789", .glo "worth_in", .glo "are_worths", .glo "fits_worths", .glo "pairs_of", .glo "read_worths", .glo "read_jumps", .glo "Card", .glo "_law_cell", .glo "_law_box", .glo "_law_take", .glo "_law_is_integer", .glo "_law_kind", .glo "_law_worth", .glo "_law_jump", .glo "_law_sides", .glo "_law_card", .glo "_law_conditions", .glo "_law_is_weights", .glo "_law_total", .glo "_law_greatest", .glo "_law_falls", .glo "_law_due", .glo "_law_is_due", .glo "_law_asked", .glo "_law_too_many", .glo "_law_refuses", .glo "law", .cls "Weights", .mkr "Weights", .noat "Weights" "period", .noat "Weights" "modulus", .noat "Weights" "table", .meth "Weights" "value", .meth "Weights" "is_kept", .meth "Weights" "falls", .meth "Weights" "__add__", .meth "Weights" "__sub__", .meth "Weights" "__neg__", .meth "Weights" "__mul__", .meth "Weights" "__eq__", .cls "Jump", .mkr "Jump", .noat "Jump" "before", .noat "Jump" "after", .noat "Jump" "ways", .meth "Jump" "windows", .meth "Jump" "mirrored", .meth "Jump" "__eq__", .meth "Jump" "__str__", .cls "Card", .mkr "Card", .noat "Card" "worths", .noat "Card" "jumps", .noat "Card" "pairs", .meth "Card" "sign_string", .meth "Card" "worth", .meth "Card" "mirrored", .meth "Card" "is_even", .meth "Card" "__add__", .meth "Card" "__sub__", .meth "Card" "__contains__", .meth "Card" "__len__", .meth "Card" "__eq__", .meth "Card" "__str__", .free "len", .free "range", .free "enumerate", .free "zip", .free "min", .free "max", .free "sum", .free "sorted", .free "int", .free "str", .free "bool", .free "list", .free "tuple", .free "set", .free "isinstance", .free "any", .free "all", .free "ValueError"]
def ts : List He.Tab := [(fun K => He.ga K "WAY_SIGNS", ["right", "left", "both"]), (fun K => He.ga K "SIGN_WAYS", [">", "<", "="])]
def exs (K : PySem.W.Frag) : List Bool := [topB K, errB K "InvalidRow" "row", errB K "InvalidJump" "text", errB K "InvalidCard" "part", errB K "TooMany" "limit", errB K "InvalidWeight" "part", kitB K "InvalidRow" "InvalidRow" true, kitB K "InvalidRow" "InvalidJump" false, kitB K "InvalidRow" "InvalidCard" false, kitB K "InvalidRow" "TooMany" false, kitB K "InvalidRow" "InvalidWeight" false, kitB K "InvalidRow" "Weights" false, kitB K "InvalidRow" "Jump" false, kitB K "InvalidRow" "Card" false, kitB K "InvalidJump" "InvalidRow" false, kitB K "InvalidJump" "InvalidJump" true, kitB K "InvalidJump" "InvalidCard" false, kitB K "InvalidJump" "TooMany" false, kitB K "InvalidJump" "InvalidWeight" false, kitB K "InvalidJump" "Weights" false, kitB K "InvalidJump" "Jump" false, kitB K "InvalidJump" "Card" false, kitB K "InvalidCard" "InvalidRow" false, kitB K "InvalidCard" "InvalidJump" false, kitB K "InvalidCard" "InvalidCard" true, kitB K "InvalidCard" "TooMany" false, kitB K "InvalidCard" "InvalidWeight" false, kitB K "InvalidCard" "Weights" false, kitB K "InvalidCard" "Jump" false, kitB K "InvalidCard" "Card" false, kitB K "TooMany" "InvalidRow" false, kitB K "TooMany" "InvalidJump" false, kitB K "TooMany" "InvalidCard" false, kitB K "TooMany" "TooMany" true, kitB K "TooMany" "InvalidWeight" false, kitB K "TooMany" "Weights" false, kitB K "TooMany" "Jump" false, kitB K "TooMany" "Card" false, kitB K "InvalidWeight" "InvalidRow" false, kitB K "InvalidWeight" "InvalidJump" false, kitB K "InvalidWeight" "InvalidCard" false, kitB K "InvalidWeight" "TooMany" false, kitB K "InvalidWeight" "InvalidWeight" true, kitB K "InvalidWeight" "Weights" false, kitB K "InvalidWeight" "Jump" false, kitB K "InvalidWeight" "Card" false, kitB K "Weights" "Weights" true, kitB K "Jump" "Jump" true, kitB K "Card" "Card" true, He.valsB K (He.ga K "WAY_SIGNS") [("right", .str ">"), ("left", .str "<"), ("both", .str "=")], He.valsB K (He.ga K "SIGN_WAYS") [(">", .str "right"), ("<", .str "left"), ("=", .str "both")], clsB K "Weights", clsB K "Jump", clsB K "Card", excB K (He.ga K "InvalidRow"), excB K (He.ga K "InvalidJump"), excB K (He.ga K "InvalidCard"), excB K (He.ga K "InvalidWeight"), excB K (He.ga K "TooMany"), cvI K (He.ga K "Card") "MOST_JUMPS" 12, decide (PySem.W.exmOne K (.ref (He.ga K "TooMany")) (.ref (He.ga K "TooMany")) = some true), decide (PySem.W.exmOne K (.ref (He.ga K "InvalidWeight")) (.ref (He.ga K "InvalidWeight")) = some true)]
def ex (K : PySem.W.Frag) : Bool := (exs K).all id
def names0 : List PySem.Str := ["_wall", "LeapError", "InvalidRow", "InvalidJump", "InvalidCard", "TooMany", "InvalidWeight", "SIGNS", "KINDS", "signs_of", "check_row", "unmarked", "all_marked", "mirror"]
def names1 : List PySem.Str := ["MOST_PERIOD", "MOST_MODULUS", "check_period", "is_table", "remainder", "changes_of", "rises", "summed", "multiple", "Weights", "MOST_TABLES", "as_table", "count_up", "never_rises"]
def names2 : List PySem.Str := ["falling_weights", "WAY_SIGNS", "SIGN_WAYS", "is_jump", "Jump", "MOST_WORTH", "DIGITS", "worth_in", "are_worths", "fits_worths", "pairs_of", "read_worths", "read_jumps", "Card"]
def names3 : List PySem.Str := ["_law_cell", "_law_box", "_law_take", "_law_is_integer", "_law_kind", "_law_worth", "_law_jump", "_law_sides", "_law_card", "_law_conditions", "_law_is_weights", "_law_total", "_law_greatest", "_law_falls"]
def names4 : List PySem.Str := ["_law_due", "_law_is_due", "_law_asked", "_law_too_many", "_law_refuses"]
def names : List PySem.Str := names0 ++ names1 ++ names2 ++ names3 ++ names4

end K57
namespace K57
open PySem PySem.Spec PyProof.Rows L2 Lc
structure Tx (K : PySem.W.Frag) (mg : Str → Option Value) (w : World) : Prop where
  mk ::
  h : ∃ hp : Heap, K.In hp ∧ hp.Ns mainGlobals mg
  c : SaysM fa fn ts ex w K
section
variable {K : PySem.W.Frag} {mg : Str → Option Value} {w : World}
theorem m_wall (T : Tx K mg w) : mg "_wall" = some (.ref (He.ga K "_wall")) := by obtain ⟨⟨hp, X, G⟩, c⟩ := T; exact He.glo_ok X G (c.a.fact 0 (f := .glo "_wall") rfl)
theorem m_LeapError (T : Tx K mg w) : mg "LeapError" = some (.ref (He.ga K "LeapError")) := by obtain ⟨⟨hp, X, G⟩, c⟩ := T; exact He.glo_ok X G (c.a.fact 1 (f := .glo "LeapError") rfl)
theorem m_InvalidRow (T : Tx K mg w) : mg "InvalidRow" = some (.ref (He.ga K "InvalidRow")) := by obtain ⟨⟨hp, X, G⟩, c⟩ := T; exact He.glo_ok X G (c.a.fact 2 (f := .glo "InvalidRow") rfl)
theorem m_InvalidJump (T : Tx K mg w) : mg "InvalidJump" = some (.ref (He.ga K "InvalidJump")) := by obtain ⟨⟨hp, X, G⟩, c⟩ := T; exact He.glo_ok X G (c.a.fact 3 (f := .glo "InvalidJump") rfl)
theorem m_InvalidCard (T : Tx K mg w) : mg "InvalidCard" = some (.ref (He.ga K "InvalidCard")) := by obtain ⟨⟨hp, X, G⟩, c⟩ := T; exact He.glo_ok X G (c.a.fact 4 (f := .glo "InvalidCard") rfl)
theorem m_TooMany (T : Tx K mg w) : mg "TooMany" = some (.ref (He.ga K "TooMany")) := by obtain ⟨⟨hp, X, G⟩, c⟩ := T; exact He.glo_ok X G (c.a.fact 5 (f := .glo "TooMany") rfl)
theorem m_InvalidWeight (T : Tx K mg w) : mg "InvalidWeight" = some (.ref (He.ga K "InvalidWeight")) := by obtain ⟨⟨hp, X, G⟩, c⟩ := T; exact He.glo_ok X G (c.a.fact 6 (f := .glo "InvalidWeight") rfl)
theorem m_SIGNS (T : Tx K mg w) : ∃ t, mg "SIGNS" = some (.str "#.:ABCDabcd" t) := by obtain ⟨⟨hp, X, G⟩, c⟩ := T; exact He.str_ok X G (c.a.fact 7 (f := .str "SIGNS" "#.:ABCDabcd") rfl)
theorem m_KINDS (T : Tx K mg w) : ∃ t, mg "KINDS" = some (.str "abcd" t) := by obtain ⟨⟨hp, X, G⟩, c⟩ := T; exact He.str_ok X G (c.a.fact 8 (f := .str "KINDS" "abcd") rfl)
theorem m_signs_of (T : Tx K mg w) : mg "signs_of" = some (.ref (He.ga K "signs_of")) := by obtain ⟨⟨hp, X, G⟩, c⟩ := T; exact He.glo_ok X G (c.a.fact 9 (f := .glo "signs_of") rfl)
theorem m_check_row (T : Tx K mg w) : mg "check_row" = some (.ref (He.ga K "check_row")) := by obtain ⟨⟨hp, X, G⟩, c⟩ := T; exact He.glo_ok X G (c.a.fact 10 (f := .glo "check_row") rfl)
theorem m_unmarked (T : Tx K mg w) : mg "unmarked" = some (.ref (He.ga K "unmarked")) := by obtain ⟨⟨hp, X, G⟩, c⟩ := T; exact He.glo_ok X G (c.a.fact 11 (f := .glo "unmarked") rfl)
theorem m_all_marked (T : Tx K mg w) : mg "all_marked" = some (.ref (He.ga K "all_marked")) := by obtain ⟨⟨hp, X, G⟩, c⟩ := T; exact He.glo_ok X G (c.a.fact 12 (f := .glo "all_marked") rfl)
theorem m_mirror (T : Tx K mg w) : mg "mirror" = some (.ref (He.ga K "mirror")) := by obtain ⟨⟨hp, X, G⟩, c⟩ := T; exact He.glo_ok X G (c.a.fact 13 (f := .glo "mirror") rfl)
theorem m_MOST_PERIOD (T : Tx K mg w) : ∃ t, mg "MOST_PERIOD" = some (.int 12 t) := by obtain ⟨⟨hp, X, G⟩, c⟩ := T; exact He.int_ok X G (c.a.fact 14 (f := .int "MOST_PERIOD" 12) rfl)
theorem m_MOST_MODULUS (T : Tx K mg w) : ∃ t, mg "MOST_MODULUS" = some (.int 97 t) := by obtain ⟨⟨hp, X, G⟩, c⟩ := T; exact He.int_ok X G (c.a.fact 15 (f := .int "MOST_MODULUS" 97) rfl)
theorem m_check_period (T : Tx K mg w) : mg "check_period" = some (.ref (He.ga K "check_period")) := by obtain ⟨⟨hp, X, G⟩, c⟩ := T; exact He.glo_ok X G (c.a.fact 16 (f := .glo "check_period") rfl)
theorem m_is_table (T : Tx K mg w) : mg "is_table" = some (.ref (He.ga K "is_table")) := by obtain ⟨⟨hp, X, G⟩, c⟩ := T; exact He.glo_ok X G (c.a.fact 17 (f := .glo "is_table") rfl)
theorem m_remainder (T : Tx K mg w) : mg "remainder" = some (.ref (He.ga K "remainder")) := by obtain ⟨⟨hp, X, G⟩, c⟩ := T; exact He.glo_ok X G (c.a.fact 18 (f := .glo "remainder") rfl)
theorem m_changes_of (T : Tx K mg w) : mg "changes_of" = some (.ref (He.ga K "changes_of")) := by obtain ⟨⟨hp, X, G⟩, c⟩ := T; exact He.glo_ok X G (c.a.fact 19 (f := .glo "changes_of") rfl)
theorem m_rises (T : Tx K mg w) : mg "rises" = some (.ref (He.ga K "rises")) := by obtain ⟨⟨hp, X, G⟩, c⟩ := T; exact He.glo_ok X G (c.a.fact 20 (f := .glo "rises") rfl)
theorem m_summed (T : Tx K mg w) : mg "summed" = some (.ref (He.ga K "summed")) := by obtain ⟨⟨hp, X, G⟩, c⟩ := T; exact He.glo_ok X G (c.a.fact 21 (f := .glo "summed") rfl)
theorem m_multiple (T : Tx K mg w) : mg "multiple" = some (.ref (He.ga K "multiple")) := by obtain ⟨⟨hp, X, G⟩, c⟩ := T; exact He.glo_ok X G (c.a.fact 22 (f := .glo "multiple") rfl)
theorem m_Weights (T : Tx K mg w) : mg "Weights" = some (.ref (He.ga K "Weights")) := by obtain ⟨⟨hp, X, G⟩, c⟩ := T; exact He.glo_ok X G (c.a.fact 23 (f := .glo "Weights") rfl)
theorem m_MOST_TABLES (T : Tx K mg w) : ∃ t, mg "MOST_TABLES" = some (.int 20000 t) := by obtain ⟨⟨hp, X, G⟩, c⟩ := T; exact He.int_ok X G (c.a.fact 24 (f := .int "MOST_TABLES" 20000) rfl)
theorem m_as_table (T : Tx K mg w) : mg "as_table" = some (.ref (He.ga K "as_table")) := by obtain ⟨⟨hp, X, G⟩, c⟩ := T; exact He.glo_ok X G (c.a.fact 25 (f := .glo "as_table") rfl)
theorem m_count_up (T : Tx K mg w) : mg "count_up" = some (.ref (He.ga K "count_up")) := by obtain ⟨⟨hp, X, G⟩, c⟩ := T; exact He.glo_ok X G (c.a.fact 26 (f := .glo "count_up") rfl)
theorem m_never_rises (T : Tx K mg w) : mg "never_rises" = some (.ref (He.ga K "never_rises")) := by obtain ⟨⟨hp, X, G⟩, c⟩ := T; exact He.glo_ok X G (c.a.fact 27 (f := .glo "never_rises") rfl)
theorem m_falling_weights (T : Tx K mg w) : mg "falling_weights" = some (.ref (He.ga K "falling_weights")) := by obtain ⟨⟨hp, X, G⟩, c⟩ := T; exact He.glo_ok X G (c.a.fact 28 (f := .glo "falling_weights") rfl)
theorem m_WAY_SIGNS (T : Tx K mg w) : mg "WAY_SIGNS" = some (.ref (He.ga K "WAY_SIGNS")) := by obtain ⟨⟨hp, X, G⟩, c⟩ := T; exact He.glo_ok X G (c.a.fact 29 (f := .glo "WAY_SIGNS") rfl)
theorem m_SIGN_WAYS (T : Tx K mg w) : mg "SIGN_WAYS" = some (.ref (He.ga K "SIGN_WAYS")) := by obtain ⟨⟨hp, X, G⟩, c⟩ := T; exact He.glo_ok X G (c.a.fact 30 (f := .glo "SIGN_WAYS") rfl)
theorem m_is_jump (T : Tx K mg w) : mg "is_jump" = some (.ref (He.ga K "is_jump")) := by obtain ⟨⟨hp, X, G⟩, c⟩ := T; exact He.glo_ok X G (c.a.fact 31 (f := .glo "is_jump") rfl)
theorem m_Jump (T : Tx K mg w) : mg "Jump" = some (.ref (He.ga K "Jump")) := by obtain ⟨⟨hp, X, G⟩, c⟩ := T; exact He.glo_ok X G (c.a.fact 32 (f := .glo "Jump") rfl)
theorem m_MOST_WORTH (T : Tx K mg w) : ∃ t, mg "MOST_WORTH" = some (.int 1000 t) := by obtain ⟨⟨hp, X, G⟩, c⟩ := T; exact He.int_ok X G (c.a.fact 33 (f := .int "MOST_WORTH" 1000) rfl)
theorem m_DIGITS (T : Tx K mg w) : ∃ t, mg "DIGITS" = some (.str "0123456789" t) := by obtain ⟨⟨hp, X, G⟩, c⟩ := T; exact He.str_ok X G (c.a.fact 34 (f := .str "DIGITS" "0123456789") rfl)
theorem m_worth_in (T : Tx K mg w) : mg "worth_in" = some (.ref (He.ga K "worth_in")) := by obtain ⟨⟨hp, X, G⟩, c⟩ := T; exact He.glo_ok X G (c.a.fact 35 (f := .glo "worth_in") rfl)
theorem m_are_worths (T : Tx K mg w) : mg "are_worths" = some (.ref (He.ga K "are_worths")) := by obtain ⟨⟨hp, X, G⟩, c⟩ := T; exact He.glo_ok X G (c.a.fact 36 (f := .glo "are_worths") rfl)
theorem m_fits_worths (T : Tx K mg w) : mg "fits_worths" = some (.ref (He.ga K "fits_worths")) := by obtain ⟨⟨hp, X, G⟩, c⟩ := T; exact He.glo_ok X G (c.a.fact 37 (f := .glo "fits_worths") rfl)
theorem m_pairs_of (T : Tx K mg w) : mg "pairs_of" = some (.ref (He.ga K "pairs_of")) := by obtain ⟨⟨hp, X, G⟩, c⟩ := T; exact He.glo_ok X G (c.a.fact 38 (f := .glo "pairs_of") rfl)
theorem m_read_worths (T : Tx K mg w) : mg "read_worths" = some (.ref (He.ga K "read_worths")) := by obtain ⟨⟨hp, X, G⟩, c⟩ := T; exact He.glo_ok X G (c.a.fact 39 (f := .glo "read_worths") rfl)
theorem m_read_jumps (T : Tx K mg w) : mg "read_jumps" = some (.ref (He.ga K "read_jumps")) := by obtain ⟨⟨hp, X, G⟩, c⟩ := T; exact He.glo_ok X G (c.a.fact 40 (f := .glo "read_jumps") rfl)
theorem m_Card (T : Tx K mg w) : mg "Card" = some (.ref (He.ga K "Card")) := by obtain ⟨⟨hp, X, G⟩, c⟩ := T; exact He.glo_ok X G (c.a.fact 41 (f := .glo "Card") rfl)
theorem m_law_cell (T : Tx K mg w) : mg "_law_cell" = some (.ref (He.ga K "_law_cell")) := by obtain ⟨⟨hp, X, G⟩, c⟩ := T; exact He.glo_ok X G (c.a.fact 42 (f := .glo "_law_cell") rfl)
theorem m_law_box (T : Tx K mg w) : mg "_law_box" = some (.ref (He.ga K "_law_box")) := by obtain ⟨⟨hp, X, G⟩, c⟩ := T; exact He.glo_ok X G (c.a.fact 43 (f := .glo "_law_box") rfl)
theorem m_law_take (T : Tx K mg w) : mg "_law_take" = some (.ref (He.ga K "_law_take")) := by obtain ⟨⟨hp, X, G⟩, c⟩ := T; exact He.glo_ok X G (c.a.fact 44 (f := .glo "_law_take") rfl)
theorem m_law_is_integer (T : Tx K mg w) : mg "_law_is_integer" = some (.ref (He.ga K "_law_is_integer")) := by obtain ⟨⟨hp, X, G⟩, c⟩ := T; exact He.glo_ok X G (c.a.fact 45 (f := .glo "_law_is_integer") rfl)
theorem m_law_kind (T : Tx K mg w) : mg "_law_kind" = some (.ref (He.ga K "_law_kind")) := by obtain ⟨⟨hp, X, G⟩, c⟩ := T; exact He.glo_ok X G (c.a.fact 46 (f := .glo "_law_kind") rfl)
theorem m_law_worth (T : Tx K mg w) : mg "_law_worth" = some (.ref (He.ga K "_law_worth")) := by obtain ⟨⟨hp, X, G⟩, c⟩ := T; exact He.glo_ok X G (c.a.fact 47 (f := .glo "_law_worth") rfl)
theorem m_law_jump (T : Tx K mg w) : mg "_law_jump" = some (.ref (He.ga K "_law_jump")) := by obtain ⟨⟨hp, X, G⟩, c⟩ := T; exact He.glo_ok X G (c.a.fact 48 (f := .glo "_law_jump") rfl)
theorem m_law_sides (T : Tx K mg w) : mg "_law_sides" = some (.ref (He.ga K "_law_sides")) := by obtain ⟨⟨hp, X, G⟩, c⟩ := T; exact He.glo_ok X G (c.a.fact 49 (f := .glo "_law_sides") rfl)
theorem m_law_card (T : Tx K mg w) : mg "_law_card" = some (.ref (He.ga K "_law_card")) := by obtain ⟨⟨hp, X, G⟩, c⟩ := T; exact He.glo_ok X G (c.a.fact 50 (f := .glo "_law_card") rfl)
theorem m_law_conditions (T : Tx K mg w) : mg "_law_conditions" = some (.ref (He.ga K "_law_conditions")) := by obtain ⟨⟨hp, X, G⟩, c⟩ := T; exact He.glo_ok X G (c.a.fact 51 (f := .glo "_law_conditions") rfl)
theorem m_law_is_weights (T : Tx K mg w) : mg "_law_is_weights" = some (.ref (He.ga K "_law_is_weights")) := by obtain ⟨⟨hp, X, G⟩, c⟩ := T; exact He.glo_ok X G (c.a.fact 52 (f := .glo "_law_is_weights") rfl)
theorem m_law_total (T : Tx K mg w) : mg "_law_total" = some (.ref (He.ga K "_law_total")) := by obtain ⟨⟨hp, X, G⟩, c⟩ := T; exact He.glo_ok X G (c.a.fact 53 (f := .glo "_law_total") rfl)
theorem m_law_greatest (T : Tx K mg w) : mg "_law_greatest" = some (.ref (He.ga K "_law_greatest")) := by obtain ⟨⟨hp, X, G⟩, c⟩ := T; exact He.glo_ok X G (c.a.fact 54 (f := .glo "_law_greatest") rfl)
theorem m_law_falls (T : Tx K mg w) : mg "_law_falls" = some (.ref (He.ga K "_law_falls")) := by obtain ⟨⟨hp, X, G⟩, c⟩ := T; exact He.glo_ok X G (c.a.fact 55 (f := .glo "_law_falls") rfl)
theorem m_law_due (T : Tx K mg w) : mg "_law_due" = some (.ref (He.ga K "_law_due")) := by obtain ⟨⟨hp, X, G⟩, c⟩ := T; exact He.glo_ok X G (c.a.fact 56 (f := .glo "_law_due") rfl)
theorem m_law_is_due (T : Tx K mg w) : mg "_law_is_due" = some (.ref (He.ga K "_law_is_due")) := by obtain ⟨⟨hp, X, G⟩, c⟩ := T; exact He.glo_ok X G (c.a.fact 57 (f := .glo "_law_is_due") rfl)
theorem m_law_asked (T : Tx K mg w) : mg "_law_asked" = some (.ref (He.ga K "_law_asked")) := by obtain ⟨⟨hp, X, G⟩, c⟩ := T; exact He.glo_ok X G (c.a.fact 58 (f := .glo "_law_asked") rfl)
theorem m_law_too_many (T : Tx K mg w) : mg "_law_too_many" = some (.ref (He.ga K "_law_too_many")) := by obtain ⟨⟨hp, X, G⟩, c⟩ := T; exact He.glo_ok X G (c.a.fact 59 (f := .glo "_law_too_many") rfl)
theorem m_law_refuses (T : Tx K mg w) : mg "_law_refuses" = some (.ref (He.ga K "_law_refuses")) := by obtain ⟨⟨hp, X, G⟩, c⟩ := T; exact He.glo_ok X G (c.a.fact 60 (f := .glo "_law_refuses") rfl)
theorem m_law (T : Tx K mg w) : mg "law" = some (.ref (He.ga K "law")) := by obtain ⟨⟨hp, X, G⟩, c⟩ := T; exact He.glo_ok X G (c.a.fact 61 (f := .glo "law") rfl)
theorem c_Weights (T : Tx K mg w) : Cls K (He.ga K "Weights") := He.cls_ok (T.c.a.fact 62 (f := .cls "Weights") rfl)
theorem mk_Weights (T : Tx K mg w) : Mk K (He.ga K "Weights") (He.ma K (He.ga K "Weights") "__init__") := He.mkr_ok (T.c.a.fact 63 (f := .mkr "Weights") rfl)
theorem n_Weights_period (T : Tx K mg w) : NoAttr K (He.ga K "Weights") "period" := He.noat_ok (T.c.a.fact 64 (f := .noat "Weights" "period") rfl)
theorem n_Weights_modulus (T : Tx K mg w) : NoAttr K (He.ga K "Weights") "modulus" := He.noat_ok (T.c.a.fact 65 (f := .noat "Weights" "modulus") rfl)
theorem n_Weights_table (T : Tx K mg w) : NoAttr K (He.ga K "Weights") "table" := He.noat_ok (T.c.a.fact 66 (f := .noat "Weights" "table") rfl)
theorem me_Weights_value (T : Tx K mg w) : Meth K (He.ga K "Weights") "value" (He.ma K (He.ga K "Weights") "value") := He.meth_ok (T.c.a.fact 67 (f := .meth "Weights" "value") rfl)
theorem me_Weights_is_kept (T : Tx K mg w) : Meth K (He.ga K "Weights") "is_kept" (He.ma K (He.ga K "Weights") "is_kept") := He.meth_ok (T.c.a.fact 68 (f := .meth "Weights" "is_kept") rfl)
theorem me_Weights_falls (T : Tx K mg w) : Meth K (He.ga K "Weights") "falls" (He.ma K (He.ga K "Weights") "falls") := He.meth_ok (T.c.a.fact 69 (f := .meth "Weights" "falls") rfl)
theorem me_Weights_add (T : Tx K mg w) : Meth K (He.ga K "Weights") "__add__" (He.ma K (He.ga K "Weights") "__add__") := He.meth_ok (T.c.a.fact 70 (f := .meth "Weights" "__add__") rfl)
theorem me_Weights_sub (T : Tx K mg w) : Meth K (He.ga K "Weights") "__sub__" (He.ma K (He.ga K "Weights") "__sub__") := He.meth_ok (T.c.a.fact 71 (f := .meth "Weights" "__sub__") rfl)
theorem me_Weights_neg (T : Tx K mg w) : Meth K (He.ga K "Weights") "__neg__" (He.ma K (He.ga K "Weights") "__neg__") := He.meth_ok (T.c.a.fact 72 (f := .meth "Weights" "__neg__") rfl)
theorem me_Weights_mul (T : Tx K mg w) : Meth K (He.ga K "Weights") "__mul__" (He.ma K (He.ga K "Weights") "__mul__") := He.meth_ok (T.c.a.fact 73 (f := .meth "Weights" "__mul__") rfl)
theorem me_Weights_eq (T : Tx K mg w) : Meth K (He.ga K "Weights") "__eq__" (He.ma K (He.ga K "Weights") "__eq__") := He.meth_ok (T.c.a.fact 74 (f := .meth "Weights" "__eq__") rfl)
theorem c_Jump (T : Tx K mg w) : Cls K (He.ga K "Jump") := He.cls_ok (T.c.a.fact 75 (f := .cls "Jump") rfl)
theorem mk_Jump (T : Tx K mg w) : Mk K (He.ga K "Jump") (He.ma K (He.ga K "Jump") "__init__") := He.mkr_ok (T.c.a.fact 76 (f := .mkr "Jump") rfl)
theorem n_Jump_before (T : Tx K mg w) : NoAttr K (He.ga K "Jump") "before" := He.noat_ok (T.c.a.fact 77 (f := .noat "Jump" "before") rfl)
theorem n_Jump_after (T : Tx K mg w) : NoAttr K (He.ga K "Jump") "after" := He.noat_ok (T.c.a.fact 78 (f := .noat "Jump" "after") rfl)
theorem n_Jump_ways (T : Tx K mg w) : NoAttr K (He.ga K "Jump") "ways" := He.noat_ok (T.c.a.fact 79 (f := .noat "Jump" "ways") rfl)
theorem me_Jump_windows (T : Tx K mg w) : Meth K (He.ga K "Jump") "windows" (He.ma K (He.ga K "Jump") "windows") := He.meth_ok (T.c.a.fact 80 (f := .meth "Jump" "windows") rfl)
theorem me_Jump_mirrored (T : Tx K mg w) : Meth K (He.ga K "Jump") "mirrored" (He.ma K (He.ga K "Jump") "mirrored") := He.meth_ok (T.c.a.fact 81 (f := .meth "Jump" "mirrored") rfl)
theorem me_Jump_eq (T : Tx K mg w) : Meth K (He.ga K "Jump") "__eq__" (He.ma K (He.ga K "Jump") "__eq__") := He.meth_ok (T.c.a.fact 82 (f := .meth "Jump" "__eq__") rfl)
theorem me_Jump_str (T : Tx K mg w) : Meth K (He.ga K "Jump") "__str__" (He.ma K (He.ga K "Jump") "__str__") := He.meth_ok (T.c.a.fact 83 (f := .meth "Jump" "__str__") rfl)
theorem c_Card (T : Tx K mg w) : Cls K (He.ga K "Card") := He.cls_ok (T.c.a.fact 84 (f := .cls "Card") rfl)
theorem mk_Card (T : Tx K mg w) : Mk K (He.ga K "Card") (He.ma K (He.ga K "Card") "__init__") := He.mkr_ok (T.c.a.fact 85 (f := .mkr "Card") rfl)
theorem n_Card_worths (T : Tx K mg w) : NoAttr K (He.ga K "Card") "worths" := He.noat_ok (T.c.a.fact 86 (f := .noat "Card" "worths") rfl)
theorem n_Card_jumps (T : Tx K mg w) : NoAttr K (He.ga K "Card") "jumps" := He.noat_ok (T.c.a.fact 87 (f := .noat "Card" "jumps") rfl)
theorem n_Card_pairs (T : Tx K mg w) : NoAttr K (He.ga K "Card") "pairs" := He.noat_ok (T.c.a.fact 88 (f := .noat "Card" "pairs") rfl)
theorem me_Card_sign_string (T : Tx K mg w) : Meth K (He.ga K "Card") "sign_string" (He.ma K (He.ga K "Card") "sign_string") := He.meth_ok (T.c.a.fact 89 (f := .meth "Card" "sign_string") rfl)
theorem me_Card_worth (T : Tx K mg w) : Meth K (He.ga K "Card") "worth" (He.ma K (He.ga K "Card") "worth") := He.meth_ok (T.c.a.fact 90 (f := .meth "Card" "worth") rfl)
theorem me_Card_mirrored (T : Tx K mg w) : Meth K (He.ga K "Card") "mirrored" (He.ma K (He.ga K "Card") "mirrored") := He.meth_ok (T.c.a.fact 91 (f := .meth "Card" "mirrored") rfl)
theorem me_Card_is_even (T : Tx K mg w) : Meth K (He.ga K "Card") "is_even" (He.ma K (He.ga K "Card") "is_even") := He.meth_ok (T.c.a.fact 92 (f := .meth "Card" "is_even") rfl)
theorem me_Card_add (T : Tx K mg w) : Meth K (He.ga K "Card") "__add__" (He.ma K (He.ga K "Card") "__add__") := He.meth_ok (T.c.a.fact 93 (f := .meth "Card" "__add__") rfl)
theorem me_Card_sub (T : Tx K mg w) : Meth K (He.ga K "Card") "__sub__" (He.ma K (He.ga K "Card") "__sub__") := He.meth_ok (T.c.a.fact 94 (f := .meth "Card" "__sub__") rfl)
theorem me_Card_contains (T : Tx K mg w) : Meth K (He.ga K "Card") "__contains__" (He.ma K (He.ga K "Card") "__contains__") := He.meth_ok (T.c.a.fact 95 (f := .meth "Card" "__contains__") rfl)
theorem me_Card_len (T : Tx K mg w) : Meth K (He.ga K "Card") "__len__" (He.ma K (He.ga K "Card") "__len__") := He.meth_ok (T.c.a.fact 96 (f := .meth "Card" "__len__") rfl)
theorem me_Card_eq (T : Tx K mg w) : Meth K (He.ga K "Card") "__eq__" (He.ma K (He.ga K "Card") "__eq__") := He.meth_ok (T.c.a.fact 97 (f := .meth "Card" "__eq__") rfl)
theorem me_Card_str (T : Tx K mg w) : Meth K (He.ga K "Card") "__str__" (He.ma K (He.ga K "Card") "__str__") := He.meth_ok (T.c.a.fact 98 (f := .meth "Card" "__str__") rfl)
theorem m_len (T : Tx K mg w) : mg "len" = none := by obtain ⟨⟨hp, X, G⟩, c⟩ := T; exact He.free_ok X G (c.a.fact 99 (f := .free "len") rfl)
theorem m_range (T : Tx K mg w) : mg "range" = none := by obtain ⟨⟨hp, X, G⟩, c⟩ := T; exact He.free_ok X G (c.a.fact 100 (f := .free "range") rfl)
theorem m_enumerate (T : Tx K mg w) : mg "enumerate" = none := by obtain ⟨⟨hp, X, G⟩, c⟩ := T; exact He.free_ok X G (c.a.fact 101 (f := .free "enumerate") rfl)
theorem m_zip (T : Tx K mg w) : mg "zip" = none := by obtain ⟨⟨hp, X, G⟩, c⟩ := T; exact He.free_ok X G (c.a.fact 102 (f := .free "zip") rfl)
theorem m_min (T : Tx K mg w) : mg "min" = none := by obtain ⟨⟨hp, X, G⟩, c⟩ := T; exact He.free_ok X G (c.a.fact 103 (f := .free "min") rfl)
theorem m_max (T : Tx K mg w) : mg "max" = none := by obtain ⟨⟨hp, X, G⟩, c⟩ := T; exact He.free_ok X G (c.a.fact 104 (f := .free "max") rfl)
theorem m_sum (T : Tx K mg w) : mg "sum" = none := by obtain ⟨⟨hp, X, G⟩, c⟩ := T; exact He.free_ok X G (c.a.fact 105 (f := .free "sum") rfl)
theorem m_sorted (T : Tx K mg w) : mg "sorted" = none := by obtain ⟨⟨hp, X, G⟩, c⟩ := T; exact He.free_ok X G (c.a.fact 106 (f := .free "sorted") rfl)
theorem m_int (T : Tx K mg w) : mg "int" = none := by obtain ⟨⟨hp, X, G⟩, c⟩ := T; exact He.free_ok X G (c.a.fact 107 (f := .free "int") rfl)
theorem m_str (T : Tx K mg w) : mg "str" = none := by obtain ⟨⟨hp, X, G⟩, c⟩ := T; exact He.free_ok X G (c.a.fact 108 (f := .free "str") rfl)
theorem m_bool (T : Tx K mg w) : mg "bool" = none := by obtain ⟨⟨hp, X, G⟩, c⟩ := T; exact He.free_ok X G (c.a.fact 109 (f := .free "bool") rfl)
theorem m_list (T : Tx K mg w) : mg "list" = none := by obtain ⟨⟨hp, X, G⟩, c⟩ := T; exact He.free_ok X G (c.a.fact 110 (f := .free "list") rfl)
theorem m_tuple (T : Tx K mg w) : mg "tuple" = none := by obtain ⟨⟨hp, X, G⟩, c⟩ := T; exact He.free_ok X G (c.a.fact 111 (f := .free "tuple") rfl)
theorem m_set (T : Tx K mg w) : mg "set" = none := by obtain ⟨⟨hp, X, G⟩, c⟩ := T; exact He.free_ok X G (c.a.fact 112 (f := .free "set") rfl)
theorem m_isinstance (T : Tx K mg w) : mg "isinstance" = none := by obtain ⟨⟨hp, X, G⟩, c⟩ := T; exact He.free_ok X G (c.a.fact 113 (f := .free "isinstance") rfl)
theorem m_any (T : Tx K mg w) : mg "any" = none := by obtain ⟨⟨hp, X, G⟩, c⟩ := T; exact He.free_ok X G (c.a.fact 114 (f := .free "any") rfl)
theorem m_all (T : Tx K mg w) : mg "all" = none := by obtain ⟨⟨hp, X, G⟩, c⟩ := T; exact He.free_ok X G (c.a.fact 115 (f := .free "all") rfl)
theorem m_ValueError (T : Tx K mg w) : mg "ValueError" = none := by obtain ⟨⟨hp, X, G⟩, c⟩ := T; exact He.free_ok X G (c.a.fact 116 (f := .free "ValueError") rfl)
theorem exAt (T : Tx K mg w) (i : Nat) {b : Bool} (h : (exs K)[i]? = some b) : b = true := List.all_eq_true.mp T.c.e b (List.mem_of_getElem? h)
theorem x_InvalidRow (T : Tx K mg w) : XF K "InvalidRow" "row" := errB_ok (exAt T 0 rfl) (exAt T 1 rfl)
theorem x_InvalidJump (T : Tx K mg w) : XF K "InvalidJump" "text" := errB_ok (exAt T 0 rfl) (exAt T 2 rfl)
theorem x_InvalidCard (T : Tx K mg w) : XF K "InvalidCard" "part" := errB_ok (exAt T 0 rfl) (exAt T 3 rfl)
theorem x_TooMany (T : Tx K mg w) : XF K "TooMany" "limit" := errB_ok (exAt T 0 rfl) (exAt T 4 rfl)
theorem x_InvalidWeight (T : Tx K mg w) : XF K "InvalidWeight" "part" := errB_ok (exAt T 0 rfl) (exAt T 5 rfl)
theorem kit_InvalidRow_InvalidRow (T : Tx K mg w) : PySem.W.kitOne K (.ref (He.ga K "InvalidRow")) (.ref (He.ga K "InvalidRow")) = some true := kitB_ok (exAt T 6 rfl)
theorem kit_InvalidRow_InvalidJump (T : Tx K mg w) : PySem.W.kitOne K (.ref (He.ga K "InvalidRow")) (.ref (He.ga K "InvalidJump")) = some false := kitB_ok (exAt T 7 rfl)
theorem kit_InvalidRow_InvalidCard (T : Tx K mg w) : PySem.W.kitOne K (.ref (He.ga K "InvalidRow")) (.ref (He.ga K "InvalidCard")) = some false := kitB_ok (exAt T 8 rfl)
theorem kit_InvalidRow_TooMany (T : Tx K mg w) : PySem.W.kitOne K (.ref (He.ga K "InvalidRow")) (.ref (He.ga K "TooMany")) = some false := kitB_ok (exAt T 9 rfl)
theorem kit_InvalidRow_InvalidWeight (T : Tx K mg w) : PySem.W.kitOne K (.ref (He.ga K "InvalidRow")) (.ref (He.ga K "InvalidWeight")) = some false := kitB_ok (exAt T 10 rfl)
theorem kit_InvalidRow_Weights (T : Tx K mg w) : PySem.W.kitOne K (.ref (He.ga K "InvalidRow")) (.ref (He.ga K "Weights")) = some false := kitB_ok (exAt T 11 rfl)
theorem kit_InvalidRow_Jump (T : Tx K mg w) : PySem.W.kitOne K (.ref (He.ga K "InvalidRow")) (.ref (He.ga K "Jump")) = some false := kitB_ok (exAt T 12 rfl)
theorem kit_InvalidRow_Card (T : Tx K mg w) : PySem.W.kitOne K (.ref (He.ga K "InvalidRow")) (.ref (He.ga K "Card")) = some false := kitB_ok (exAt T 13 rfl)
theorem kit_InvalidJump_InvalidRow (T : Tx K mg w) : PySem.W.kitOne K (.ref (He.ga K "InvalidJump")) (.ref (He.ga K "InvalidRow")) = some false := kitB_ok (exAt T 14 rfl)
theorem kit_InvalidJump_InvalidJump (T : Tx K mg w) : PySem.W.kitOne K (.ref (He.ga K "InvalidJump")) (.ref (He.ga K "InvalidJump")) = some true := kitB_ok (exAt T 15 rfl)
theorem kit_InvalidJump_InvalidCard (T : Tx K mg w) : PySem.W.kitOne K (.ref (He.ga K "InvalidJump")) (.ref (He.ga K "InvalidCard")) = some false := kitB_ok (exAt T 16 rfl)
theorem kit_InvalidJump_TooMany (T : Tx K mg w) : PySem.W.kitOne K (.ref (He.ga K "InvalidJump")) (.ref (He.ga K "TooMany")) = some false := kitB_ok (exAt T 17 rfl)
theorem kit_InvalidJump_InvalidWeight (T : Tx K mg w) : PySem.W.kitOne K (.ref (He.ga K "InvalidJump")) (.ref (He.ga K "InvalidWeight")) = some false := kitB_ok (exAt T 18 rfl)
theorem kit_InvalidJump_Weights (T : Tx K mg w) : PySem.W.kitOne K (.ref (He.ga K "InvalidJump")) (.ref (He.ga K "Weights")) = some false := kitB_ok (exAt T 19 rfl)
theorem kit_InvalidJump_Jump (T : Tx K mg w) : PySem.W.kitOne K (.ref (He.ga K "InvalidJump")) (.ref (He.ga K "Jump")) = some false := kitB_ok (exAt T 20 rfl)
theorem kit_InvalidJump_Card (T : Tx K mg w) : PySem.W.kitOne K (.ref (He.ga K "InvalidJump")) (.ref (He.ga K "Card")) = some false := kitB_ok (exAt T 21 rfl)
theorem kit_InvalidCard_InvalidRow (T : Tx K mg w) : PySem.W.kitOne K (.ref (He.ga K "InvalidCard")) (.ref (He.ga K "InvalidRow")) = some false := kitB_ok (exAt T 22 rfl)
theorem kit_InvalidCard_InvalidJump (T : Tx K mg w) : PySem.W.kitOne K (.ref (He.ga K "InvalidCard")) (.ref (He.ga K "InvalidJump")) = some false := kitB_ok (exAt T 23 rfl)
theorem kit_InvalidCard_InvalidCard (T : Tx K mg w) : PySem.W.kitOne K (.ref (He.ga K "InvalidCard")) (.ref (He.ga K "InvalidCard")) = some true := kitB_ok (exAt T 24 rfl)
theorem kit_InvalidCard_TooMany (T : Tx K mg w) : PySem.W.kitOne K (.ref (He.ga K "InvalidCard")) (.ref (He.ga K "TooMany")) = some false := kitB_ok (exAt T 25 rfl)
theorem kit_InvalidCard_InvalidWeight (T : Tx K mg w) : PySem.W.kitOne K (.ref (He.ga K "InvalidCard")) (.ref (He.ga K "InvalidWeight")) = some false := kitB_ok (exAt T 26 rfl)
theorem kit_InvalidCard_Weights (T : Tx K mg w) : PySem.W.kitOne K (.ref (He.ga K "InvalidCard")) (.ref (He.ga K "Weights")) = some false := kitB_ok (exAt T 27 rfl)
theorem kit_InvalidCard_Jump (T : Tx K mg w) : PySem.W.kitOne K (.ref (He.ga K "InvalidCard")) (.ref (He.ga K "Jump")) = some false := kitB_ok (exAt T 28 rfl)
theorem kit_InvalidCard_Card (T : Tx K mg w) : PySem.W.kitOne K (.ref (He.ga K "InvalidCard")) (.ref (He.ga K "Card")) = some false := kitB_ok (exAt T 29 rfl)
theorem kit_TooMany_InvalidRow (T : Tx K mg w) : PySem.W.kitOne K (.ref (He.ga K "TooMany")) (.ref (He.ga K "InvalidRow")) = some false := kitB_ok (exAt T 30 rfl)
theorem kit_TooMany_InvalidJump (T : Tx K mg w) : PySem.W.kitOne K (.ref (He.ga K "TooMany")) (.ref (He.ga K "InvalidJump")) = some false := kitB_ok (exAt T 31 rfl)
theorem kit_TooMany_InvalidCard (T : Tx K mg w) : PySem.W.kitOne K (.ref (He.ga K "TooMany")) (.ref (He.ga K "InvalidCard")) = some false := kitB_ok (exAt T 32 rfl)
theorem kit_TooMany_TooMany (T : Tx K mg w) : PySem.W.kitOne K (.ref (He.ga K "TooMany")) (.ref (He.ga K "TooMany")) = some true := kitB_ok (exAt T 33 rfl)
theorem kit_TooMany_InvalidWeight (T : Tx K mg w) : PySem.W.kitOne K (.ref (He.ga K "TooMany")) (.ref (He.ga K "InvalidWeight")) = some false := kitB_ok (exAt T 34 rfl)
theorem kit_TooMany_Weights (T : Tx K mg w) : PySem.W.kitOne K (.ref (He.ga K "TooMany")) (.ref (He.ga K "Weights")) = some false := kitB_ok (exAt T 35 rfl)
theorem kit_TooMany_Jump (T : Tx K mg w) : PySem.W.kitOne K (.ref (He.ga K "TooMany")) (.ref (He.ga K "Jump")) = some false := kitB_ok (exAt T 36 rfl)
theorem kit_TooMany_Card (T : Tx K mg w) : PySem.W.kitOne K (.ref (He.ga K "TooMany")) (.ref (He.ga K "Card")) = some false := kitB_ok (exAt T 37 rfl)
theorem kit_InvalidWeight_InvalidRow (T : Tx K mg w) : PySem.W.kitOne K (.ref (He.ga K "InvalidWeight")) (.ref (He.ga K "InvalidRow")) = some false := kitB_ok (exAt T 38 rfl)
theorem kit_InvalidWeight_InvalidJump (T : Tx K mg w) : PySem.W.kitOne K (.ref (He.ga K "InvalidWeight")) (.ref (He.ga K "InvalidJump")) = some false := kitB_ok (exAt T 39 rfl)
theorem kit_InvalidWeight_InvalidCard (T : Tx K mg w) : PySem.W.kitOne K (.ref (He.ga K "InvalidWeight")) (.ref (He.ga K "InvalidCard")) = some false := kitB_ok (exAt T 40 rfl)
theorem kit_InvalidWeight_TooMany (T : Tx K mg w) : PySem.W.kitOne K (.ref (He.ga K "InvalidWeight")) (.ref (He.ga K "TooMany")) = some false := kitB_ok (exAt T 41 rfl)
theorem kit_InvalidWeight_InvalidWeight (T : Tx K mg w) : PySem.W.kitOne K (.ref (He.ga K "InvalidWeight")) (.ref (He.ga K "InvalidWeight")) = some true := kitB_ok (exAt T 42 rfl)
theorem kit_InvalidWeight_Weights (T : Tx K mg w) : PySem.W.kitOne K (.ref (He.ga K "InvalidWeight")) (.ref (He.ga K "Weights")) = some false := kitB_ok (exAt T 43 rfl)
theorem kit_InvalidWeight_Jump (T : Tx K mg w) : PySem.W.kitOne K (.ref (He.ga K "InvalidWeight")) (.ref (He.ga K "Jump")) = some false := kitB_ok (exAt T 44 rfl)
theorem kit_InvalidWeight_Card (T : Tx K mg w) : PySem.W.kitOne K (.ref (He.ga K "InvalidWeight")) (.ref (He.ga K "Card")) = some false := kitB_ok (exAt T 45 rfl)
theorem kit_Weights_Weights (T : Tx K mg w) : PySem.W.kitOne K (.ref (He.ga K "Weights")) (.ref (He.ga K "Weights")) = some true := kitB_ok (exAt T 46 rfl)
theorem kit_Jump_Jump (T : Tx K mg w) : PySem.W.kitOne K (.ref (He.ga K "Jump")) (.ref (He.ga K "Jump")) = some true := kitB_ok (exAt T 47 rfl)
theorem kit_Card_Card (T : Tx K mg w) : PySem.W.kitOne K (.ref (He.ga K "Card")) (.ref (He.ga K "Card")) = some true := kitB_ok (exAt T 48 rfl)
theorem t_WAY_SIGNS (T : Tx K mg w) : ∃ es n, KDict K w (He.ga K "WAY_SIGNS") es n := T.c.tab 0 rfl
theorem v_WAY_SIGNS (T : Tx K mg w) : He.valsB K (He.ga K "WAY_SIGNS") [("right", .str ">"), ("left", .str "<"), ("both", .str "=")] = true := exAt T 49 rfl
theorem no_WAY_SIGNS (T : Tx K mg w) {z : Str} (h : z ∉ (["right", "left", "both"] : List Str)) : PySem.W.nsIn K (He.ga K "WAY_SIGNS") z = some none := T.c.tab_no 0 rfl h
theorem t_SIGN_WAYS (T : Tx K mg w) : ∃ es n, KDict K w (He.ga K "SIGN_WAYS") es n := T.c.tab 1 rfl
theorem v_SIGN_WAYS (T : Tx K mg w) : He.valsB K (He.ga K "SIGN_WAYS") [(">", .str "right"), ("<", .str "left"), ("=", .str "both")] = true := exAt T 50 rfl
theorem no_SIGN_WAYS (T : Tx K mg w) {z : Str} (h : z ∉ ([">", "<", "="] : List Str)) : PySem.W.nsIn K (He.ga K "SIGN_WAYS") z = some none := T.c.tab_no 1 rfl h
theorem cr_Weights (T : Tx K mg w) : ClX.CRead K (He.ga K "Weights") (.type "type") := clsB_ok (exAt T 51 rfl)
theorem cr_Jump (T : Tx K mg w) : ClX.CRead K (He.ga K "Jump") (.type "type") := clsB_ok (exAt T 52 rfl)
theorem cr_Card (T : Tx K mg w) : ClX.CRead K (He.ga K "Card") (.type "type") := clsB_ok (exAt T 53 rfl)
theorem h_InvalidRow_init (T : Tx K mg w) : HasD K d_InvalidRow_init := has_of T.c.a 0 rfl
theorem k_InvalidRow_init (T : Tx K mg w) : PySem.W.keepIn K (.ref (d_InvalidRow_init.at_ K)) = true := (h_InvalidRow_init T).kp
theorem b_InvalidRow_init (T : Tx K mg w) : Binds K (fdOf K (d_InvalidRow_init.at_ K)) ps_InvalidRow_init [] := FunD.bindsN (ps := ps_InvalidRow_init) (h_InvalidRow_init T) fun _ _ _ _ _ _ us hl => match us, hl with | [_, _], _ => rfl
theorem h_InvalidJump_init (T : Tx K mg w) : HasD K d_InvalidJump_init := has_of T.c.a 1 rfl
theorem k_InvalidJump_init (T : Tx K mg w) : PySem.W.keepIn K (.ref (d_InvalidJump_init.at_ K)) = true := (h_InvalidJump_init T).kp
theorem b_InvalidJump_init (T : Tx K mg w) : Binds K (fdOf K (d_InvalidJump_init.at_ K)) ps_InvalidJump_init [] := FunD.bindsN (ps := ps_InvalidJump_init) (h_InvalidJump_init T) fun _ _ _ _ _ _ us hl => match us, hl with | [_, _], _ => rfl
theorem h_InvalidCard_init (T : Tx K mg w) : HasD K d_InvalidCard_init := has_of T.c.a 2 rfl
theorem k_InvalidCard_init (T : Tx K mg w) : PySem.W.keepIn K (.ref (d_InvalidCard_init.at_ K)) = true := (h_InvalidCard_init T).kp
theorem b_InvalidCard_init (T : Tx K mg w) : Binds K (fdOf K (d_InvalidCard_init.at_ K)) ps_InvalidCard_init [] := FunD.bindsN (ps := ps_InvalidCard_init) (h_InvalidCard_init T) fun _ _ _ _ _ _ us hl => match us, hl with | [_, _], _ => rfl
theorem h_TooMany_init (T : Tx K mg w) : HasD K d_TooMany_init := has_of T.c.a 3 rfl
theorem k_TooMany_init (T : Tx K mg w) : PySem.W.keepIn K (.ref (d_TooMany_init.at_ K)) = true := (h_TooMany_init T).kp
theorem b_TooMany_init (T : Tx K mg w) : Binds K (fdOf K (d_TooMany_init.at_ K)) ps_TooMany_init [] := FunD.bindsN (ps := ps_TooMany_init) (h_TooMany_init T) fun _ _ _ _ _ _ us hl => match us, hl with | [_, _], _ => rfl
theorem h_InvalidWeight_init (T : Tx K mg w) : HasD K d_InvalidWeight_init := has_of T.c.a 4 rfl
theorem k_InvalidWeight_init (T : Tx K mg w) : PySem.W.keepIn K (.ref (d_InvalidWeight_init.at_ K)) = true := (h_InvalidWeight_init T).kp
theorem b_InvalidWeight_init (T : Tx K mg w) : Binds K (fdOf K (d_InvalidWeight_init.at_ K)) ps_InvalidWeight_init [] := FunD.bindsN (ps := ps_InvalidWeight_init) (h_InvalidWeight_init T) fun _ _ _ _ _ _ us hl => match us, hl with | [_, _], _ => rfl
theorem h_signs_of (T : Tx K mg w) : HasD K d_signs_of := has_of T.c.a 5 rfl
theorem k_signs_of (T : Tx K mg w) : PySem.W.keepIn K (.ref (d_signs_of.at_ K)) = true := (h_signs_of T).kp
-- b_signs_of: by hand
theorem h_check_row (T : Tx K mg w) : HasD K d_check_row := has_of T.c.a 6 rfl
theorem k_check_row (T : Tx K mg w) : PySem.W.keepIn K (.ref (d_check_row.at_ K)) = true := (h_check_row T).kp
-- b_check_row: by hand
theorem h_unmarked (T : Tx K mg w) : HasD K d_unmarked := has_of T.c.a 7 rfl
theorem k_unmarked (T : Tx K mg w) : PySem.W.keepIn K (.ref (d_unmarked.at_ K)) = true := (h_unmarked T).kp
theorem b_unmarked (T : Tx K mg w) : Binds K (fdOf K (d_unmarked.at_ K)) ps_unmarked [] := FunD.bindsN (ps := ps_unmarked) (h_unmarked T) fun _ _ _ _ _ _ us hl => match us, hl with | [_], _ => rfl
theorem h_all_marked (T : Tx K mg w) : HasD K d_all_marked := has_of T.c.a 8 rfl
theorem k_all_marked (T : Tx K mg w) : PySem.W.keepIn K (.ref (d_all_marked.at_ K)) = true := (h_all_marked T).kp
theorem b_all_marked (T : Tx K mg w) : Binds K (fdOf K (d_all_marked.at_ K)) ps_all_marked [] := FunD.bindsN (ps := ps_all_marked) (h_all_marked T) fun _ _ _ _ _ _ us hl => match us, hl with | [_], _ => rfl
theorem h_mirror (T : Tx K mg w) : HasD K d_mirror := has_of T.c.a 9 rfl
theorem k_mirror (T : Tx K mg w) : PySem.W.keepIn K (.ref (d_mirror.at_ K)) = true := (h_mirror T).kp
theorem b_mirror (T : Tx K mg w) : Binds K (fdOf K (d_mirror.at_ K)) ps_mirror [] := FunD.bindsN (ps := ps_mirror) (h_mirror T) fun _ _ _ _ _ _ us hl => match us, hl with | [_], _ => rfl
theorem h_check_period (T : Tx K mg w) : HasD K d_check_period := has_of T.c.a 10 rfl
theorem k_check_period (T : Tx K mg w) : PySem.W.keepIn K (.ref (d_check_period.at_ K)) = true := (h_check_period T).kp
theorem b_check_period (T : Tx K mg w) : Binds K (fdOf K (d_check_period.at_ K)) ps_check_period [] := FunD.bindsN (ps := ps_check_period) (h_check_period T) fun _ _ _ _ _ _ us hl => match us, hl with | [_], _ => rfl
theorem h_is_table (T : Tx K mg w) : HasD K d_is_table := has_of T.c.a 11 rfl
theorem k_is_table (T : Tx K mg w) : PySem.W.keepIn K (.ref (d_is_table.at_ K)) = true := (h_is_table T).kp
theorem b_is_table (T : Tx K mg w) : Binds K (fdOf K (d_is_table.at_ K)) ps_is_table [] := FunD.bindsN (ps := ps_is_table) (h_is_table T) fun _ _ _ _ _ _ us hl => match us, hl with | [_, _], _ => rfl
theorem h_remainder (T : Tx K mg w) : HasD K d_remainder := has_of T.c.a 12 rfl
theorem k_remainder (T : Tx K mg w) : PySem.W.keepIn K (.ref (d_remainder.at_ K)) = true := (h_remainder T).kp
theorem b_remainder (T : Tx K mg w) : Binds K (fdOf K (d_remainder.at_ K)) ps_remainder [] := FunD.bindsN (ps := ps_remainder) (h_remainder T) fun _ _ _ _ _ _ us hl => match us, hl with | [_, _], _ => rfl
theorem h_changes_of (T : Tx K mg w) : HasD K d_changes_of := has_of T.c.a 13 rfl
theorem k_changes_of (T : Tx K mg w) : PySem.W.keepIn K (.ref (d_changes_of.at_ K)) = true := (h_changes_of T).kp
theorem b_changes_of (T : Tx K mg w) : Binds K (fdOf K (d_changes_of.at_ K)) ps_changes_of [] := FunD.bindsN (ps := ps_changes_of) (h_changes_of T) fun _ _ _ _ _ _ us hl => match us, hl with | [_, _, _], _ => rfl
theorem h_rises (T : Tx K mg w) : HasD K d_rises := has_of T.c.a 14 rfl
theorem k_rises (T : Tx K mg w) : PySem.W.keepIn K (.ref (d_rises.at_ K)) = true := (h_rises T).kp
theorem b_rises (T : Tx K mg w) : Binds K (fdOf K (d_rises.at_ K)) ps_rises [] := FunD.bindsN (ps := ps_rises) (h_rises T) fun _ _ _ _ _ _ us hl => match us, hl with | [_, _], _ => rfl
theorem h_Weights_init (T : Tx K mg w) : HasD K d_Weights_init := has_of T.c.a 15 rfl
theorem k_Weights_init (T : Tx K mg w) : PySem.W.keepIn K (.ref (d_Weights_init.at_ K)) = true := (h_Weights_init T).kp
theorem b_Weights_init (T : Tx K mg w) : Binds K (fdOf K (d_Weights_init.at_ K)) ps_Weights_init [] := FunD.bindsN (ps := ps_Weights_init) (h_Weights_init T) fun _ _ _ _ _ _ us hl => match us, hl with | [_, _, _, _], _ => rfl
theorem h_Weights_falls (T : Tx K mg w) : HasD K d_Weights_falls := has_of T.c.a 16 rfl
theorem k_Weights_falls (T : Tx K mg w) : PySem.W.keepIn K (.ref (d_Weights_falls.at_ K)) = true := (h_Weights_falls T).kp
theorem b_Weights_falls (T : Tx K mg w) : Binds K (fdOf K (d_Weights_falls.at_ K)) ps_Weights_falls [] := FunD.bindsN (ps := ps_Weights_falls) (h_Weights_falls T) fun _ _ _ _ _ _ us hl => match us, hl with | [_, _], _ => rfl
theorem h_as_table (T : Tx K mg w) : HasD K d_as_table := has_of T.c.a 17 rfl
theorem k_as_table (T : Tx K mg w) : PySem.W.keepIn K (.ref (d_as_table.at_ K)) = true := (h_as_table T).kp
theorem b_as_table (T : Tx K mg w) : Binds K (fdOf K (d_as_table.at_ K)) ps_as_table [] := FunD.bindsN (ps := ps_as_table) (h_as_table T) fun _ _ _ _ _ _ us hl => match us, hl with | [_, _], _ => rfl
theorem h_count_up (T : Tx K mg w) : HasD K d_count_up := has_of T.c.a 18 rfl
theorem k_count_up (T : Tx K mg w) : PySem.W.keepIn K (.ref (d_count_up.at_ K)) = true := (h_count_up T).kp
theorem b_count_up (T : Tx K mg w) : Binds K (fdOf K (d_count_up.at_ K)) ps_count_up [] := FunD.bindsN (ps := ps_count_up) (h_count_up T) fun _ _ _ _ _ _ us hl => match us, hl with | [_, _], _ => rfl
theorem h_never_rises (T : Tx K mg w) : HasD K d_never_rises := has_of T.c.a 19 rfl
theorem k_never_rises (T : Tx K mg w) : PySem.W.keepIn K (.ref (d_never_rises.at_ K)) = true := (h_never_rises T).kp
theorem b_never_rises (T : Tx K mg w) : Binds K (fdOf K (d_never_rises.at_ K)) ps_never_rises [] := FunD.bindsN (ps := ps_never_rises) (h_never_rises T) fun _ _ _ _ _ _ us hl => match us, hl with | [_, _], _ => rfl
theorem h_falling_weights (T : Tx K mg w) : HasD K d_falling_weights := has_of T.c.a 20 rfl
theorem k_falling_weights (T : Tx K mg w) : PySem.W.keepIn K (.ref (d_falling_weights.at_ K)) = true := (h_falling_weights T).kp
theorem b_falling_weights (T : Tx K mg w) : Binds K (fdOf K (d_falling_weights.at_ K)) ps_falling_weights [] := FunD.bindsN (ps := ps_falling_weights) (h_falling_weights T) fun _ _ _ _ _ _ us hl => match us, hl with | [_, _, _], _ => rfl
theorem h_is_jump (T : Tx K mg w) : HasD K d_is_jump := has_of T.c.a 21 rfl
theorem k_is_jump (T : Tx K mg w) : PySem.W.keepIn K (.ref (d_is_jump.at_ K)) = true := (h_is_jump T).kp
theorem b_is_jump (T : Tx K mg w) : Binds K (fdOf K (d_is_jump.at_ K)) ps_is_jump [] := FunD.bindsN (ps := ps_is_jump) (h_is_jump T) fun _ _ _ _ _ _ us hl => match us, hl with | [_, _, _], _ => rfl
theorem h_Jump_init (T : Tx K mg w) : HasD K d_Jump_init := has_of T.c.a 22 rfl
theorem k_Jump_init (T : Tx K mg w) : PySem.W.keepIn K (.ref (d_Jump_init.at_ K)) = true := (h_Jump_init T).kp
-- b_Jump_init: by hand
theorem h_Jump_windows (T : Tx K mg w) : HasD K d_Jump_windows := has_of T.c.a 23 rfl
theorem k_Jump_windows (T : Tx K mg w) : PySem.W.keepIn K (.ref (d_Jump_windows.at_ K)) = true := (h_Jump_windows T).kp
theorem b_Jump_windows (T : Tx K mg w) : Binds K (fdOf K (d_Jump_windows.at_ K)) ps_Jump_windows [] := FunD.bindsN (ps := ps_Jump_windows) (h_Jump_windows T) fun _ _ _ _ _ _ us hl => match us, hl with | [_], _ => rfl
theorem h_Jump_eq (T : Tx K mg w) : HasD K d_Jump_eq := has_of T.c.a 24 rfl
theorem k_Jump_eq (T : Tx K mg w) : PySem.W.keepIn K (.ref (d_Jump_eq.at_ K)) = true := (h_Jump_eq T).kp
theorem b_Jump_eq (T : Tx K mg w) : Binds K (fdOf K (d_Jump_eq.at_ K)) ps_Jump_eq [] := FunD.bindsN (ps := ps_Jump_eq) (h_Jump_eq T) fun _ _ _ _ _ _ us hl => match us, hl with | [_, _], _ => rfl
theorem h_Jump_str (T : Tx K mg w) : HasD K d_Jump_str := has_of T.c.a 25 rfl
theorem k_Jump_str (T : Tx K mg w) : PySem.W.keepIn K (.ref (d_Jump_str.at_ K)) = true := (h_Jump_str T).kp
theorem b_Jump_str (T : Tx K mg w) : Binds K (fdOf K (d_Jump_str.at_ K)) ps_Jump_str [] := FunD.bindsN (ps := ps_Jump_str) (h_Jump_str T) fun _ _ _ _ _ _ us hl => match us, hl with | [_], _ => rfl
theorem h_worth_in (T : Tx K mg w) : HasD K d_worth_in := has_of T.c.a 26 rfl
theorem k_worth_in (T : Tx K mg w) : PySem.W.keepIn K (.ref (d_worth_in.at_ K)) = true := (h_worth_in T).kp
theorem b_worth_in (T : Tx K mg w) : Binds K (fdOf K (d_worth_in.at_ K)) ps_worth_in [] := FunD.bindsN (ps := ps_worth_in) (h_worth_in T) fun _ _ _ _ _ _ us hl => match us, hl with | [_, _], _ => rfl
theorem h_are_worths (T : Tx K mg w) : HasD K d_are_worths := has_of T.c.a 27 rfl
theorem k_are_worths (T : Tx K mg w) : PySem.W.keepIn K (.ref (d_are_worths.at_ K)) = true := (h_are_worths T).kp
theorem b_are_worths (T : Tx K mg w) : Binds K (fdOf K (d_are_worths.at_ K)) ps_are_worths [] := FunD.bindsN (ps := ps_are_worths) (h_are_worths T) fun _ _ _ _ _ _ us hl => match us, hl with | [_], _ => rfl
theorem h_fits_worths (T : Tx K mg w) : HasD K d_fits_worths := has_of T.c.a 28 rfl
theorem k_fits_worths (T : Tx K mg w) : PySem.W.keepIn K (.ref (d_fits_worths.at_ K)) = true := (h_fits_worths T).kp
theorem b_fits_worths (T : Tx K mg w) : Binds K (fdOf K (d_fits_worths.at_ K)) ps_fits_worths [] := FunD.bindsN (ps := ps_fits_worths) (h_fits_worths T) fun _ _ _ _ _ _ us hl => match us, hl with | [_, _], _ => rfl
theorem h_pairs_of (T : Tx K mg w) : HasD K d_pairs_of := has_of T.c.a 29 rfl
theorem k_pairs_of (T : Tx K mg w) : PySem.W.keepIn K (.ref (d_pairs_of.at_ K)) = true := (h_pairs_of T).kp
theorem b_pairs_of (T : Tx K mg w) : Binds K (fdOf K (d_pairs_of.at_ K)) ps_pairs_of [] := FunD.bindsN (ps := ps_pairs_of) (h_pairs_of T) fun _ _ _ _ _ _ us hl => match us, hl with | [_], _ => rfl
theorem h_Card_init (T : Tx K mg w) : HasD K d_Card_init := has_of T.c.a 30 rfl
theorem k_Card_init (T : Tx K mg w) : PySem.W.keepIn K (.ref (d_Card_init.at_ K)) = true := (h_Card_init T).kp
theorem b_Card_init (T : Tx K mg w) : Binds K (fdOf K (d_Card_init.at_ K)) ps_Card_init [] := FunD.bindsN (ps := ps_Card_init) (h_Card_init T) fun _ _ _ _ _ _ us hl => match us, hl with | [_, _, _], _ => rfl
theorem h_Card_eq (T : Tx K mg w) : HasD K d_Card_eq := has_of T.c.a 31 rfl
theorem k_Card_eq (T : Tx K mg w) : PySem.W.keepIn K (.ref (d_Card_eq.at_ K)) = true := (h_Card_eq T).kp
theorem b_Card_eq (T : Tx K mg w) : Binds K (fdOf K (d_Card_eq.at_ K)) ps_Card_eq [] := FunD.bindsN (ps := ps_Card_eq) (h_Card_eq T) fun _ _ _ _ _ _ us hl => match us, hl with | [_, _], _ => rfl
theorem h_law_cell (T : Tx K mg w) : HasD K d_law_cell := has_of T.c.a 32 rfl
theorem k_law_cell (T : Tx K mg w) : PySem.W.keepIn K (.ref (d_law_cell.at_ K)) = true := (h_law_cell T).kp
theorem b_law_cell (T : Tx K mg w) : Binds K (fdOf K (d_law_cell.at_ K)) ps_law_cell [] := FunD.bindsN (ps := ps_law_cell) (h_law_cell T) fun _ _ _ _ _ _ us hl => match us, hl with | [_, _], _ => rfl
theorem h_law_box (T : Tx K mg w) : HasD K d_law_box := has_of T.c.a 33 rfl
theorem k_law_box (T : Tx K mg w) : PySem.W.keepIn K (.ref (d_law_box.at_ K)) = true := (h_law_box T).kp
theorem b_law_box (T : Tx K mg w) : Binds K (fdOf K (d_law_box.at_ K)) ps_law_box [] := FunD.bindsN (ps := ps_law_box) (h_law_box T) fun _ _ _ _ _ _ us hl => match us, hl with | [_, _], _ => rfl
theorem h_law_take (T : Tx K mg w) : HasD K d_law_take := has_of T.c.a 34 rfl
theorem k_law_take (T : Tx K mg w) : PySem.W.keepIn K (.ref (d_law_take.at_ K)) = true := (h_law_take T).kp
theorem b_law_take (T : Tx K mg w) : Binds K (fdOf K (d_law_take.at_ K)) ps_law_take [] := FunD.bindsN (ps := ps_law_take) (h_law_take T) fun _ _ _ _ _ _ us hl => match us, hl with | [_, _], _ => rfl
theorem h_law_is_integer (T : Tx K mg w) : HasD K d_law_is_integer := has_of T.c.a 35 rfl
theorem k_law_is_integer (T : Tx K mg w) : PySem.W.keepIn K (.ref (d_law_is_integer.at_ K)) = true := (h_law_is_integer T).kp
theorem b_law_is_integer (T : Tx K mg w) : Binds K (fdOf K (d_law_is_integer.at_ K)) ps_law_is_integer [] := FunD.bindsN (ps := ps_law_is_integer) (h_law_is_integer T) fun _ _ _ _ _ _ us hl => match us, hl with | [_], _ => rfl
theorem h_law_kind (T : Tx K mg w) : HasD K d_law_kind := has_of T.c.a 36 rfl
theorem k_law_kind (T : Tx K mg w) : PySem.W.keepIn K (.ref (d_law_kind.at_ K)) = true := (h_law_kind T).kp
theorem b_law_kind (T : Tx K mg w) : Binds K (fdOf K (d_law_kind.at_ K)) ps_law_kind [] := FunD.bindsN (ps := ps_law_kind) (h_law_kind T) fun _ _ _ _ _ _ us hl => match us, hl with | [_], _ => rfl
theorem h_law_worth (T : Tx K mg w) : HasD K d_law_worth := has_of T.c.a 37 rfl
theorem k_law_worth (T : Tx K mg w) : PySem.W.keepIn K (.ref (d_law_worth.at_ K)) = true := (h_law_worth T).kp
theorem b_law_worth (T : Tx K mg w) : Binds K (fdOf K (d_law_worth.at_ K)) ps_law_worth [] := FunD.bindsN (ps := ps_law_worth) (h_law_worth T) fun _ _ _ _ _ _ us hl => match us, hl with | [_, _], _ => rfl
theorem h_law_jump (T : Tx K mg w) : HasD K d_law_jump := has_of T.c.a 38 rfl
theorem k_law_jump (T : Tx K mg w) : PySem.W.keepIn K (.ref (d_law_jump.at_ K)) = true := (h_law_jump T).kp
theorem b_law_jump (T : Tx K mg w) : Binds K (fdOf K (d_law_jump.at_ K)) ps_law_jump [] := FunD.bindsN (ps := ps_law_jump) (h_law_jump T) fun _ _ _ _ _ _ us hl => match us, hl with | [_, _], _ => rfl
theorem h_law_sides (T : Tx K mg w) : HasD K d_law_sides := has_of T.c.a 39 rfl
theorem k_law_sides (T : Tx K mg w) : PySem.W.keepIn K (.ref (d_law_sides.at_ K)) = true := (h_law_sides T).kp
theorem b_law_sides (T : Tx K mg w) : Binds K (fdOf K (d_law_sides.at_ K)) ps_law_sides [] := FunD.bindsN (ps := ps_law_sides) (h_law_sides T) fun _ _ _ _ _ _ us hl => match us, hl with | [_], _ => rfl
theorem h_law_card (T : Tx K mg w) : HasD K d_law_card := has_of T.c.a 40 rfl
theorem k_law_card (T : Tx K mg w) : PySem.W.keepIn K (.ref (d_law_card.at_ K)) = true := (h_law_card T).kp
theorem b_law_card (T : Tx K mg w) : Binds K (fdOf K (d_law_card.at_ K)) ps_law_card [] := FunD.bindsN (ps := ps_law_card) (h_law_card T) fun _ _ _ _ _ _ us hl => match us, hl with | [_, _], _ => rfl
theorem h_law_conditions (T : Tx K mg w) : HasD K d_law_conditions := has_of T.c.a 41 rfl
theorem k_law_conditions (T : Tx K mg w) : PySem.W.keepIn K (.ref (d_law_conditions.at_ K)) = true := (h_law_conditions T).kp
theorem b_law_conditions (T : Tx K mg w) : Binds K (fdOf K (d_law_conditions.at_ K)) ps_law_conditions [] := FunD.bindsN (ps := ps_law_conditions) (h_law_conditions T) fun _ _ _ _ _ _ us hl => match us, hl with | [_, _, _], _ => rfl
theorem h_law_is_weights (T : Tx K mg w) : HasD K d_law_is_weights := has_of T.c.a 42 rfl
theorem k_law_is_weights (T : Tx K mg w) : PySem.W.keepIn K (.ref (d_law_is_weights.at_ K)) = true := (h_law_is_weights T).kp
theorem b_law_is_weights (T : Tx K mg w) : Binds K (fdOf K (d_law_is_weights.at_ K)) ps_law_is_weights [] := FunD.bindsN (ps := ps_law_is_weights) (h_law_is_weights T) fun _ _ _ _ _ _ us hl => match us, hl with | [_, _, _, _], _ => rfl
theorem h_law_total (T : Tx K mg w) : HasD K d_law_total := has_of T.c.a 43 rfl
theorem k_law_total (T : Tx K mg w) : PySem.W.keepIn K (.ref (d_law_total.at_ K)) = true := (h_law_total T).kp
theorem b_law_total (T : Tx K mg w) : Binds K (fdOf K (d_law_total.at_ K)) ps_law_total [] := FunD.bindsN (ps := ps_law_total) (h_law_total T) fun _ _ _ _ _ _ us hl => match us, hl with | [_, _], _ => rfl
theorem h_law_greatest (T : Tx K mg w) : HasD K d_law_greatest := has_of T.c.a 44 rfl
theorem k_law_greatest (T : Tx K mg w) : PySem.W.keepIn K (.ref (d_law_greatest.at_ K)) = true := (h_law_greatest T).kp
theorem b_law_greatest (T : Tx K mg w) : Binds K (fdOf K (d_law_greatest.at_ K)) ps_law_greatest [] := FunD.bindsN (ps := ps_law_greatest) (h_law_greatest T) fun _ _ _ _ _ _ us hl => match us, hl with | [_, _], _ => rfl
theorem h_law_falls (T : Tx K mg w) : HasD K d_law_falls := has_of T.c.a 45 rfl
theorem k_law_falls (T : Tx K mg w) : PySem.W.keepIn K (.ref (d_law_falls.at_ K)) = true := (h_law_falls T).kp
theorem b_law_falls (T : Tx K mg w) : Binds K (fdOf K (d_law_falls.at_ K)) ps_law_falls [] := FunD.bindsN (ps := ps_law_falls) (h_law_falls T) fun _ _ _ _ _ _ us hl => match us, hl with | [_, _], _ => rfl
theorem h_law_due (T : Tx K mg w) : HasD K d_law_due := has_of T.c.a 46 rfl
theorem k_law_due (T : Tx K mg w) : PySem.W.keepIn K (.ref (d_law_due.at_ K)) = true := (h_law_due T).kp
theorem b_law_due (T : Tx K mg w) : Binds K (fdOf K (d_law_due.at_ K)) ps_law_due [] := FunD.bindsN (ps := ps_law_due) (h_law_due T) fun _ _ _ _ _ _ us hl => match us, hl with | [_, _, _], _ => rfl
theorem h_law_is_due (T : Tx K mg w) : HasD K d_law_is_due := has_of T.c.a 47 rfl
theorem k_law_is_due (T : Tx K mg w) : PySem.W.keepIn K (.ref (d_law_is_due.at_ K)) = true := (h_law_is_due T).kp
theorem b_law_is_due (T : Tx K mg w) : Binds K (fdOf K (d_law_is_due.at_ K)) ps_law_is_due [] := FunD.bindsN (ps := ps_law_is_due) (h_law_is_due T) fun _ _ _ _ _ _ us hl => match us, hl with | [_, _, _, _, _], _ => rfl
theorem h_law_asked (T : Tx K mg w) : HasD K d_law_asked := has_of T.c.a 48 rfl
theorem k_law_asked (T : Tx K mg w) : PySem.W.keepIn K (.ref (d_law_asked.at_ K)) = true := (h_law_asked T).kp
theorem b_law_asked (T : Tx K mg w) : Binds K (fdOf K (d_law_asked.at_ K)) ps_law_asked [] := FunD.bindsN (ps := ps_law_asked) (h_law_asked T) fun _ _ _ _ _ _ us hl => match us, hl with | [_, _, _, _, _, _], _ => rfl
theorem h_law_too_many (T : Tx K mg w) : HasD K d_law_too_many := has_of T.c.a 49 rfl
theorem k_law_too_many (T : Tx K mg w) : PySem.W.keepIn K (.ref (d_law_too_many.at_ K)) = true := (h_law_too_many T).kp
theorem b_law_too_many (T : Tx K mg w) : Binds K (fdOf K (d_law_too_many.at_ K)) ps_law_too_many [] := FunD.bindsN (ps := ps_law_too_many) (h_law_too_many T) fun _ _ _ _ _ _ us hl => match us, hl with | [_, _, _], _ => rfl
theorem h_law_refuses (T : Tx K mg w) : HasD K d_law_refuses := has_of T.c.a 50 rfl
theorem k_law_refuses (T : Tx K mg w) : PySem.W.keepIn K (.ref (d_law_refuses.at_ K)) = true := (h_law_refuses T).kp
theorem b_law_refuses (T : Tx K mg w) : Binds K (fdOf K (d_law_refuses.at_ K)) ps_law_refuses [] := FunD.bindsN (ps := ps_law_refuses) (h_law_refuses T) fun _ _ _ _ _ _ us hl => match us, hl with | [_, _, _], _ => rfl
theorem h_law (T : Tx K mg w) : HasD K d_law := has_of T.c.a 51 rfl
theorem k_law (T : Tx K mg w) : PySem.W.keepIn K (.ref (d_law.at_ K)) = true := (h_law T).kp
theorem b_law (T : Tx K mg w) : Binds K (fdOf K (d_law.at_ K)) ps_law [] := FunD.bindsN (ps := ps_law) (h_law T) fun _ _ _ _ _ _ us hl => match us, hl with | [_], _ => rfl
theorem exc_InvalidRow (T : Tx K mg w) : ExcC K (He.ga K "InvalidRow") := excB_ok (x_InvalidRow T).xf (exAt T 54 rfl)
theorem exc_InvalidJump (T : Tx K mg w) : ExcC K (He.ga K "InvalidJump") := excB_ok (x_InvalidJump T).xf (exAt T 55 rfl)
theorem exc_InvalidCard (T : Tx K mg w) : ExcC K (He.ga K "InvalidCard") := excB_ok (x_InvalidCard T).xf (exAt T 56 rfl)
theorem exc_InvalidWeight (T : Tx K mg w) : ExcC K (He.ga K "InvalidWeight") := excB_ok (x_InvalidWeight T).xf (exAt T 57 rfl)
theorem exc_TooMany (T : Tx K mg w) : ExcC K (He.ga K "TooMany") := excB_ok (x_TooMany T).xf (exAt T 58 rfl)
theorem cv_MOST (T : Tx K mg w) : ∃ u, ClX.CVal K (He.ga K "Card") (.type "type") "MOST_JUMPS" (.int 12) u := cvI_ok (exAt T 59 rfl)
theorem exm_TooMany (T : Tx K mg w) : PySem.W.exmOne K (.ref (He.ga K "TooMany")) (.ref (He.ga K "TooMany")) = some true := of_decide_eq_true (exAt T 60 rfl)
theorem exm_InvalidWeight (T : Tx K mg w) : PySem.W.exmOne K (.ref (He.ga K "InvalidWeight")) (.ref (He.ga K "InvalidWeight")) = some true := of_decide_eq_true (exAt T 61 rfl)

end
theorem kc_2 : Str.ofString "#.:ABCDabcd" = S [35, 46, 58, 65, 66, 67, 68, 97, 98, 99, 100] := by decide +kernel
theorem kc_3 : Str.ofString "abcd" = S [97, 98, 99, 100] := by decide +kernel
theorem kc_8 : Str.ofString "0123456789" = S [48, 49, 50, 51, 52, 53, 54, 55, 56, 57] := by decide +kernel
theorem kc_10 : Str.ofString "right" = S [114, 105, 103, 104, 116] := by decide +kernel
theorem kc_11 : Str.ofString "left" = S [108, 101, 102, 116] := by decide +kernel
theorem kc_12 : Str.ofString "both" = S [98, 111, 116, 104] := by decide +kernel
theorem kc_13 : Str.ofString ">" = S [62] := by decide +kernel
theorem kc_14 : Str.ofString "<" = S [60] := by decide +kernel
theorem kc_15 : Str.ofString "=" = S [61] := by decide +kernel
theorem kc_16 : Str.ofString "" = S [] := by decide +kernel
theorem kc_17 : Str.ofString "." = S [46] := by decide +kernel
theorem kc_18 : Str.ofString " " = S [32] := by decide +kernel
theorem kc_19 : Str.ofString "#" = S [35] := by decide +kernel
theorem kc_20 : Str.ofString "period" = S [112, 101, 114, 105, 111, 100] := by decide +kernel
theorem kc_21 : Str.ofString "table" = S [116, 97, 98, 108, 101] := by decide +kernel
theorem kc_22 : Str.ofString "modulus" = S [109, 111, 100, 117, 108, 117, 115] := by decide +kernel
theorem kc_23 : Str.ofString ":" = S [58] := by decide +kernel
theorem kc_24 : Str.ofString "a sign is not allowed in this row: " = S [97, 32, 115, 105, 103, 110, 32, 105, 115, 32, 110, 111, 116, 32, 97, 108, 108, 111, 119, 101, 100, 32, 105, 110, 32, 116, 104, 105, 115, 32, 114, 111, 119, 58, 32] := by decide +kernel
theorem kc_25 : Str.ofString "not a jump: " = S [110, 111, 116, 32, 97, 32, 106, 117, 109, 112, 58, 32] := by decide +kernel
theorem kc_26 : Str.ofString "wrong part of a card: " = S [119, 114, 111, 110, 103, 32, 112, 97, 114, 116, 32, 111, 102, 32, 97, 32, 99, 97, 114, 100, 58, 32] := by decide +kernel
theorem kc_27 : Str.ofString "more than the limit: " = S [109, 111, 114, 101, 32, 116, 104, 97, 110, 32, 116, 104, 101, 32, 108, 105, 109, 105, 116, 58, 32] := by decide +kernel
theorem kc_28 : Str.ofString "wrong part of a weight: " = S [119, 114, 111, 110, 103, 32, 112, 97, 114, 116, 32, 111, 102, 32, 97, 32, 119, 101, 105, 103, 104, 116, 58, 32] := by decide +kernel
theorem kc_29 : Str.ofString "0" = S [48] := by decide +kernel
theorem kc_30 : Str.ofString "worths" = S [119, 111, 114, 116, 104, 115] := by decide +kernel
theorem kc_31 : Str.ofString "jumps" = S [106, 117, 109, 112, 115] := by decide +kernel
theorem kc_32 : Str.ofString "text" = S [116, 101, 120, 116] := by decide +kernel
theorem kc_33 : Str.ofString "ABCD" = S [65, 66, 67, 68] := by decide +kernel
theorem kc_34 : Str.ofString ".abcd" = S [46, 97, 98, 99, 100] := by decide +kernel
end K57
namespace K57
open PySem PySem.Spec PyProof.Rows L2 Lc Evl
section
variable {P : Program} {w : World} {K : PySem.W.Frag} {mg : Str → Option Value} {base : Heap}
/-! ### the draws -/
/-! ### cells and boxes -/
def cellV (ns : List Int) (at_ : Int) : Int := if at_ < (if (ns.length : Int) < 63 then (ns.length : Int) else 63) then ns.getD at_.toNat 0 else ((ns.take 1).sum % 1000003 * 7919 + at_ * 15485863 + 29)
theorem cut1 (ns : List Int) : cutV (ns.map V.int) none (some 1) = (ns.take 1).map V.int := by
  unfold cutV
  rw [HT.sIx_none, show (1 : Int) = ((1 : Nat) : Int) from rfl, HT.sIx_nat, List.drop_zero, Nat.sub_zero, List.length_map, ← List.map_take]
  cases ns with
  | nil => rfl
  | cons x r =>
    rw [Nat.min_eq_left (by simp)]
def boxV (ns : List Int) (at_ : Int) : List V := [.int (if decide ((1000000000000000000 : Int) ≤ cellV ns at_) then cellV ns at_ else 0), .int 0, .int ((cellV ns at_ + at_ * 104729) % 2147483647)]
/-! ### the law's own small defs -/
theorem image_eq (l : List Nat) : (List.range l.length).map (fun (i : Nat) => l.getD ((l.length : Int) - 1 - (i : Int)).toNat 0) = l.reverse := by
  apply List.ext_getElem
  · simp
  · intro i h1 h2
    rw [List.length_map, List.length_range] at h1
    rw [List.getElem_map, List.getElem_range, List.getElem_reverse, List.getD_eq_getElem?_getD]
    have e : ((l.length : Int) - 1 - (i : Int)).toNat = l.length - 1 - i := by omega
    rw [e, List.getElem?_eq_getElem (by omega)]
    rfl
end
end K57
namespace K57
open PySem PySem.Spec PyProof.Rows L2 Lc Evl
section
variable {P : Program} {w : World} {K : PySem.W.Frag} {mg : Str → Option Value} {base : Heap}
/-! ### the error class -/
abbrev cI (K : PySem.W.Frag) : Addr := He.ga K "InvalidRow"
abbrev cL (K : PySem.W.Frag) : Addr := He.ga K "LeapError"
abbrev fI (K : PySem.W.Frag) : Addr := He.ma K (He.ga K "InvalidRow") "__init__"
/-- what is raised: the class, the error's dict -/
def Bad (K : PySem.W.Frag) (H : Hp) (E : XK) (z : Str) : Prop := ∀ d H', H d = none → Ex H H' → H' d = some (.xd [(("row" : Str), .str z)]) → E (.ref (cI K)) (some d) H'
def sp_InvalidRow_init (K : PySem.W.Frag) : Sp := fun vs H Q _ => ∃ (a : Addr) (l : List Nat), vs = [.ref a, .str (S l)] ∧ l.length ≤ 1000 ∧ (∀ c ∈ l, c < 128) ∧ H a = some (exo a (cI K) none) ∧
  ∀ dx, H dx = none → dx ≠ a → Q .non (upd (upd H dx (exd dx [(("row" : Str), .str (S l))])) a (exo a (cI K) (some dx)))
theorem reprS_len {l : List Nat} (h : l.length ≤ 1000) (hc : ∀ c ∈ l, c < 128) : (reprText (S l)).length ≤ 20000 := by
  have h1 := PySem.StrLaws.reprText_len (S l) fun c hm => Nat.lt_trans (hc c hm) (by decide)
  rw [S_len] at h1
  omega
theorem len_app (a b : Str) : (a ++ b).length = a.length + b.length := by
  rw [TL.len_tl, TL.len_tl, TL.len_tl, TL.tl_append, List.length_append]
theorem ok_InvalidRow_init (T : Tx K mg w) : OkD P w K mg base 1 d_InvalidRow_init ps_InvalidRow_init (sp_InvalidRow_init K) := by
  refine (h_InvalidRow_init T).ok sc_InvalidRow_init (fun vs H Q E h => ?_) (fun cdv A outer s H vs Q E hr h => ⟨_,
      (pss_cons (ps_expr (pe_ownInit (CL := cL K) (by rfl) (m_LeapError T) (by decide) (x_InvalidRow T).sp (x_InvalidRow T).rd (x_InvalidRow T).vV (pa_cons (pv 0) (pa_cons (pe_joined (.cons pe_str (.cons (pe_fmtR (pv 1)) .nil))) pa_nil))))
      (pss_one (ps_ost (pv 0) (pv 1)))), ?_⟩)
  · obtain ⟨a, l, rfl, _⟩ := h
    rfl
  · obtain ⟨a, l, rfl, hl, hc, ha, q⟩ := h
    have hrp := reprS_len hl hc
    refine ⟨_, rfl, ?_⟩
    refine ⟨_, rfl, by decide +kernel, ?_⟩
    refine ⟨_, rfl, .inl ⟨_, rfl, sz_of (by omega), ?_⟩⟩
    refine ⟨_, rfl, ?_, ?_⟩
    · rw [len_app, len_app]
      have h1 : (Str.empty).length = 0 := by decide +kernel
      have h2 : (Str.ofString "a sign is not allowed in this row: ").length ≤ 100 := by decide +kernel
      exact sz_of (by omega)
    refine ⟨a, cI K, _, rfl, by simp, (x_InvalidRow T).oex, ha, ?_⟩
    exact ⟨_, rfl, _, rfl, a, cI K, rfl, (x_InvalidRow T).oex, (x_InvalidRow T).no, .inl ⟨ha, fun dx hd hda => q dx hd hda⟩⟩
def sp_check_row (K : PySem.W.Frag) : Sp := fun vs H Q E => ∃ (l g : List Nat), vs = [.str (S l), .str (S g)] ∧ l.length ≤ 1000 ∧ g.length ≤ 1000 ∧ (∀ c ∈ l, c < 128) ∧ ((∀ c ∈ l, c ∈ g) → RetV .non H Q) ∧ ((¬ ∀ c ∈ l, c ∈ g) → Bad K H E (S l))
theorem b_check_row (T : Tx K mg w) : ∃ ds, Vals [V.str "#.:ABCDabcd"] ds ∧ Binds K (fdOf K (d_check_row.at_ K)) ps_check_row ds :=
  FunD.binds1 (ps := ps_check_row) (h_check_row T) 1 0 (by simp [He5.DefA.dvs, d_check_row]) rfl fun T kV doc pm an cdv ct us its hu hi => match us, its, hu, hi with
    | [_], [_], _, _ => ⟨_, rfl, rfl⟩
theorem bI (T : Tx K mg w) : Binds K (fdOf K (fI K)) ps_InvalidRow_init [] := b_InvalidRow_init T
theorem ok_check_row (T : Tx K mg w) : OkD P w K mg base 3 d_check_row ps_check_row (sp_check_row K) := by
  refine (h_check_row T).ok sc_check_row (fun vs H Q E h => ?_) (fun cdv A outer s H vs Q E hr h => ⟨_,
      (pss_one (ps_for (passes_of rfl) rfl (pi_str (pv 0)) (pg_name (i := 2) sc_check_row.nd rfl (Or.inl rfl))
        (pss_one (ps_if (pt_cmpR op_notIn_sign (pv 2) (pv 1) (by rfl))
          (pss_one (L2N.ps_raise rfl (L2N.takes_of rfl rfl rfl rfl) (pmkN_oex (x_InvalidRow T).oex (x_InvalidRow T).iC (x_InvalidRow T).tI (ok_InvalidRow_init (P := P) (w := w) (base := base) T) (hr.mono (by decide)) (bI T) .nil passN (by rfl) (m_InvalidRow T) (pa_cons (pv 0) pa_nil)))) pss_nil)))), ?_⟩)
  · obtain ⟨l, g, rfl, _⟩ := h
    rfl
  · obtain ⟨l, g, rfl, hl, hg, hc, q1, q2⟩ := h
    refine s_forS (l := l) (by repeat' (first | ((with_reducible refine ev_pow10 ?_ ?_ ?_) <;> first | rfl | decide) | (with_reducible refine fun (_ : _ = true) => ?_) | (with_reducible refine fun (_ : _ = false) => ?_) | (with_reducible exact ev_c) | ((with_reducible apply ev_var); rfl) | (with_reducible apply ev_op) | (with_reducible apply ev_un) | (with_reducible apply ev_cb) | (with_reducible apply ea_cons) | (with_reducible apply ev_andV) | (with_reducible apply ev_orV) | (with_reducible apply ev_notV) | (with_reducible apply ev_if) | (with_reducible apply eo_some) | (with_reducible apply el_lst) | (with_reducible exact ea_nil) | (with_reducible exact rv_I0) | (with_reducible exact ru_neg) | (with_reducible exact rv_ltS) | (with_reducible exact rv_inC) | (with_reducible exact rv_notInC) | (with_reducible exact rc_intI) | (with_reducible exact rc_intB) | (with_reducible exact rc_min2) | (with_reducible exact rc_isStr) | (with_reducible exact eo_none) | (with_reducible exact rv_inSS) | (with_reducible exact rv_notInSS) | (with_reducible exact rv_ltSS) | (with_reducible exact rv_eqSS) | (with_reducible exact rv_eqII) | (with_reducible exact rv_neII) | (with_reducible exact rv_neSS) | ((with_reducible refine rc_lenSS ?_); (first | assumption | omega | decide | (simp only [S_len] at *; omega))) | ((with_reducible refine rc_lenStr ?_); (first | assumption | omega | decide | (simp only [S_len] at *; omega))) | ((with_reducible refine rv_catSS ?_); (first | assumption | omega | decide | (simp only [S_len] at *; omega))) | (with_reducible exact rv_eq rfl) | (with_reducible exact rv_ne rfl) | ((with_reducible refine rc_lenS ?_); (first | assumption | omega | decide | (simp only [S_len] at *; omega))) | ((with_reducible refine rc_lenL ?_); assumption) | ((with_reducible apply rv_ixL); assumption; rfl) | ((with_reducible refine rv_catS ?_); (first | assumption | omega | decide | (simp only [S_len] at *; omega))) | ((with_reducible refine rv_I ?_); (first | (show (0 : Int) < _; (first | assumption | omega | decide | (simp only [S_len] at *; omega))) | exact .inr ⟨by decide, by decide⟩ | exact .inl ⟨by (first | assumption | omega | decide | (simp only [S_len] at *; omega)), by (first | assumption | omega | decide | (simp only [S_len] at *; omega))⟩ | exact .inr ⟨by (first | assumption | omega | decide | (simp only [S_len] at *; omega)), by (first | assumption | omega | decide | (simp only [S_len] at *; omega))⟩ | exact ⟨by decide, by decide, by decide⟩ | exact wide_div (b := 128) (by (first | assumption | omega | decide | (simp only [S_len] at *; omega))) (by (first | assumption | omega | decide | (simp only [S_len] at *; omega))) (by decide) (by decide))))) (fun i σ' H' => Ex H H' ∧ (∀ c ∈ l.take i, c ∈ g) ∧ ∃ kv, σ' = [some (.str (S l)), some (.str (S g)), kv]) (fun H1 e1 => ⟨e1, by simp, none, rfl⟩) ?_ ?_
    · rintro i c σ' H' hi ⟨e, hp, kv, rfl⟩
      refine s_if (b := !decide (c ∈ g)) (by first | ((with_reducible apply et_test); (repeat' (first | ((with_reducible refine ev_pow10 ?_ ?_ ?_) <;> first | rfl | decide) | (with_reducible refine fun (_ : _ = true) => ?_) | (with_reducible refine fun (_ : _ = false) => ?_) | (with_reducible exact ev_c) | ((with_reducible apply ev_var); rfl) | (with_reducible apply ev_op) | (with_reducible apply ev_un) | (with_reducible apply ev_cb) | (with_reducible apply ea_cons) | (with_reducible apply ev_andV) | (with_reducible apply ev_orV) | (with_reducible apply ev_notV) | (with_reducible apply ev_if) | (with_reducible apply eo_some) | (with_reducible apply el_lst) | (with_reducible exact ea_nil) | (with_reducible exact rv_I0) | (with_reducible exact ru_neg) | (with_reducible exact rv_ltS) | (with_reducible exact rv_inC) | (with_reducible exact rv_notInC) | (with_reducible exact rc_intI) | (with_reducible exact rc_intB) | (with_reducible exact rc_min2) | (with_reducible exact rc_isStr) | (with_reducible exact eo_none) | (with_reducible exact rv_inSS) | (with_reducible exact rv_notInSS) | (with_reducible exact rv_ltSS) | (with_reducible exact rv_eqSS) | (with_reducible exact rv_eqII) | (with_reducible exact rv_neII) | (with_reducible exact rv_neSS) | ((with_reducible refine rc_lenSS ?_); (first | assumption | omega | decide | (simp only [S_len] at *; omega))) | ((with_reducible refine rc_lenStr ?_); (first | assumption | omega | decide | (simp only [S_len] at *; omega))) | ((with_reducible refine rv_catSS ?_); (first | assumption | omega | decide | (simp only [S_len] at *; omega))) | (with_reducible exact rv_eq rfl) | (with_reducible exact rv_ne rfl) | ((with_reducible refine rc_lenS ?_); (first | assumption | omega | decide | (simp only [S_len] at *; omega))) | ((with_reducible refine rc_lenL ?_); assumption) | ((with_reducible apply rv_ixL); assumption; rfl) | ((with_reducible refine rv_catS ?_); (first | assumption | omega | decide | (simp only [S_len] at *; omega))) | ((with_reducible refine rv_I ?_); (first | (show (0 : Int) < _; (first | assumption | omega | decide | (simp only [S_len] at *; omega))) | exact .inr ⟨by decide, by decide⟩ | exact .inl ⟨by (first | assumption | omega | decide | (simp only [S_len] at *; omega)), by (first | assumption | omega | decide | (simp only [S_len] at *; omega))⟩ | exact .inr ⟨by (first | assumption | omega | decide | (simp only [S_len] at *; omega)), by (first | assumption | omega | decide | (simp only [S_len] at *; omega))⟩ | exact ⟨by decide, by decide, by decide⟩ | exact wide_div (b := 128) (by (first | assumption | omega | decide | (simp only [S_len] at *; omega))) (by (first | assumption | omega | decide | (simp only [S_len] at *; omega))) (by decide) (by decide)))))) | ((with_reducible apply et_B); (repeat' (first | ((with_reducible refine ev_pow10 ?_ ?_ ?_) <;> first | rfl | decide) | (with_reducible refine fun (_ : _ = true) => ?_) | (with_reducible refine fun (_ : _ = false) => ?_) | (with_reducible exact ev_c) | ((with_reducible apply ev_var); rfl) | (with_reducible apply ev_op) | (with_reducible apply ev_un) | (with_reducible apply ev_cb) | (with_reducible apply ea_cons) | (with_reducible apply ev_andV) | (with_reducible apply ev_orV) | (with_reducible apply ev_notV) | (with_reducible apply ev_if) | (with_reducible apply eo_some) | (with_reducible apply el_lst) | (with_reducible exact ea_nil) | (with_reducible exact rv_I0) | (with_reducible exact ru_neg) | (with_reducible exact rv_ltS) | (with_reducible exact rv_inC) | (with_reducible exact rv_notInC) | (with_reducible exact rc_intI) | (with_reducible exact rc_intB) | (with_reducible exact rc_min2) | (with_reducible exact rc_isStr) | (with_reducible exact eo_none) | (with_reducible exact rv_inSS) | (with_reducible exact rv_notInSS) | (with_reducible exact rv_ltSS) | (with_reducible exact rv_eqSS) | (with_reducible exact rv_eqII) | (with_reducible exact rv_neII) | (with_reducible exact rv_neSS) | ((with_reducible refine rc_lenSS ?_); (first | assumption | omega | decide | (simp only [S_len] at *; omega))) | ((with_reducible refine rc_lenStr ?_); (first | assumption | omega | decide | (simp only [S_len] at *; omega))) | ((with_reducible refine rv_catSS ?_); (first | assumption | omega | decide | (simp only [S_len] at *; omega))) | (with_reducible exact rv_eq rfl) | (with_reducible exact rv_ne rfl) | ((with_reducible refine rc_lenS ?_); (first | assumption | omega | decide | (simp only [S_len] at *; omega))) | ((with_reducible refine rc_lenL ?_); assumption) | ((with_reducible apply rv_ixL); assumption; rfl) | ((with_reducible refine rv_catS ?_); (first | assumption | omega | decide | (simp only [S_len] at *; omega))) | ((with_reducible refine rv_I ?_); (first | (show (0 : Int) < _; (first | assumption | omega | decide | (simp only [S_len] at *; omega))) | exact .inr ⟨by decide, by decide⟩ | exact .inl ⟨by (first | assumption | omega | decide | (simp only [S_len] at *; omega)), by (first | assumption | omega | decide | (simp only [S_len] at *; omega))⟩ | exact .inr ⟨by (first | assumption | omega | decide | (simp only [S_len] at *; omega)), by (first | assumption | omega | decide | (simp only [S_len] at *; omega))⟩ | exact ⟨by decide, by decide, by decide⟩ | exact wide_div (b := 128) (by (first | assumption | omega | decide | (simp only [S_len] at *; omega))) (by (first | assumption | omega | decide | (simp only [S_len] at *; omega))) (by decide) (by decide))))))) (fun hb H1 e1 => ?_) (fun hb H1 e1 => ?_)
      · have hcg : c ∉ g := by simpa using hb
        have hex := e.trans e1
        refine ⟨_, rfl, by simp, fun a ha => ⟨a, l, rfl, hl, hc, upd_same, fun dx hd hda => ?_⟩⟩
        rw [upd_ne hda] at hd
        refine ⟨rfl, dx, [(("row" : Str), .str (S l))], upd_same, by rw [upd_ne hda, upd_same], hd, ?_⟩
        refine q2 (fun hall => hcg (hall c (List.mem_of_getElem? hi))) dx _ (fresh_back hex hd) ?_ upd_same
        intro b o hb
        have hb1 := hex b o hb
        have n1 : b ≠ dx := fun z => by rw [z, hd] at hb1; cases hb1
        have n2 : b ≠ a := fun z => by rw [z, ha] at hb1; cases hb1
        rw [upd_ne n1, del_ne n2, upd_ne n2, upd_ne n1, upd_ne n2]
        exact hb1
      · have hcg : c ∈ g := by simpa using hb
        refine ⟨e.trans e1, ?_, _, rfl⟩
        intro x hx
        rw [List.take_add_one, List.mem_append] at hx
        rcases hx with hx | hx
        · exact hp x hx
        · rw [hi] at hx
          have : x = c := by simpa using hx
          rw [this]
          exact hcg
    · rintro σ' H' ⟨e, hp, kv, rfl⟩
      rw [List.take_length] at hp
      exact q1 hp H' e
/-! ### rows turned and mirrored -/
def SG : List Nat := [35, 46, 58, 65, 66, 67, 68, 97, 98, 99, 100]
theorem sg_eq : (V.str "#.:ABCDabcd" : V) = V.str (S SG) := congrArg V.str (by decide +kernel)
def Good (l : List Nat) : Prop := ∀ c ∈ l, c ∈ SG
def rot (l : List Nat) (s : Nat) : List Nat := l.drop s ++ l.take s
def tn (l : List Nat) (by_ : Int) : List Nat := if l = [] then l else rot l (by_ % (l.length : Int)).toNat
def Row (l : List Nat) : Prop := l.length ≤ 1000 ∧ ∀ c ∈ l, c < 128
def sp_mirror (K : PySem.W.Frag) : Sp := fun vs H Q E => ∃ l, vs = [.str (S l)] ∧ Row l ∧ (Good l → RetV (.str (S l.reverse)) H Q) ∧ (¬ Good l → Bad K H E (S l))
theorem ok_mirror (T : Tx K mg w) : OkD P w K mg base 4 d_mirror ps_mirror (sp_mirror K) := by
  obtain ⟨ds, vd, bd⟩ := b_check_row T
  refine (h_mirror T).ok sc_mirror (fun vs H Q E h => ?_) (fun cdv A outer s H vs Q E hr h => ⟨_,
      (pss_cons (ps_expr (pe_callSD (ok_check_row (P := P) (w := w) (base := base) T) (hr.mono (by decide)) (by rfl) (m_check_row T) (k_check_row T) bd vd (fun σ => L2N.passAt (L2N.takes_of rfl rfl rfl rfl) σ) (pa_cons (pv 0) pa_nil)))
      (pss_one (ps_ret (pe_revS (pv 0))))), ?_⟩)
  · obtain ⟨l, rfl, _⟩ := h
    rfl
  · obtain ⟨l, rfl, ⟨hl, hc⟩, q1, q2⟩ := h
    refine ⟨_, rfl, l, SG, by rw [sg_eq]; rfl, hl, by decide, hc, fun hg H1 e1 => ?_, fun hb => q2 hb⟩
    exact s_ret (ev_revS (w := S l) (ev_var rfl) (by rw [S_len]; omega)) fun H2 e2 => q1 hg H2 (e1.trans e2)
end
end K57
namespace K57
open PySem PySem.Spec PyProof.Rows L2 Lc Evl
section
variable {P : Program} {w : World} {K : PySem.W.Frag} {mg : Str → Option Value} {base : Heap}
/-! ### jumps: what is one -/
abbrev cJ (K : PySem.W.Frag) : Addr := He.ga K "InvalidJump"
abbrev cU (K : PySem.W.Frag) : Addr := He.ga K "Jump"
def BadJ (K : PySem.W.Frag) (H : Hp) (E : XK) (z : Str) : Prop := ∀ d H', H d = none → Ex H H' → H' d = some (.xd [(("text" : Str), .str z)]) → E (.ref (cJ K)) (some d) H'
theorem BadJ.ex {H H' : Hp} {E : XK} {z : Str} (h : BadJ K H E z) (e : Ex H H') : BadJ K H' E z := fun d H2 hd e2 hx => h d H2 (fresh_back e hd) (e.trans e2) hx
def sp_InvalidJump_init (K : PySem.W.Frag) : Sp := fun vs H Q _ => ∃ (a : Addr) (l : List Nat), vs = [.ref a, .str (S l)] ∧ l.length ≤ 1000 ∧ (∀ c ∈ l, c < 128) ∧ H a = some (exo a (cJ K) none) ∧
  ∀ dx, H dx = none → dx ≠ a → Q .non (upd (upd H dx (exd dx [(("text" : Str), .str (S l))])) a (exo a (cJ K) (some dx)))
theorem ok_InvalidJump_init (T : Tx K mg w) : OkD P w K mg base 1 d_InvalidJump_init ps_InvalidJump_init (sp_InvalidJump_init K) := by
  refine (h_InvalidJump_init T).ok sc_InvalidJump_init (fun vs H Q E h => ?_) (fun cdv A outer s H vs Q E hr h => ⟨_,
      (pss_cons (ps_expr (pe_ownInit (CL := cL K) (by rfl) (m_LeapError T) (by decide) (x_InvalidJump T).sp (x_InvalidJump T).rd (x_InvalidJump T).vV (pa_cons (pv 0) (pa_cons (pe_joined (.cons pe_str (.cons (pe_fmtR (pv 1)) .nil))) pa_nil))))
      (pss_one (ps_ost (pv 0) (pv 1)))), ?_⟩)
  · obtain ⟨a, l, rfl, _⟩ := h
    rfl
  · obtain ⟨a, l, rfl, hl, hc, ha, q⟩ := h
    have hrp := reprS_len hl hc
    refine ⟨_, rfl, ?_⟩
    refine ⟨_, rfl, by decide +kernel, ?_⟩
    refine ⟨_, rfl, .inl ⟨_, rfl, sz_of (by omega), ?_⟩⟩
    refine ⟨_, rfl, ?_, ?_⟩
    · rw [len_app, len_app]
      have h1 : (Str.empty).length = 0 := by decide +kernel
      have h2 : (Str.ofString "not a jump: ").length ≤ 100 := by decide +kernel
      exact sz_of (by omega)
    refine ⟨a, cJ K, _, rfl, by simp, (x_InvalidJump T).oex, ha, ?_⟩
    exact ⟨_, rfl, _, rfl, a, cJ K, rfl, (x_InvalidJump T).oex, (x_InvalidJump T).no, .inl ⟨ha, fun dx hd hda => q dx hd hda⟩⟩
def wys : List Str := ["right", "left", "both"]
def kL : List Nat := [97, 98, 99, 100]
def isJ (b a : List Nat) (z : Str) : Bool := decide (z ∈ wys) && (decide (b.length = 3 ∨ b.length = 4) && (decide (b.length = a.length) && (decide (b.getD (b.length - 1) 0 = 46) && (decide (a.getD 0 0 = 46) && ((b.take (b.length - 1)).all (fun c => decide (c ∈ kL)) && a.all (fun c => decide (c = 46) || decide (c ∈ kL)))))))
theorem way_at (T : Tx K mg w) (z : Str) : ∃ r, PySem.W.nsIn K (He.ga K "WAY_SIGNS") z = some r ∧ r.isSome = decide (z ∈ wys) := by
  by_cases h : z ∈ wys
  · rw [decide_eq_true h]
    simp only [wys, List.mem_cons, List.not_mem_nil, or_false] at h
    rcases h with rfl | rfl | rfl
    · obtain ⟨u, hu, _⟩ := He.valsB_ok (v_WAY_SIGNS T) (q := ("right", .str ">")) (by simp)
      exact ⟨_, hu, rfl⟩
    · obtain ⟨u, hu, _⟩ := He.valsB_ok (v_WAY_SIGNS T) (q := ("left", .str "<")) (by simp)
      exact ⟨_, hu, rfl⟩
    · obtain ⟨u, hu, _⟩ := He.valsB_ok (v_WAY_SIGNS T) (q := ("both", .str "=")) (by simp)
      exact ⟨_, hu, rfl⟩
  · exact ⟨none, no_WAY_SIGNS T h, (decide_eq_false h).symm⟩
theorem cut_m1 (l : List Nat) : cutS (S l) none (some (-1)) = S (l.take (l.length - 1)) := by
  unfold cutS
  rw [S_len, HT.sIx_none, tl_S]
  refine congrArg S ?_
  rw [List.drop_zero, Nat.sub_zero]
  refine congrArg (fun n => l.take n) ?_
  show (if (-1 : Int) < 0 then (-1 + (l.length : Int)).toNat else min (-1 : Int).toNat l.length) = l.length - 1
  rw [if_pos (by decide)]
  omega
theorem at_m1 {l : List Nat} (h : 0 < l.length) : atI l (-1) = some (l.getD (l.length - 1) 0) := by
  obtain ⟨r, v, rfl⟩ : ∃ r v, l = r ++ [v] := ⟨l.dropLast, l.getLast (List.length_pos_iff.mp h), (List.dropLast_concat_getLast _).symm⟩
  rw [atI_last]
  simp
theorem rv_ixM1 {H : Hp} {l : List Nat} (hl : l.length ≤ 100000) (h : 0 < l.length) : RV rIxS (.str (S l)) (.int (-1)) H (.str (S [l.getD (l.length - 1) 0])) := rv_ixS (by rw [S_len]; exact hl) (at_m1 h)
theorem rc_any {H : Hp} {p : Addr} {bs : List Bool} (h : SqL K H p (bs.map V.bl)) : RC (rAny K) [.ref p] H (.bl (bs.any id)) := fun H1 e _ q => ⟨p, bs, rfl, ex_l e h, q H1 (Ex.refl H1)⟩
theorem rc_all {H : Hp} {p : Addr} {bs : List Bool} (h : SqL K H p (bs.map V.bl)) : RC (rAll K) [.ref p] H (.bl (bs.all id)) := fun H1 e _ q => ⟨p, bs, rfl, ex_l e h, q H1 (Ex.refl H1)⟩
theorem ev_any {σ : L2.St} {H : Hp} {te : TE} {bs : List Bool} (h : EvL te σ H (bs.map V.bl)) : Ev (tCB (rAny K) (tCons te tNil)) σ H (.bl (bs.any id)) := ev_cbL h fun p H1 hp e => rc_any (sq_of hp)
theorem ev_all {σ : L2.St} {H : Hp} {te : TE} {bs : List Bool} (h : EvL te σ H (bs.map V.bl)) : Ev (tCB (rAll K) (tCons te tNil)) σ H (.bl (bs.all id)) := ev_cbL h fun p H1 hp e => rc_all (sq_of hp)
/-- the signs of a text, each asked -/
theorem el_mapS {σ : L2.St} {H : Hp} {tl te : TE} {l : List Nat} {j : Nat} {vs : List Nat} (f : Nat → Bool) (h : Ev tl σ H (.str (S l))) (hz : l.length ≤ 40000) (hw : ∀ x, wipe ((wipe σ vs).set j (some x)) vs = wipe σ vs)
    (he : ∀ (c : Nat) H1, Ex H H1 → c ∈ l → Ev te ((wipe σ vs).set j (some (.str (S [c])))) H1 (.bl (f c))) : EvL (tLc (iStr tl) (gName j) tYes te vs) σ H ((l.map f).map V.bl) := by
  have h2 := el_lcS (t := tYes) (te := te) (j := j) (vs := vs) (fun _ => true) (fun i => V.bl (f (l.getD i 0))) h hz hw (fun i c H1 _ _ => et_yes) (fun i c H1 e hi _ => by
    have e0 : l.getD i 0 = c := by
      rw [List.getD_eq_getElem?_getD, hi]
      rfl
    rw [e0]
    exact he c H1 e (List.mem_of_getElem? hi))
  rw [given_all] at h2
  have e1 : (l.map f).map V.bl = (List.range l.length).map fun i => V.bl (f (l.getD i 0)) := by
    apply List.ext_getElem
    · simp
    · intro i h1 h2
      simp at h1
      simp [h1]
  rw [e1]
  exact h2
theorem sg1 {c a : Nat} : decide ([c] = [a]) = decide (c = a) := by simp
theorem b3t {A B C D : Bool} (h : (!A || (!B || !C)) = true) : (A && (B && (C && D))) = false := by
  cases A <;> cases B <;> cases C <;> simp_all
theorem b3f {A B C : Bool} (h : (!A || (!B || !C)) = false) : A = true ∧ B = true ∧ C = true := by
  cases A <;> cases B <;> cases C <;> simp_all
theorem b2t {A B D : Bool} (h : (!A || !B) = true) : (A && (B && D)) = false := by
  cases A <;> cases B <;> simp_all
theorem b2f {A B : Bool} (h : (!A || !B) = false) : A = true ∧ B = true := by
  cases A <;> cases B <;> simp_all
theorem in34 (n : Nat) : inV (.int (n : Int)) [.int 3, .int 4] = decide (n = 3 ∨ n = 4) := by
  rw [Bool.eq_iff_iff]
  simp [inV, eqV]
  omega
theorem any_no {l : List Nat} {f : Nat → Bool} : (l.map fun c => !f c).any id = !l.all f := by
  induction l with
  | nil => rfl
  | cons x r ih =>
    rw [List.map_cons, List.any_cons, ih, List.all_cons]
    cases f x <;> simp
theorem all_id {l : List Nat} {f : Nat → Bool} : (l.map f).all id = l.all f := by
  induction l with
  | nil => rfl
  | cons x r ih =>
    rw [List.map_cons, List.all_cons, ih, List.all_cons]
    rfl
def sp_is_jump : Sp := fun vs H Q _ => ∃ (b a : List Nat) (z : Str), vs = [.str (S b), .str (S a), .str z] ∧ b.length ≤ 1000 ∧ a.length ≤ 1000 ∧ RetV (.bl (isJ b a z)) H Q
theorem ok_is_jump (T : Tx K mg w) : OkD P w K mg base 1 d_is_jump ps_is_jump sp_is_jump := by
  refine (h_is_jump T).ok sc_is_jump (fun vs H Q E h => ?_) (fun cdv A outer s H vs Q E hr h => ⟨_,
      (pss_cons (ps_if (PW.pt (pw_or (pt_cmpR (op_notIn_kd (t_WAY_SIGNS T).choose_spec.choose_spec) (pv 2) (pe_glob (v := .ref (He.ga K "WAY_SIGNS")) rfl (m_WAY_SIGNS T) rfl) (by rfl)) (pw_or (pt_cmpR op_notIn_seq (pe_callB call_len_str (by rfl) (m_len T) (by decide +kernel) (pa_cons (pv 0) pa_nil)) (pe_tup (pa_cons pe_int (pa_cons pe_int pa_nil))) (by rfl)) (pw_or1 (pt_cmpR op_ne (pe_callB call_len_str (by rfl) (m_len T) (by decide +kernel) (pa_cons (pv 0) pa_nil)) (pe_callB call_len_str (by rfl) (m_len T) (by decide +kernel) (pa_cons (pv 1) pa_nil)) (nomark _)))))) (pss_one (ps_ret pe_bl)) pss_nil)
      (pss_cons (ps_if (PW.pt (pw_or (pt_cmpR op_ne (pe_ix ix_str (pv 0) (pe_un un_neg pe_int) (fun _ _ => rfl)) pe_str (nomark _)) (pw_or1 (pt_cmpR op_ne (pe_ix ix_str (pv 1) pe_int (fun _ _ => rfl)) pe_str (nomark _))))) (pss_one (ps_ret pe_bl)) pss_nil)
      (pss_cons (ps_if (pt_val (pe_callB (cr_any rfl) (by rfl) (m_any T) (by decide +kernel) (pa_cons (pe_lc (own := [("sign", 3)]) (g := gName 3) rfl sc_is_jump.nd (pi_str (pe_slice sl_str (pv 0) po_none (po_some (pe_un un_neg pe_int)))) (blkOk_by (own := [("sign", 3)]) (N := ns_is_jump) (sc := (defScope st_is_jump)) (by decide +kernel)) (fun _ _ _ _ _ => pg_name (i := 3) sc_is_jump.nd rfl (Or.inl rfl)) (fun _ _ _ _ _ => pts_nil) (fun _ _ _ _ _ => (pe_cmpR op_notIn_sign (pv 3) (pe_glob (v := .str "abcd") rfl (m_KINDS T).choose_spec ⟨_, rfl⟩) (by rfl)))) pa_nil))) (pss_one (ps_ret pe_bl)) pss_nil)
      (pss_one (ps_ret (pe_callB (cr_all rfl) (by rfl) (m_all T) (by decide +kernel) (pa_cons (pe_lc (own := [("sign", 3)]) (g := gName 3) rfl sc_is_jump.nd (pi_str (pv 1)) (blkOk_by (own := [("sign", 3)]) (N := ns_is_jump) (sc := (defScope st_is_jump)) (by decide +kernel)) (fun _ _ _ _ _ => pg_name (i := 3) sc_is_jump.nd rfl (Or.inl rfl)) (fun _ _ _ _ _ => pts_nil) (fun _ _ _ _ _ => (pe_or (pe_cmpR op_eq (pv 3) pe_str (nomark _)) (pe_one (pe_cmpR op_in_sign (pv 3) (pe_glob (v := .str "abcd") rfl (m_KINDS T).choose_spec ⟨_, rfl⟩) (by rfl)))))) pa_nil))))))), ?_⟩)
  · obtain ⟨b, a, z, rfl, _⟩ := h
    rfl
  · obtain ⟨b, a, z, rfl, hb, ha, q⟩ := h
    obtain ⟨r, hr1, hr2⟩ := way_at T z
    simp only [kc_2, kc_3, kc_8, kc_10, kc_11, kc_12, kc_13, kc_14, kc_15, kc_16, kc_17, kc_18, kc_19, kc_20, kc_21, kc_22, kc_23, kc_24, kc_25, kc_26, kc_27, kc_28, kc_29, kc_30, kc_31, kc_32, kc_33, kc_34]
    have e1 : decide ((b.length : Int) = (a.length : Int)) = decide (b.length = a.length) := decide_eq_decide.mpr ⟨fun h => by omega, fun h => by omega⟩
    refine q_when (b := (!r.isSome || (!inV (.int (b.length : Int)) [.int 3, .int 4] || !decide ((b.length : Int) = (a.length : Int))))) (et_or (et_test (ev_op (by exact ev_var rfl) ev_c (rv_val fun H1 e Q q => ⟨z, r, rfl, rfl, hr1, q⟩))) fun _ => et_or (et_test (ev_niU (by repeat' (first | ((with_reducible refine ev_pow10 ?_ ?_ ?_) <;> first | rfl | decide) | (with_reducible refine fun (_ : _ = true) => ?_) | (with_reducible refine fun (_ : _ = false) => ?_) | (with_reducible exact ev_c) | ((with_reducible apply ev_var); rfl) | (with_reducible apply ev_op) | (with_reducible apply ev_un) | (with_reducible apply ev_cb) | (with_reducible apply ea_cons) | (with_reducible apply ev_andV) | (with_reducible apply ev_orV) | (with_reducible apply ev_notV) | (with_reducible apply ev_if) | (with_reducible apply eo_some) | (with_reducible apply el_lst) | (with_reducible exact ea_nil) | (with_reducible exact rv_I0) | (with_reducible exact ru_neg) | (with_reducible exact rv_ltS) | (with_reducible exact rv_inC) | (with_reducible exact rv_notInC) | (with_reducible exact rc_intI) | (with_reducible exact rc_intB) | (with_reducible exact rc_min2) | (with_reducible exact rc_isStr) | (with_reducible exact eo_none) | (with_reducible exact rv_inSS) | (with_reducible exact rv_notInSS) | (with_reducible exact rv_ltSS) | (with_reducible exact rv_eqSS) | (with_reducible exact rv_eqII) | (with_reducible exact rv_neII) | (with_reducible exact rv_neSS) | ((with_reducible refine rc_lenSS ?_); (first | assumption | omega | decide | (simp only [S_len] at *; omega))) | ((with_reducible refine rc_lenStr ?_); (first | assumption | omega | decide | (simp only [S_len] at *; omega))) | ((with_reducible refine rv_catSS ?_); (first | assumption | omega | decide | (simp only [S_len] at *; omega))) | (with_reducible exact rv_eq rfl) | (with_reducible exact rv_ne rfl) | ((with_reducible refine rc_lenS ?_); (first | assumption | omega | decide | (simp only [S_len] at *; omega))) | ((with_reducible refine rc_lenL ?_); assumption) | ((with_reducible apply rv_ixL); assumption; rfl) | ((with_reducible refine rv_catS ?_); (first | assumption | omega | decide | (simp only [S_len] at *; omega))) | ((with_reducible refine rv_I ?_); (first | (show (0 : Int) < _; (first | assumption | omega | decide | (simp only [S_len] at *; omega))) | exact .inr ⟨by decide, by decide⟩ | exact .inl ⟨by (first | assumption | omega | decide | (simp only [S_len] at *; omega)), by (first | assumption | omega | decide | (simp only [S_len] at *; omega))⟩ | exact .inr ⟨by (first | assumption | omega | decide | (simp only [S_len] at *; omega)), by (first | assumption | omega | decide | (simp only [S_len] at *; omega))⟩ | exact ⟨by decide, by decide, by decide⟩ | exact wide_div (b := 128) (by (first | assumption | omega | decide | (simp only [S_len] at *; omega))) (by (first | assumption | omega | decide | (simp only [S_len] at *; omega))) (by decide) (by decide))))) (eu_tup (ea_cons ev_c (ea_cons ev_c ea_nil)) (by decide)) rfl rfl)) fun _ => et_test (by repeat' (first | ((with_reducible refine ev_pow10 ?_ ?_ ?_) <;> first | rfl | decide) | (with_reducible refine fun (_ : _ = true) => ?_) | (with_reducible refine fun (_ : _ = false) => ?_) | (with_reducible exact ev_c) | ((with_reducible apply ev_var); rfl) | (with_reducible apply ev_op) | (with_reducible apply ev_un) | (with_reducible apply ev_cb) | (with_reducible apply ea_cons) | (with_reducible apply ev_andV) | (with_reducible apply ev_orV) | (with_reducible apply ev_notV) | (with_reducible apply ev_if) | (with_reducible apply eo_some) | (with_reducible apply el_lst) | (with_reducible exact ea_nil) | (with_reducible exact rv_I0) | (with_reducible exact ru_neg) | (with_reducible exact rv_ltS) | (with_reducible exact rv_inC) | (with_reducible exact rv_notInC) | (with_reducible exact rc_intI) | (with_reducible exact rc_intB) | (with_reducible exact rc_min2) | (with_reducible exact rc_isStr) | (with_reducible exact eo_none) | (with_reducible exact rv_inSS) | (with_reducible exact rv_notInSS) | (with_reducible exact rv_ltSS) | (with_reducible exact rv_eqSS) | (with_reducible exact rv_eqII) | (with_reducible exact rv_neII) | (with_reducible exact rv_neSS) | ((with_reducible refine rc_lenSS ?_); (first | assumption | omega | decide | (simp only [S_len] at *; omega))) | ((with_reducible refine rc_lenStr ?_); (first | assumption | omega | decide | (simp only [S_len] at *; omega))) | ((with_reducible refine rv_catSS ?_); (first | assumption | omega | decide | (simp only [S_len] at *; omega))) | (with_reducible exact rv_eq rfl) | (with_reducible exact rv_ne rfl) | ((with_reducible refine rc_lenS ?_); (first | assumption | omega | decide | (simp only [S_len] at *; omega))) | ((with_reducible refine rc_lenL ?_); assumption) | ((with_reducible apply rv_ixL); assumption; rfl) | ((with_reducible refine rv_catS ?_); (first | assumption | omega | decide | (simp only [S_len] at *; omega))) | ((with_reducible refine rv_I ?_); (first | (show (0 : Int) < _; (first | assumption | omega | decide | (simp only [S_len] at *; omega))) | exact .inr ⟨by decide, by decide⟩ | exact .inl ⟨by (first | assumption | omega | decide | (simp only [S_len] at *; omega)), by (first | assumption | omega | decide | (simp only [S_len] at *; omega))⟩ | exact .inr ⟨by (first | assumption | omega | decide | (simp only [S_len] at *; omega)), by (first | assumption | omega | decide | (simp only [S_len] at *; omega))⟩ | exact ⟨by decide, by decide, by decide⟩ | exact wide_div (b := 128) (by (first | assumption | omega | decide | (simp only [S_len] at *; omega))) (by (first | assumption | omega | decide | (simp only [S_len] at *; omega))) (by decide) (by decide)))))) (fun hc H1 e1' => ?_) (fun hc H1 e1' => ?_)
    · rw [hr2, in34, e1] at hc
      refine s_ret ev_c fun H2 e2 => ?_
      have q2 := q H2 (e1'.trans e2)
      unfold isJ at q2
      rw [b3t hc] at q2
      exact q2
    · rw [hr2, in34, e1] at hc
      obtain ⟨c1, c2, c3⟩ := b3f hc
      have c2' := of_decide_eq_true c2
      have c3' := of_decide_eq_true c3
      refine q_when (b := (!decide ([b.getD (b.length - 1) 0] = [46]) || !decide ([a.getD 0 0] = [46]))) (et_or (et_test (ev_op (ev_op (by exact ev_var rfl) (ev_un ev_c ru_neg) (rv_ixM1 (by omega) (by omega))) ev_c rv_neSS)) fun _ => et_test (ev_op (ev_op (by exact ev_var rfl) ev_c (rv_ixSS (i := 0) (by omega) (by decide) (by omega))) ev_c rv_neSS)) (fun hc H2 e2 => ?_) (fun hc H2 e2 => ?_)
      · rw [sg1, sg1] at hc
        refine s_ret ev_c fun H3 e3 => ?_
        have q2 := q H3 ((e1'.trans e2).trans e3)
        unfold isJ at q2
        rw [c1, c2, c3, b2t hc] at q2
        exact q2
      · rw [sg1, sg1] at hc
        obtain ⟨c4, c5⟩ := b2f hc
        have hsl : Ev (tSl rSlS (tVar 0) tNoPart (tPart (tUn (rU fun i => V.int (-i)) (tC (V.int 1))))) (L2.start ns_is_jump [V.str (S b), V.str (S a), V.str z]) H2 (.str (S (b.take (b.length - 1)))) := by
          have h := ev_slS (σ := L2.start ns_is_jump [V.str (S b), V.str (S a), V.str z]) (H := H2) (te := tVar 0) (tl := tNoPart) (th := tPart (tUn (rU fun i => V.int (-i)) (tC (V.int 1)))) (w := S b) (lo := none) (hi := some (-1)) (ev_var rfl) eo_none (eo_some (ev_un ev_c ru_neg)) (by rw [S_len]; omega)
          rw [cut_m1] at h
          exact h
        refine q_when (b := ((b.take (b.length - 1)).map fun c => !decide (c ∈ kL)).any id) (et_B (ev_any (el_mapS (fun c => !decide (c ∈ kL)) hsl (by rw [List.length_take]; omega) (fun x => rfl) fun c H1 e hc => ev_op (ev_var rfl) ev_c rv_notInSS))) (fun hc H3 e3 => ?_) (fun hc H3 e3 => ?_)
        · rw [any_no] at hc
          refine s_ret ev_c fun H4 e4 => ?_
          have q2 := q H4 (((e1'.trans e2).trans e3).trans e4)
          unfold isJ at q2
          rw [c1, c2, c3, c4, c5, (by simpa using hc : (b.take (b.length - 1)).all (fun c => decide (c ∈ kL)) = false)] at q2
          exact q2
        · rw [any_no] at hc
          refine s_ret (v := .bl ((a.map fun c => (decide ([c] = [46]) || decide (c ∈ kL))).all id)) (ev_all (el_mapS (fun c => (decide ([c] = [46]) || decide (c ∈ kL))) (by exact ev_var rfl) (by omega) (fun x => rfl) fun c H1 e hc => ev_orV (ev_op (ev_var rfl) ev_c rv_eqSS) fun _ => ev_op (ev_var rfl) ev_c rv_inSS)) fun H4 e4 => ?_
          have q2 := q H4 (((e1'.trans e2).trans e3).trans e4)
          unfold isJ at q2
          rw [c1, c2, c3, c4, c5, (by simpa using hc : (b.take (b.length - 1)).all (fun c => decide (c ∈ kL)) = true)] at q2
          rw [all_id]
          simp only [sg1]
          exact q2
end
end K57
namespace K57
open PySem PySem.Spec PyProof.Rows L2 Lc Evl
section
variable {P : Program} {w : World} {K : PySem.W.Frag} {mg : Str → Option Value} {base : Heap}
/-! ### jumps as objects -/
def JF (b a : List Nat) (z : Str) : List (Str × V) := [("before", .str (S b)), ("after", .str (S a)), ("ways", .str z)]
def IsJ (K : PySem.W.Frag) (H : Hp) (j : Addr) (b a : List Nat) (z : Str) : Prop := ∃ dx, H j = some (.ins (cU K) dx (JF b a z))
theorem IsJ.ex {H H' : Hp} {j : Addr} {b a : List Nat} {z : Str} (h : IsJ K H j b a z) (e : Ex H H') : IsJ K H' j b a z := by
  obtain ⟨dx, h⟩ := h
  exact ⟨dx, e _ _ h⟩
def sp_Jump_init (K : PySem.W.Frag) : Sp := fun vs H Q E => ∃ (j dx : Addr) (b a : List Nat) (z : Str), vs = [.ref j, .str (S b), .str (S a), .str z] ∧ b.length ≤ 1000 ∧ a.length ≤ 1000 ∧ (∀ c ∈ b, c < 128) ∧ H j = some (.ins (cU K) dx []) ∧
  (isJ b a z = true → ∀ H', ExB j H H' → IsJ K H' j b a z → Q .non H') ∧ (isJ b a z = false → BadJ K H E (S b))
theorem ev_isj {σ : L2.St} {H : Hp} {t1 t2 t3 : TE} {b a : List Nat} {z : Str} (h1 : Ev t1 σ H (.str (S b))) (h2 : Ev t2 σ H (.str (S a))) (h3 : Ev t3 σ H (.str z)) (hb : b.length ≤ 1000) (ha : a.length ≤ 1000) :
    Ev (tCall sp_is_jump [] E0 (tCons t1 (tCons t2 (tCons t3 tNil)))) σ H (.bl (isJ b a z)) := ev_call (ea_cons h1 (ea_cons h2 (ea_cons h3 ea_nil))) fun H1 e1 Q q E => ⟨b, a, z, rfl, hb, ha, q⟩
theorem not_t {b : Bool} (h : (!b) = true) : b = false := by simpa using h
theorem not_f {b : Bool} (h : (!b) = false) : b = true := by simpa using h
theorem ok_Jump_init (T : Tx K mg w) : OkD P w K mg base 3 d_Jump_init ps_Jump_init (sp_Jump_init K) := by
  refine (h_Jump_init T).ok sc_Jump_init (fun vs H Q E h => ?_) (fun cdv A outer s H vs Q E hr h => ⟨_,
      (pss_cons (ps_if (pt_not (pt_val (pe_call (ok_is_jump (P := P) (w := w) (base := base) T) (hr.mono (by decide)) (by rfl) (m_is_jump T) (k_is_jump T) (b_is_jump T) .nil passN (pa_cons (pv 1) (pa_cons (pv 2) (pa_cons (pv 3) pa_nil)))))) (pss_one (L2N.ps_raise rfl (L2N.takes_of rfl rfl rfl rfl) (pmkN_oex (x_InvalidJump T).oex (x_InvalidJump T).iC (x_InvalidJump T).tI (ok_InvalidJump_init (P := P) (w := w) (base := base) T) (hr.mono (by decide)) (b_InvalidJump_init T) .nil passN (by rfl) (m_InvalidJump T) (pa_cons (pv 1) pa_nil)))) pss_nil)
      (pss_cons (ps_fld (pv 0) (pv 1) rfl)
      (pss_cons (ps_fld (pv 0) (pv 2) rfl)
      (pss_one (ps_fld (pv 0) (pv 3) rfl))))), ?_⟩)
  · obtain ⟨j, dx, b, a, z, rfl, _⟩ := h
    rfl
  · obtain ⟨j, dx, b, a, z, rfl, hb, ha, hc, hj, q1, q2⟩ := h
    refine q_when (b := !isJ b a z) (et_not (et_test (ev_isj (by exact ev_var rfl) (by exact ev_var rfl) (by exact ev_var rfl) hb ha))) (fun hc1 H1 e1 => ?_) (fun hc1 H1 e1 => ?_)
    · refine ⟨_, rfl, by simp, fun x hx => ⟨x, b, rfl, hb, hc, upd_same, fun dy hd hda => ?_⟩⟩
      rw [upd_ne hda] at hd
      refine ⟨rfl, dy, [(("text" : Str), .str (S b))], upd_same, by rw [upd_ne hda, upd_same], hd, ?_⟩
      refine q2 (not_t hc1) dy _ (fresh_back e1 hd) ?_ upd_same
      intro p o hp
      have hp1 := e1 p o hp
      have n1 : p ≠ dy := fun z => by rw [z, hd] at hp1; cases hp1
      have n2 : p ≠ x := fun z => by rw [z, hx] at hp1; cases hp1
      rw [upd_ne n1, del_ne n2, upd_ne n2, upd_ne n1, upd_ne n2]
      exact hp1
    · refine ⟨_, rfl, _, rfl, j, cU K, dx, _, rfl, e1 _ _ hj, c_Jump T, n_Jump_before T, by decide, ?_⟩
      refine ⟨_, rfl, _, rfl, j, cU K, dx, _, rfl, upd_same, c_Jump T, n_Jump_after T, by simp [putF], ?_⟩
      refine ⟨_, rfl, _, rfl, j, cU K, dx, _, rfl, upd_same, c_Jump T, n_Jump_ways T, by simp [putF]; split <;> simp, ?_⟩
      refine q1 (not_f hc1) _ (((ExB.of e1).trans (ExB.upd.trans ExB.upd)).trans ExB.upd) ⟨dx, ?_⟩
      rw [upd_same]
      rfl
/-- an expression whose value is a field of a jump -/
theorem ev_fld {σ : L2.St} {H : Hp} {te : TE} {j dx : Addr} {fs : List (Str × V)} {f : Str} {v : V} (T : Tx K mg w) (h : Ev te σ H (.ref j)) (hj : H j = some (.ins (cU K) dx fs)) (n : NoAttr K (cU K) f) (l : fs.lookup f = some v) : Ev (tFld K te f) σ H v := fun H1 e Q q =>
  h H1 e _ fun H2 e2 => ⟨j, cU K, dx, fs, v, rfl, (e.trans e2) _ _ hj, c_Jump T, n, l, q H2 e2⟩
theorem ev_before {σ : L2.St} {H : Hp} {te : TE} {j : Addr} {b a : List Nat} {z : Str} (T : Tx K mg w) (h : Ev te σ H (.ref j)) (hj : IsJ K H j b a z) : Ev (tFld K te "before") σ H (.str (S b)) := by
  obtain ⟨dx, hj⟩ := hj
  exact ev_fld T h hj (n_Jump_before T) rfl
theorem ev_after {σ : L2.St} {H : Hp} {te : TE} {j : Addr} {b a : List Nat} {z : Str} (T : Tx K mg w) (h : Ev te σ H (.ref j)) (hj : IsJ K H j b a z) : Ev (tFld K te "after") σ H (.str (S a)) := by
  obtain ⟨dx, hj⟩ := hj
  exact ev_fld T h hj (n_Jump_after T) rfl
theorem ev_ways {σ : L2.St} {H : Hp} {te : TE} {j : Addr} {b a : List Nat} {z : Str} (T : Tx K mg w) (h : Ev te σ H (.ref j)) (hj : IsJ K H j b a z) : Ev (tFld K te "ways") σ H (.str z) := by
  obtain ⟨dx, hj⟩ := hj
  exact ev_fld T h hj (n_Jump_ways T) rfl
theorem rv_eqTT {H : Hp} {a b : Str} : RV rEq (.str a) (.str b) H (.bl (decide (a = b))) := by
  have h2 := rv_eq (H := H) (x := .str a) (y := .str b) rfl
  have e : decide (V.str a = V.str b) = decide (a = b) := decide_eq_decide.mpr ⟨fun h => by injection h, fun h => by rw [h]⟩
  rw [e] at h2
  exact h2
theorem rv_neTT {H : Hp} {a b : Str} : RV rNe (.str a) (.str b) H (.bl (!decide (a = b))) := by
  have h2 := rv_ne (H := H) (x := .str a) (y := .str b) rfl
  have e : decide (V.str a = V.str b) = decide (a = b) := decide_eq_decide.mpr ⟨fun h => by injection h, fun h => by rw [h]⟩
  rw [e] at h2
  exact h2
theorem rc_isJump {H : Hp} {j : Addr} {b a : List Nat} {z : Str} (h : IsJ K H j b a z) : RC (rIsOwn (cU K)) [.ref j, .ref (cU K)] H (.bl true) := fun H1 e _ q => by
  obtain ⟨dx, h⟩ := h
  exact ⟨j, dx, _, rfl, e _ _ h, q H1 (Ex.refl H1)⟩
def sp_Jump_eq (K : PySem.W.Frag) : Sp := fun vs H Q _ => ∃ (j k : Addr) (b a b2 a2 : List Nat) (z z2 : Str), vs = [.ref j, .ref k] ∧ IsJ K H j b a z ∧ IsJ K H k b2 a2 z2 ∧ RetV (.bl (decide (b = b2) && (decide (a = a2) && decide (z = z2)))) H Q
theorem ok_Jump_eq (T : Tx K mg w) : OkD P w K mg base 1 d_Jump_eq ps_Jump_eq (sp_Jump_eq K) := by
  refine (h_Jump_eq T).ok sc_Jump_eq (fun vs H Q E h => ?_) (fun cdv A outer s H vs Q E hr h => ⟨_,
      (pss_one (ps_ret (pe_and (pe_callB (call_isOwn (C := He.ga K "Jump")) (by rfl) (m_isinstance T) (by decide +kernel) (pa_cons (pv 1) (pa_cons (pe_glob (v := .ref (He.ga K "Jump")) rfl (m_Jump T) rfl) pa_nil))) (pe_and (pe_cmpR op_eq (pe_fld (pv 0) rfl) (pe_fld (pv 1) rfl) (nomark _)) (pe_and (pe_cmpR op_eq (pe_fld (pv 0) rfl) (pe_fld (pv 1) rfl) (nomark _)) (pe_one (pe_cmpR op_eq (pe_fld (pv 0) rfl) (pe_fld (pv 1) rfl) (nomark _)))))))), ?_⟩)
  · obtain ⟨j, k, b, a, b2, a2, z, z2, rfl, _⟩ := h
    rfl
  · obtain ⟨j, k, b, a, b2, a2, z, z2, rfl, h1, h2, q⟩ := h
    refine s_ret (v := .bl (true && (decide (b = b2) && (decide (a = a2) && decide (z = z2))))) (ev_andV (ev_cb (ea_cons (by exact ev_var rfl) (ea_cons ev_c ea_nil)) (rc_isJump h2)) fun _ => ev_andV (ev_op (ev_before T (by exact ev_var rfl) h1) (ev_before T (by exact ev_var rfl) h2) rv_eqSS) fun _ => ev_andV (ev_op (ev_after T (by exact ev_var rfl) h1) (ev_after T (by exact ev_var rfl) h2) rv_eqSS) fun _ => ev_op (ev_ways T (by exact ev_var rfl) h1) (ev_ways T (by exact ev_var rfl) h2) rv_eqTT) fun H1 e1 => ?_
    exact q H1 e1
/-! ### written -/
def wsg (z : Str) : List Nat := if z = "right" then [62] else if z = "left" then [60] else [61]
def sp_Jump_str (K : PySem.W.Frag) : Sp := fun vs H Q _ => ∃ (j : Addr) (b a : List Nat) (z : Str), vs = [.ref j] ∧ IsJ K H j b a z ∧ b.length ≤ 1000 ∧ a.length ≤ 1000 ∧ z ∈ wys ∧ RetV (.str (S (b ++ wsg z ++ a))) H Q
theorem kdct_ways (T : Tx K mg w) {z : Str} (h : z ∈ wys) : KDct K w (He.ga K "WAY_SIGNS") z (.str (S (wsg z))) := by
  obtain ⟨es, n, D⟩ := t_WAY_SIGNS T
  simp only [wys, List.mem_cons, List.not_mem_nil, or_false] at h
  rcases h with rfl | rfl | rfl
  · obtain ⟨u, hu, hr⟩ := He.valsB_ok (v_WAY_SIGNS T) (q := ("right", .str ">")) (by simp)
    exact ⟨es, n, u, D.at_, D.lit, hu, hr⟩
  · obtain ⟨u, hu, hr⟩ := He.valsB_ok (v_WAY_SIGNS T) (q := ("left", .str "<")) (by simp)
    exact ⟨es, n, u, D.at_, D.lit, hu, hr⟩
  · obtain ⟨u, hu, hr⟩ := He.valsB_ok (v_WAY_SIGNS T) (q := ("both", .str "=")) (by simp)
    exact ⟨es, n, u, D.at_, D.lit, hu, hr⟩
theorem ok_Jump_str (T : Tx K mg w) : OkD P w K mg base 1 d_Jump_str ps_Jump_str (sp_Jump_str K) := by
  refine (h_Jump_str T).ok sc_Jump_str (fun vs H Q E h => ?_) (fun cdv A outer s H vs Q E hr h => ⟨_,
      (pss_one (ps_ret (pe_joined (.cons (pe_fmt (pe_fld (pv 0) rfl)) (.cons (pe_fmt (pe_ix ix_kdict (pe_glob (v := .ref (He.ga K "WAY_SIGNS")) rfl (m_WAY_SIGNS T) rfl) (pe_fld (pv 0) rfl) (fun _ _ => rfl))) (.cons (pe_fmt (pe_fld (pv 0) rfl)) .nil)))))), ?_⟩)
  · obtain ⟨j, b, a, z, rfl, _⟩ := h
    rfl
  · obtain ⟨j, b, a, z, rfl, hj, hb, ha, hz, q⟩ := h
    have hj0 := hj
    obtain ⟨dx, hj⟩ := hj
    have ew : (wsg z).length ≤ 1 := by
      unfold wsg
      split
      · decide
      · split <;> decide
    have e0 : Str.empty ++ S b = S b := by
      have h := S_app [] b
      exact h
    dsimp only [tRet, tJs, tFmt]
    refine ev_before (σ := L2.start ns_Jump_str [V.ref j]) (te := tVar 0) T (ev_var (i := 0) rfl) hj0 H (Ex.refl H) _ fun H1 e1 => ?_
    refine .inl ⟨_, rfl, sz_of (by rw [S_len]; omega), S b, rfl, by rw [e0]; exact sz_of (by rw [S_len]; omega), ?_⟩
    rw [e0]
    refine op_first ev_c fun H1' e1' => ?_
    replace e1 := e1.trans e1'
    clear e1'
    generalize H1' = H1 at *
    refine ev_ways (σ := L2.start ns_Jump_str [V.ref j]) (te := tVar 0) T (ev_var (i := 0) rfl) (hj0.ex e1) H1 (Ex.refl H1) _ fun H2 e2 => ?_
    refine ⟨_, z, _, rfl, rfl, kdct_ways T hz, .inl ⟨_, rfl, sz_of (by rw [S_len]; omega), S (wsg z), rfl, by rw [S_app]; exact sz_of (by rw [S_len, List.length_append]; omega), ?_⟩⟩
    rw [S_app]
    refine ev_after (σ := L2.start ns_Jump_str [V.ref j]) (te := tVar 0) T (ev_var (i := 0) rfl) ((hj0.ex e1).ex e2) H2 (Ex.refl H2) _ fun H3 e3 => ?_
    refine .inl ⟨_, rfl, sz_of (by rw [S_len]; omega), S a, rfl, by rw [S_app]; exact sz_of (by rw [S_len, List.length_append, List.length_append]; omega), ?_⟩
    rw [S_app]
    exact q H3 ((e1.trans e2).trans e3)
end
end K57
namespace K57
open PySem PySem.Spec PyProof.Rows L2 Lc Evl
section
variable {P : Program} {w : World} {K : PySem.W.Frag} {mg : Str → Option Value} {base : Heap}
/-! ### the windows of a jump -/
def Tps (H : Hp) : List Addr → List (List Nat × List Nat) → Prop
  | [], [] => True
  | t :: ts, x :: xs => H t = some (.tup [.str (S x.1), .str (S x.2)]) ∧ Tps H ts xs
  | _, _ => False
def Wins (H : Hp) (p : Addr) (ws : List (List Nat × List Nat)) : Prop := ∃ ts : List Addr, H p = some (.lst (ts.map V.ref)) ∧ Tps H ts ws
def winsOf (b a : List Nat) (z : Str) : List (List Nat × List Nat) := (if z = "left" then [] else [(b, a)]) ++ (if z = "right" then [] else [(b.reverse, a.reverse)])
theorem isJ_parts {b a : List Nat} {z : Str} (h : isJ b a z = true) : z ∈ wys ∧ (b.length = 3 ∨ b.length = 4) ∧ b.length = a.length ∧ Good b ∧ Good a := by
  unfold isJ at h
  simp only [Bool.and_eq_true, decide_eq_true_eq, List.all_eq_true, Bool.or_eq_true] at h
  obtain ⟨h1, h2, h3, h4, h5, h6, h7⟩ := h
  refine ⟨h1, h2, h3, fun c hc => ?_, fun c hc => ?_⟩
  · obtain ⟨i, hi, rfl⟩ := List.mem_iff_getElem.mp hc
    by_cases hl : i < b.length - 1
    · have hm : b[i] ∈ b.take (b.length - 1) := by
        rw [List.mem_take_iff_getElem]
        exact ⟨i, by omega, rfl⟩
      have := h6 _ hm
      have k : ∀ c ∈ kL, c ∈ SG := by decide
      exact k _ this
    · have ei : i = b.length - 1 := by omega
      have : b.getD (b.length - 1) 0 = b[i] := by
        rw [List.getD_eq_getElem?_getD, ← ei, List.getElem?_eq_getElem hi]
        rfl
      rw [← this, h4]
      decide
  · have k : ∀ c ∈ kL, c ∈ SG := by decide
    rcases h7 c hc with q | q
    · rw [q]
      decide
    · exact k _ q
theorem sg_low : ∀ c ∈ SG, c < 128 := by decide +kernel
theorem Row.of {l : List Nat} (h : Good l) (hl : l.length ≤ 60) : Row l := ⟨by omega, fun c hc => sg_low c (h c hc)⟩
theorem Good.rev {l : List Nat} (h : Good l) : Good l.reverse := fun c hc => h c (List.mem_reverse.mp hc)
theorem ev_mirror {σ : L2.St} {H : Hp} {te : TE} {l : List Nat} (hg : Good l) (hl : l.length ≤ 60) (h : Ev te σ H (.str (S l))) : Ev (tCall (sp_mirror K) [] E0 (tCons te tNil)) σ H (.str (S l.reverse)) :=
  ev_call (ea_cons h ea_nil) fun H1 e1 Q q E => ⟨l, rfl, Row.of hg hl, fun _ => q, fun z => absurd hg z⟩
theorem ne_lt {H : Hp} {t p : Addr} {xs ys : List V} (h1 : H t = some (.tup xs)) (h2 : H p = some (.lst ys)) : t ≠ p := fun z => by
  rw [z, h2] at h1
  cases h1
def sp_Jump_windows (K : PySem.W.Frag) : Sp := fun vs H Q _ => ∃ (j : Addr) (b a : List Nat) (z : Str), vs = [.ref j] ∧ IsJ K H j b a z ∧ isJ b a z = true ∧ ∀ p H', H p = none → Ex H H' → Wins H' p (winsOf b a z) → Q (.ref p) H'
theorem ok_Jump_windows (T : Tx K mg w) : OkD P w K mg base 5 d_Jump_windows ps_Jump_windows (sp_Jump_windows K) := by
  refine (h_Jump_windows T).ok sc_Jump_windows (fun vs H Q E h => ?_) (fun cdv A outer s H vs Q E hr h => ⟨_,
      (pss_cons (ps_set (i := 1) sc_Jump_windows.nd rfl (Or.inl rfl) (pe_lst pa_nil))
      (pss_cons (ps_if (pt_cmpR op_ne (pe_fld (pv 0) rfl) pe_str (nomark _)) (pss_one (ps_expr (pe_bm PySem.F.plainAttrs_list PySem.F.slot_list_append PySem.F.type_list_append mt_append (pv 1) (pa_cons (pe_tup (pa_cons (pe_fld (pv 0) rfl) (pa_cons (pe_fld (pv 0) rfl) pa_nil))) pa_nil)))) pss_nil)
      (pss_cons (ps_if (pt_cmpR op_ne (pe_fld (pv 0) rfl) pe_str (nomark _)) (pss_one (ps_expr (pe_bm PySem.F.plainAttrs_list PySem.F.slot_list_append PySem.F.type_list_append mt_append (pv 1) (pa_cons (pe_tup (pa_cons (pe_call (ok_mirror (P := P) (w := w) (base := base) T) (hr.mono (by decide)) (by rfl) (m_mirror T) (k_mirror T) (b_mirror T) .nil passN (pa_cons (pe_fld (pv 0) rfl) pa_nil)) (pa_cons (pe_call (ok_mirror (P := P) (w := w) (base := base) T) (hr.mono (by decide)) (by rfl) (m_mirror T) (k_mirror T) (b_mirror T) .nil passN (pa_cons (pe_fld (pv 0) rfl) pa_nil)) pa_nil))) pa_nil)))) pss_nil)
      (pss_one (ps_ret (pv 1)))))), ?_⟩)
  · obtain ⟨j, b, a, z, rfl, _⟩ := h
    rfl
  · obtain ⟨j, b, a, z, rfl, hj, hi, q⟩ := h
    obtain ⟨hz, hb, hab, gb, ga⟩ := isJ_parts hi
    refine q_asgL (el_lst ea_nil (by decide)) fun p H1 hp e1 h1 => ?_
    have j1 := hj.ex e1
    refine q_when (b := !decide (z = "left")) (et_test (ev_op (ev_ways (te := tVar 0) T (by exact ev_var rfl) j1) ev_c rv_neTT)) (fun hc H2 e2 => ?_) (fun hc H2 e2 => ?_)
    · have h2 := e2 _ _ h1
      have j2 := j1.ex e2
      refine s_appU h2 (by exact ev_var rfl) (eu_tup (ea_cons (ev_before (te := tVar 0) T (by exact ev_var rfl) j2) (ea_cons (ev_after (te := tVar 0) T (by exact ev_var rfl) j2) ea_nil)) (by simp)) (by decide) fun t H3 ht e3 h3 => ?_
      have hp3 := e3 _ _ h2
      have htp := ne_lt h3 hp3
      have j3 : IsJ K (upd H3 p (.lst ([] ++ [.ref t]))) j b a z := by
        refine hj.ex ?_
        exact Ex.mut ((e1.trans e2).trans e3) hp
      have e3' : Ex H (upd H3 p (.lst ([] ++ [.ref t]))) := Ex.mut ((e1.trans e2).trans e3) hp
      have t3 : upd H3 p (.lst ([] ++ [.ref t])) t = some (.tup [.str (S b), .str (S a)]) := by
        rw [upd_ne htp]
        exact h3
      have p3 : upd H3 p (.lst ([] ++ [.ref t])) p = some (.lst [.ref t]) := upd_same
      generalize upd H3 p (.lst ([] ++ [.ref t])) = H4 at j3 e3' t3 p3
      refine q_when (b := !decide (z = "right")) (et_test (ev_op (ev_ways (te := tVar 0) T (by exact ev_var rfl) j3) ev_c rv_neTT)) (fun hc2 H5 e5 => ?_) (fun hc2 H5 e5 => ?_)
      · have j5 := j3.ex e5
        have p5 := e5 _ _ p3
        refine s_appU p5 (by exact ev_var rfl) (eu_tup (ea_cons (ev_mirror gb (by omega) (ev_before (te := tVar 0) T (by exact ev_var rfl) j5)) (ea_cons (ev_mirror ga (by omega) (ev_after (te := tVar 0) T (by exact ev_var rfl) j5)) ea_nil)) (by simp)) (by simp) fun t2 H6 ht2 e6 h6 => ?_
        have hp6 := e6 _ _ p5
        dsimp only
        refine s_ret (v := .ref p) (by exact ev_var rfl) fun H7 e7 => q p H7 hp ((Ex.mut ((e3'.trans e5).trans e6) hp).trans e7) ⟨[t, t2], e7 _ _ upd_same, ?_⟩
        unfold winsOf
        rw [if_neg (by simpa using hc), if_neg (by simpa using hc2)]
        refine ⟨e7 _ _ ?_, e7 _ _ ?_, trivial⟩
        · rw [upd_ne (ne_lt (e6 _ _ (e5 _ _ t3)) hp6)]
          exact e6 _ _ (e5 _ _ t3)
        · rw [upd_ne (ne_lt h6 hp6)]
          exact h6
      · refine s_ret (by exact ev_var rfl) fun H7 e7 => q p H7 hp ((e3'.trans e5).trans e7) ⟨[t], e7 _ _ (e5 _ _ p3), ?_⟩
        unfold winsOf
        rw [if_neg (by simpa using hc), if_pos (by simpa using hc2)]
        exact ⟨e7 _ _ (e5 _ _ t3), trivial⟩
    · have h2 := e2 _ _ h1
      have j2 := j1.ex e2
      refine q_when (b := !decide (z = "right")) (et_test (ev_op (ev_ways (te := tVar 0) T (by exact ev_var rfl) j2) ev_c rv_neTT)) (fun hc2 H5 e5 => ?_) (fun hc2 H5 e5 => ?_)
      · have j5 := j2.ex e5
        have p5 := e5 _ _ h2
        refine s_appU p5 (by exact ev_var rfl) (eu_tup (ea_cons (ev_mirror gb (by omega) (ev_before (te := tVar 0) T (by exact ev_var rfl) j5)) (ea_cons (ev_mirror ga (by omega) (ev_after (te := tVar 0) T (by exact ev_var rfl) j5)) ea_nil)) (by simp)) (by simp) fun t2 H6 ht2 e6 h6 => ?_
        have hp6 := e6 _ _ p5
        dsimp only
        refine s_ret (v := .ref p) (by exact ev_var rfl) fun H7 e7 => q p H7 hp ((Ex.mut (((e1.trans e2).trans e5).trans e6) hp).trans e7) ⟨[t2], e7 _ _ upd_same, ?_⟩
        unfold winsOf
        rw [if_pos (by simpa using hc), if_neg (by simpa using hc2)]
        refine ⟨e7 _ _ ?_, trivial⟩
        rw [upd_ne (ne_lt h6 hp6)]
        exact h6
      · refine s_ret (by exact ev_var rfl) fun H7 e7 => q p H7 hp (((e1.trans e2).trans e5).trans e7) ⟨[], e7 _ _ (e5 _ _ h2), ?_⟩
        unfold winsOf
        rw [if_pos (by simpa using hc), if_pos (by simpa using hc2)]
        trivial
end
end K57
namespace K57
open PySem PySem.Spec PyProof.Rows L2 Lc Evl
section
variable {P : Program} {w : World} {K : PySem.W.Frag} {mg : Str → Option Value} {base : Heap}
/-! ### jumps made -/
theorem b_Jump_init (T : Tx K mg w) : Binds K (fdOf K (d_Jump_init.at_ K)) ps_Jump_init [] := by
  obtain ⟨ds, hv, hb⟩ := FunD.binds1 (ps := ps_Jump_init) (h_Jump_init T) 4 1 (by simp [He5.DefA.dvs, d_Jump_init]) rfl fun T kV doc pm an cdv ct us its hu hi => match us, its, hu, hi with
    | [_, _, _, _], [_], _, _ => ⟨_, rfl, rfl⟩
  cases hv
  exact hb
theorem b2_Jump_init (T : Tx K mg w) : ∃ ds, Vals [V.str "right"] ds ∧ Binds K (fdOf K (d_Jump_init.at_ K)) ps_Jump_init ds :=
  FunD.binds1 (ps := ps_Jump_init) (h_Jump_init T) 3 0 (by simp [He5.DefA.dvs, d_Jump_init]) rfl fun T kV doc pm an cdv ct us its hu hi => match us, its, hu, hi with
    | [_, _, _], [_], _, _ => ⟨_, rfl, rfl⟩
def EvJ (K : PySem.W.Frag) (te : TE) (σ : L2.St) (H : Hp) (b a : List Nat) (z : Str) : Prop := ∀ H1, Ex H H1 → ∀ Q : VK, (∀ p H2, H1 p = none → Ex H1 H2 → IsJ K H2 p b a z → Q (.ref p) H2) → te σ H1 Q
theorem ev_make {σ : L2.St} {H : Hp} {t1 t2 t3 : TE} {b a : List Nat} {z : Str} {E : XK} (hi : isJ b a z = true) (h1 : Ev t1 σ H (.str (S b))) (h2 : Ev t2 σ H (.str (S a))) (h3 : Ev t3 σ H (.str z)) :
    EvJ K (tMake (cU K) (sp_Jump_init K) [] E (tCons t1 (tCons t2 (tCons t3 tNil)))) σ H b a z := fun H1 e Q q => by
  obtain ⟨_, hb, hab, gb, ga⟩ := isJ_parts hi
  refine (ea_cons h1 (ea_cons h2 (ea_cons h3 ea_nil))) H1 e _ fun H2 e2 x dx hx hd hdx => ?_
  refine ⟨x, dx, b, a, z, rfl, by omega, by omega, fun c hc => sg_low c (gb c hc), upd_same, fun _ H' eb hj => ⟨rfl, q x H' (fresh_back e2 hx) ?_ hj⟩, fun hn => by rw [hi] at hn; cases hn⟩
  intro c o ho
  have ho2 := e2 c o ho
  have n1 : c ≠ x := fun z => by rw [z, hx] at ho2; cases ho2
  have n2 : c ≠ dx := fun z => by rw [z, hd] at ho2; cases ho2
  exact eb c o n1 (by rw [upd_ne n1, upd_ne n2]; exact ho2)
theorem s_retJ {σ : L2.St} {H : Hp} {te : TE} {D : Ends} {b a : List Nat} {z : Str} (h : EvJ K te σ H b a z) (k : ∀ p H1, H p = none → Ex H H1 → IsJ K H1 p b a z → D.rt (.ref p) H1) : tRet te D σ H := h H (Ex.refl H) _ k
theorem q_asgJ {σ : L2.St} {H : Hp} {te : TE} {tz : TS} {D : Ends} {b a : List Nat} {z : Str} {i : Nat} (h : EvJ K te σ H b a z) (k : ∀ p H1, H p = none → Ex H H1 → IsJ K H1 p b a z → tz D (σ.set i (some (.ref p))) H1) : tSeq (tAsg te (gName i)) tz D σ H := h H (Ex.refl H) _ k
def oth (z : Str) : Str := if z = "right" then "left" else if z = "left" then "right" else "both"
theorem oth_in {z : Str} (h : z ∈ wys) : oth z ∈ wys := by
  simp only [wys, List.mem_cons, List.not_mem_nil, or_false] at h
  rcases h with rfl | rfl | rfl <;> decide +kernel
theorem isJ_way {b a : List Nat} {z z2 : Str} (h : isJ b a z = true) (h2 : z2 ∈ wys) : isJ b a z2 = true := by
  unfold isJ at h ⊢
  rw [decide_eq_true h2]
  exact (Bool.and_eq_true_iff.mp h).2
/-! ### jumps read -/
def rdW (l : List Nat) : Str := if l = [62] then "right" else if l = [60] then "left" else if l = [61] then "both" else ""
theorem sign_at (T : Tx K mg w) (l : List Nat) : ∃ (r : Option Value) (o : Option V), PySem.W.nsIn K (He.ga K "SIGN_WAYS") (S l) = some r ∧
    (match o, r with
      | some v, some u => RelV v u
      | none, none => True
      | _, _ => False) ∧ o.getD (.str "") = .str (rdW l) := by
  have k1 : (">" : Str) = S [62] := by decide +kernel
  have k2 : ("<" : Str) = S [60] := by decide +kernel
  have k3 : ("=" : Str) = S [61] := by decide +kernel
  by_cases h1 : l = [62]
  · obtain ⟨u, hu, hr⟩ := He.valsB_ok (v_SIGN_WAYS T) (q := (">", .str "right")) (by simp)
    rw [k1] at hu
    subst h1
    exact ⟨some u, some (.str "right"), hu, hr, rfl⟩
  by_cases h2 : l = [60]
  · obtain ⟨u, hu, hr⟩ := He.valsB_ok (v_SIGN_WAYS T) (q := ("<", .str "left")) (by simp)
    rw [k2] at hu
    subst h2
    exact ⟨some u, some (.str "left"), hu, hr, rfl⟩
  by_cases h3 : l = [61]
  · obtain ⟨u, hu, hr⟩ := He.valsB_ok (v_SIGN_WAYS T) (q := ("=", .str "both")) (by simp)
    rw [k3] at hu
    subst h3
    exact ⟨some u, some (.str "both"), hu, hr, rfl⟩
  · refine ⟨none, none, no_SIGN_WAYS T ?_, trivial, ?_⟩
    · intro hm
      simp only [List.mem_cons, List.not_mem_nil, or_false, k1, k2, k3] at hm
      rcases hm with h | h | h
      · exact h1 (S_inj h)
      · exact h2 (S_inj h)
      · exact h3 (S_inj h)
    · unfold rdW
      rw [if_neg h1, if_neg h2, if_neg h3]
      rfl
theorem ev_kget {σ : L2.St} {H : Hp} {d : Addr} {td ty tx : TE} {n : Str} {z : V} {r : Option Value} {o : Option V} (h1 : Ev td σ H (.ref d)) (h2 : Ev ty σ H (.str n)) (h3 : Ev tx σ H z)
    (hm : match o, r with
      | some v, some u => RelV v u
      | none, none => True
      | _, _ => False) (hr : PySem.W.nsIn K d n = some r) : Ev (tKGet K d td ty tx) σ H (o.getD z) := fun H1 e Q q =>
  h1 H1 e _ fun H2 e2 => ⟨rfl, h2 H2 (e.trans e2) _ fun H3 e3 => h3 H3 ((e.trans e2).trans e3) _ fun H4 e4 => ⟨n, r, o, rfl, hr, hm, q H4 ((e2.trans e3).trans e4)⟩⟩
theorem cut_mid (l : List Nat) (m : Nat) : cutS (S l) (some (m : Int)) (some ((m : Int) + 1)) = S ((l.drop m).take 1) := by
  unfold cutS
  rw [S_len, tl_S, show ((m : Int) + 1) = ((m + 1 : Nat) : Int) by omega, HT.sIx_nat, HT.sIx_nat]
  refine congrArg S ?_
  by_cases h : m < l.length
  · rw [Nat.min_eq_left (by omega), Nat.min_eq_left (by omega), show m + 1 - m = 1 by omega]
  · rw [Nat.min_eq_right (by omega), Nat.min_eq_right (by omega), Nat.sub_self, List.take_zero, List.drop_of_length_le (by omega)]
    rfl
theorem q_par3 {σ : L2.St} {H : Hp} {ta : TA} {tz : TS} {D : Ends} {i j l : Nat} {u v x : V} (h : EvA ta σ H [u, v, x]) (k : ∀ H1, Ex H H1 → tz D (((σ.set i (some u)).set j (some v)).set l (some x)) H1) : tSeq (tPar3 i j l ta) tz D σ H :=
  h H (Ex.refl H) _ fun H1 e => ⟨u, v, x, rfl, k H1 e⟩
def rdB (l : List Nat) : List Nat := l.take (l.length / 2)
def rdS (l : List Nat) : List Nat := (l.drop (l.length / 2)).take 1
def rdA (l : List Nat) : List Nat := l.drop (l.length / 2 + 1)
end
end K57
namespace K57
open PySem PySem.Spec PyProof.Rows L2 Lc Evl
section
variable {P : Program} {w : World} {K : PySem.W.Frag} {mg : Str → Option Value} {base : Heap}
/-! ### the law's own jumps -/
theorem k_dot : Str.ofString "." = S [46] := by decide +kernel
theorem k_abcd : Str.ofString "abcd" = S kL := by decide +kernel
theorem k_dabcd : Str.ofString ".abcd" = S (46 :: kL) := by decide +kernel
theorem isJ_iff {b a : List Nat} {z : Str} : isJ b a z = true ↔ z ∈ wys ∧ (b.length = 3 ∨ b.length = 4) ∧ b.length = a.length ∧ b.getD (b.length - 1) 0 = 46 ∧ a.getD 0 0 = 46 ∧ (∀ c ∈ b.take (b.length - 1), c ∈ kL) ∧ ∀ c ∈ a, c = 46 ∨ c ∈ kL := by
  unfold isJ
  simp only [Bool.and_eq_true, decide_eq_true_eq, List.all_eq_true, Bool.or_eq_true]
theorem isJ_no {b a : List Nat} {z : Str} (h : isJ b a z = true → False) : isJ b a z = false := by
  cases e : isJ b a z with
  | false => rfl
  | true => exact (h e).elim
theorem in_wys (z : Str) : inV (.str z) [.str "right", .str "left", .str "both"] = decide (z ∈ wys) := by
  rw [Bool.eq_iff_iff]
  simp only [inV, eqV, wys, List.any_cons, List.any_nil, Bool.or_eq_true, beq_iff_eq, decide_eq_true_eq, List.mem_cons, List.not_mem_nil, Bool.or_false, or_false]
  constructor
  · rintro (h | h | h)
    · exact .inl h.symm
    · exact .inr (.inl h.symm)
    · exact .inr (.inr h.symm)
  · rintro (h | h | h)
    · exact .inl h.symm
    · exact .inr (.inl h.symm)
    · exact .inr (.inr h.symm)
end
end K57
namespace K57
open PySem PySem.Spec PyProof.Rows L2 Lc Evl
section
variable {P : Program} {w : World} {K : PySem.W.Frag} {mg : Str → Option Value} {base : Heap}
/-! ### triples, and displays looked up -/
def Tri (H : Hp) (t : Addr) (b a : List Nat) (z : Str) : Prop := H t = some (.tup [.str (S b), .str (S a), .str z])
theorem Tri.ex {H H' : Hp} {t : Addr} {b a : List Nat} {z : Str} (h : Tri H t b a z) (e : Ex H H') : Tri H' t b a z := e _ _ h
theorem ev_t0 {σ : L2.St} {H : Hp} {te : TE} {t : Addr} {b a : List Nat} {z : Str} (h : Ev te σ H (.ref t)) (ht : Tri H t b a z) : Ev (tOp (rIxT K) te (tC (.int 0))) σ H (.str (S b)) := ev_op h ev_c (rv_ixT (st_of ht) rfl)
theorem ev_t1 {σ : L2.St} {H : Hp} {te : TE} {t : Addr} {b a : List Nat} {z : Str} (h : Ev te σ H (.ref t)) (ht : Tri H t b a z) : Ev (tOp (rIxT K) te (tC (.int 1))) σ H (.str (S a)) := ev_op h ev_c (rv_ixT (st_of ht) rfl)
theorem ev_t2 {σ : L2.St} {H : Hp} {te : TE} {t : Addr} {b a : List Nat} {z : Str} (h : Ev te σ H (.ref t)) (ht : Tri H t b a z) : Ev (tOp (rIxT K) te (tC (.int 2))) σ H (.str z) := ev_op h ev_c (rv_ixT (st_of ht) rfl)
abbrev D3 (k1 v1 k2 v2 k3 v3 : Str) : TE := tDisp [(tC (.str k1), tC (.str v1)), (tC (.str k2), tC (.str v2)), (tC (.str k3), tC (.str v3))]
def kv3 (k1 v1 k2 v2 k3 v3 : Str) : List (Key × V) := [(Sum.inr k1, .str v1), (Sum.inr k2, .str v2), (Sum.inr k3, .str v3)]
theorem d3_run {σ : L2.St} {H : Hp} {k1 v1 k2 v2 k3 v3 : Str} {Q : VK} (q : ∀ p H1, H p = none → Ex H H1 → H1 p = some (.dK (mergeK [] (kv3 k1 v1 k2 v2 k3 v3))) → Q (.ref p) H1) : D3 k1 v1 k2 v2 k3 v3 σ H Q := fun p hp =>
  ⟨upd_same, kv3 k1 v1 k2 v2 k3 v3, rfl, by show 3 ≤ 15; decide, q p _ hp (Ex.mut (Ex.new hp) hp) upd_same⟩
theorem ev_d3 {σ : L2.St} {H : Hp} {k1 v1 k2 v2 k3 v3 n : Str} {v : V} {ty : TE} (hy : Ev ty σ H (.str n)) (hv : valV (mergeK [] (kv3 k1 v1 k2 v2 k3 v3)) (Sum.inr n) = some v) : Ev (tDGet (D3 k1 v1 k2 v2 k3 v3) ty) σ H v := fun H1 e Q q => by
  unfold tDGet
  exact d3_run fun p H2 hp e2 h2 => hy H2 (e.trans e2) _ fun H3 e3 => ⟨p, v, rfl, .inl ⟨_, Sum.inr n, .inl (e3 _ _ h2), rfl, hv.symm⟩, q H3 (e2.trans e3)⟩
theorem ev_d3g {σ : L2.St} {H : Hp} {k1 v1 k2 v2 k3 v3 n : Str} {z : V} {ty tx : TE} (hy : Ev ty σ H (.str n)) (hx : Ev tx σ H z) : Ev (tDGet2 (D3 k1 v1 k2 v2 k3 v3) ty tx) σ H ((valV (mergeK [] (kv3 k1 v1 k2 v2 k3 v3)) (Sum.inr n)).getD z) := fun H1 e Q q => by
  unfold tDGet2
  exact d3_run fun p H2 hp e2 h2 => ⟨p, rfl, .inl ⟨_, .inl h2⟩, hy H2 (e.trans e2) _ fun H3 e3 => hx H3 ((e.trans e2).trans e3) _ fun H4 e4 => ⟨_, .inl ⟨_, Sum.inr n, .inl (e4 _ _ (e3 _ _ h2)), rfl, rfl⟩, q H4 ((e2.trans e3).trans e4)⟩⟩
theorem val_w {z : Str} (h : z ∈ wys) : valV (mergeK [] (kv3 "right" ">" "left" "<" "both" "=")) (Sum.inr z) = some (.str (S (wsg z))) := by
  simp only [wys, List.mem_cons, List.not_mem_nil, or_false] at h
  rcases h with rfl | rfl | rfl <;> rfl
theorem val_o {z : Str} (h : z ∈ wys) : valV (mergeK [] (kv3 "right" "left" "left" "right" "both" "both")) (Sum.inr z) = some (.str (oth z)) := by
  simp only [wys, List.mem_cons, List.not_mem_nil, or_false] at h
  rcases h with rfl | rfl | rfl <;> rfl
def RetT (H : Hp) (b a : List Nat) (z : Str) (Q : VK) : Prop := ∀ p H1, H p = none → Ex H H1 → Tri H1 p b a z → Q (.ref p) H1
/-! ### the law reads -/
theorem val_r (l : List Nat) : (valV (mergeK [] (kv3 ">" "right" "<" "left" "=" "both")) (Sum.inr (S l))).getD (.str "") = .str (rdW l) := by
  have k1 : (">" : Str) = S [62] := by decide +kernel
  have k2 : ("<" : Str) = S [60] := by decide +kernel
  have k3 : ("=" : Str) = S [61] := by decide +kernel
  have e : mergeK [] (kv3 ">" "right" "<" "left" "=" "both") = [(Sum.inr (S [62]), .str "right"), (Sum.inr (S [60]), .str "left"), (Sum.inr (S [61]), .str "both")] := by rfl
  rw [e]
  unfold rdW valV
  by_cases h1 : l = [62]
  · subst h1
    rfl
  by_cases h2 : l = [60]
  · subst h2
    rfl
  by_cases h3 : l = [61]
  · subst h3
    rfl
  · rw [if_neg h1, if_neg h2, if_neg h3]
    have n1 : ¬ (Sum.inr (S [62]) : Key) = Sum.inr (S l) := fun z => h1 (S_inj (Sum.inr.inj z)).symm
    have n2 : ¬ (Sum.inr (S [60]) : Key) = Sum.inr (S l) := fun z => h2 (S_inj (Sum.inr.inj z)).symm
    have n3 : ¬ (Sum.inr (S [61]) : Key) = Sum.inr (S l) := fun z => h3 (S_inj (Sum.inr.inj z)).symm
    rw [List.find?_cons_of_neg (by simpa using n1), List.find?_cons_of_neg (by simpa using n2), List.find?_cons_of_neg (by simpa using n3)]
    rfl
theorem in79 (n : Nat) : inV (.int (n : Int)) [.int 7, .int 9] = decide (n = 7 ∨ n = 9) := by
  rw [Bool.eq_iff_iff]
  simp [inV, eqV]
  omega
theorem rdS_eq {l : List Nat} (h : l.length / 2 < l.length) : rdS l = [l.getD (l.length / 2) 0] := by
  unfold rdS
  rw [List.drop_eq_getElem_cons h, List.getD_eq_getElem?_getD, List.getElem?_eq_getElem h]
  rfl
end
end K57
namespace K57
open PySem PySem.Spec PyProof.Rows L2 Lc Evl
section
variable {P : Program} {w : World} {K : PySem.W.Frag} {mg : Str → Option Value} {base : Heap}
/-! ### the law's windows -/
/-! ### texts drawn sign by sign -/
theorem q_first {σ : L2.St} {H : Hp} {te : TE} {tz : TS} {D : Ends} {i : Nat} (h : te σ H fun v H1 => tz D (σ.set i (some v)) H1) : tSeq (tAsg te (gName i)) tz D σ H := h
theorem op_fst {σ : L2.St} {H : Hp} {r : R2} {ta tb : TE} {Q : VK} (h : ta σ H fun x H1 => tb σ H1 fun y H2 => r x y H2 Q) : tOp r ta tb σ H Q := h
theorem op_c {σ : L2.St} {H : Hp} {r : R2} {tb : TE} {v : V} {Q : VK} (h : tb σ H fun y H2 => r v y H2 Q) : tOp r (tC v) tb σ H Q := h
theorem ret_fst {σ : L2.St} {H : Hp} {te : TE} {D : Ends} (h : te σ H D.rt) : tRet te D σ H := h
end
end K57
namespace Lc
open PySem PySem.Spec PyProof.Rows L2 Evl
/-! ### zip of a text and a list or a tuple -/
def Sq (K : PySem.W.Frag) (t : Bool) (H : Hp) (b : Addr) (ys : List V) : Prop := if t then SqT K H b ys else SqL K H b ys
theorem Sq.l {K : PySem.W.Frag} {H : Hp} {b : Addr} {ys : List V} (h : SqL K H b ys) : Sq K false H b ys := h
theorem Sq.t {K : PySem.W.Frag} {H : Hp} {b : Addr} {ys : List V} (h : SqT K H b ys) : Sq K true H b ys := h
theorem Sq.ex {K : PySem.W.Frag} {t : Bool} {H H' : Hp} {b : Addr} {ys : List V} (h : Sq K t H b ys) (e : Ex H H') : Sq K t H' b ys := by
  cases t
  · exact ex_l (K := K) e h
  · exact ex_t (K := K) e h
theorem Sq.any {K : PySem.W.Frag} {t : Bool} {H : Hp} {b : Addr} {ys : List V} (h : Sq K t H b ys) : SqL K H b ys ∨ SqT K H b ys := by
  cases t
  · exact .inl h
  · exact .inr h
theorem Sq.of {K : PySem.W.Frag} {H : Hp} {b : Addr} {ys : List V} (h : SqL K H b ys ∨ SqT K H b ys) : ∃ t, Sq K t H b ys := h.elim (fun h => ⟨false, h⟩) fun h => ⟨true, h⟩
theorem Sq.inj {X : Cx} {pins : List (Addr × Obj)} {σ : L2.St} {H : Hp} {s : Shared} {t : Bool} {b : Addr} {xs ys : List V} (I : Inv X pins σ H s) (h : Sq X.K t H b xs) (h' : Sq X.K t H b ys) : xs = ys := by
  cases t
  · exact I.list_inj h h'
  · exact I.tuple_inj h h'
def Itzs (K : PySem.W.Frag) (t : Bool) (z : Str) (b : Addr) : It :=
  ⟨fun i H => ∃ (ys : List V) (c : Nat) (y : V), Sq K t H b ys ∧ z.cps[i]? = some c ∧ ys[i]? = some y,
    fun i H v H' => ∃ T c y, v = .ref T ∧ H T = none ∧ H' = upd H T (.tup [.str ⟨#[c]⟩, y]) ∧ z.cps[i]? = some c ∧ ∀ ys, Sq K t H b ys → ys[i]? = some y,
    fun i H => ∃ ys : List V, Sq K t H b ys ∧ i ≤ z.cps.size ∧ i ≤ ys.length ∧ (i = z.cps.size ∨ i = ys.length)⟩
/-- the iterator of the second -/
def ItS (t : Bool) (it b : Addr) (i : Nat) (h : Heap) : Prop := if t then h.IsTupleIter it b i else h.IsListIter it b i
def SqO (t : Bool) (b : Addr) (its : Array Value) (h : Heap) : Prop := if t then h.IsTuple b its else h.IsList b its
theorem ItS.at {t : Bool} {it b : Addr} {i : Nat} {h h' : Heap} (x : ItS t it b i h) (k : ∀ o, h.get? it = some o → h'.get? it = some o) : ItS t it b i h' := by
  cases t
  · exact Heap.IsListIter.at x k
  · exact Heap.IsTupleIter.at x k
theorem ItS.live {t : Bool} {it b : Addr} {i : Nat} {h : Heap} (x : ItS t it b i h) : ∃ o, h.get? it = some o ∧ ∃ v k, o.data = .fields #[v, k] := by
  cases t
  · obtain ⟨o, e, _, d⟩ := (show h.IsListIter it b i from x)
    exact ⟨o, e, _, _, d⟩
  · obtain ⟨o, e, _, d⟩ := (show h.IsTupleIter it b i from x)
    exact ⟨o, e, _, _, d⟩
theorem drawsS {prog : Program} {w : World} {A : Around} (hh : A.handled = none) (t : Bool) (it b : Addr) (hne : b ≠ it) (its : Array Value) :
    Draws prog w A it [it, b] its.size (fun i v => its[i]? = some v) (fun i h => ItS t it b i h ∧ SqO t b its h) := by
  cases t
  · exact Draws.list hh it b hne its
  · exact Draws.tuple hh it b hne its
theorem turn_zipS {P : Program} {w : World} {K : PySem.W.Frag} {elts : List Expr} {kk : Nat} {tpos : Pos} {t : Bool} {x : Str} {u0 : Tok} {b z TI TO i1 i2 : Addr} (S : ZipSep2 z TI TO i1 i2 [i1] [i2, b]) (hb2 : b ≠ i2) :
    Turn P w K (.Tuple elts kk tpos) (Itzs K t x b) [z, TI, TO, i1, i2] z (fun i h => IsZip h z TI TO .none ∧ IsTupOf2 h TI (.ref i1) (.ref i2) ∧ (∃ a1 a2, IsTupOf2 h TO a1 a2) ∧ h.IsStrIter i1 (strIterType x) x u0 i ∧ ItS t i2 b i h) where
  mem := by simp
  obj := fun i h st c hc => by
    obtain ⟨hz, hTI, ⟨a1, a2, hTO⟩, ⟨o1, e1, _, d1⟩, h2⟩ := st
    obtain ⟨o2, e2, v2, k2, d2⟩ := h2.live
    have e' : c = z ∨ c = TI ∨ c = TO ∨ c = i1 ∨ c = i2 := by simpa using hc
    rcases e' with q | q | q | q | q
    · rw [q]; exact ⟨_, hz, fun v q => nomatch q⟩
    · rw [q]; exact ⟨_, hTI, fun v q => nomatch q⟩
    · rw [q]; exact ⟨_, hTO, fun v q => nomatch q⟩
    · rw [q]; exact ⟨o1, e1, fun v q => by rw [d1] at q; cases q⟩
    · rw [q]; exact ⟨o2, e2, fun v q => by rw [d2] at q; cases q⟩
  keep := fun i h h' st k => by
    obtain ⟨hz, hTI, ⟨x, y, hTO⟩, ⟨o1, e1, r1⟩, h2⟩ := st
    exact ⟨k z (by simp) _ hz, k TI (by simp) _ hTI, ⟨x, y, k TO (by simp) _ hTO⟩, ⟨o1, k i1 (by simp) _ e1, r1⟩, h2.at fun o q => k i2 (by simp) o q⟩
  item := by
    intro X hP hw hK hc i pins s σ H E I hf st hg
    subst hP hw hK
    obtain ⟨hz, hTI, ⟨x0, y0, hTO⟩, h1, h2⟩ := st
    obtain ⟨ys, c, y, hqy, hcx, hy⟩ := hg
    obtain ⟨its, rv, p⟩ : ∃ its, Vals ys its ∧ SqO t b its.toArray s.heap := by
      cases t
      · obtain ⟨its, rv, p, _⟩ := I.list hqy
        exact ⟨its, rv, p.isList⟩
      · obtain ⟨its, rv, p, _⟩ := I.tuple hqy
        exact ⟨its, rv, p⟩
    have hzl : z < s.heap.objs.size := Heap.lt_size hz
    have hcl : i < x.cps.size := by
      have := Array.getElem?_eq_some_iff.mp hcx
      exact this.1
    have hyl : i < its.toArray.size := by
      have h := List.getElem?_eq_some_iff.mp hy
      rw [List.size_toArray, ← rv.length]
      exact h.1
    have D2 := drawsS (prog := X.prog) (w := X.w) (A := X.A.in1) (I.ok.hd hc) t i2 b hb2 its.toArray
    refine wpAny_pyNext_zipD2_item S (Draws.text (prog := X.prog) (w := X.w) (A := X.A.in1) (I.ok.hd hc) i1 x u0) D2 hz hTI hTO h1 ⟨h2, p⟩ hcl hyl fun v1 v2 h' tk y1 y2 z' TO' st1 st2 hT hsz hk => ?_
    obtain ⟨c', u, hc', rfl⟩ := y1
    rw [hcx] at hc'
    cases hc'
    obtain ⟨u2, hu2, ru2⟩ := rv.get hy
    have y2' : its[i]? = some v2 := by simpa using y2
    have y3 := hu2.symm.trans y2'
    cases y3
    refine ⟨_, rfl, wpAny_letOwnedTupleGo_zip (s := { s with heap := h', toks := tk }) z' fun h'' z'' sb => ?_⟩
    have hT2 : h''.get? s.heap.objs.size = some { cls := .type "tuple", data := .seq #[.str ⟨#[c]⟩ u, v2] } := (sb.2 _ (Nat.ne_of_gt hzl)).trans hT
    have new : ObjOk X.prog X.w (upd H s.heap.objs.size (.tup [.str ⟨#[c]⟩, y])) h'' s.heap.objs.size (.tup [.str ⟨#[c]⟩, y]) :=
      ⟨by show 2 ≤ sizeLine; decide, [.str ⟨#[c]⟩ u, v2], .cons ⟨_, rfl⟩ (.cons ru2 .nil), ⟨_, hT2, rfl, _, rfl⟩⟩
    have I1 : Inv X pins σ (upd H s.heap.objs.size (.tup [.str ⟨#[c]⟩, y])) { s with heap := h'', toks := tk } :=
      I.turnedNew (t' := tk) (ch := [z, TI, TO, i1, i2]) (fun c o hb q => (sb.2 c (fun q' => hb (by simp [q']))).trans (hk c o (fun q' => hb (by simp [q'])) (fun q' => hb (by simp [q'])) (fun q' => hb (by simp [q'])) (fun q' => hb (by simp [q'])) q)) hf (Nat.le_refl _) new
    refine ⟨.ref s.heap.objs.size, _, I1, rfl, ⟨_, c, y, rfl, I.hok.fresh (Nat.le_refl _), rfl, hcx, fun l hl => by rw [Sq.inj I hl hqy]; exact hy⟩, ⟨z'', ?_, ⟨.str ⟨#[c]⟩ u, v2, ?_⟩, ?_, ?_⟩, fun c hcm => ?_⟩
    · exact (sb.2 _ S.TIz).trans (hk _ _ S.TIz S.TITO S.TIi1 S.TIi2 hTI)
    · exact (sb.2 _ S.TOz).trans TO'
    · obtain ⟨o1, e1, r1⟩ := st1
      exact ⟨o1, (sb.2 _ S.zi1.symm).trans e1, r1⟩
    · exact st2.1.at fun o q => (sb.2 _ S.zi2.symm).trans q
    · have hlt : c < s.heap.objs.size := by
        have e' : c = z ∨ c = TI ∨ c = TO ∨ c = i1 ∨ c = i2 := by simpa using hcm
        rcases e' with q | q | q | q | q
        · rw [q]; exact hzl
        · rw [q]; exact Heap.lt_size hTI
        · rw [q]; exact Heap.lt_size hTO
        · rw [q]; obtain ⟨_, e1, _⟩ := h1; exact Heap.lt_size e1
        · rw [q]; obtain ⟨_, e2, _⟩ := h2.live; exact Heap.lt_size e2
      rw [upd_ne (Nat.ne_of_lt hlt)]
      exact (hf c hcm).1
  done := by
    intro X hP hw hK hc i pins s σ H E I hf st hg
    subst hP hw hK
    obtain ⟨hz, hTI, ⟨x0, y0, hTO⟩, h1, h2⟩ := st
    obtain ⟨ys, hqy, l1, l2, hend⟩ := hg
    obtain ⟨its, rv, p⟩ : ∃ its, Vals ys its ∧ SqO t b its.toArray s.heap := by
      cases t
      · obtain ⟨its, rv, p, _⟩ := I.list hqy
        exact ⟨its, rv, p.isList⟩
      · obtain ⟨its, rv, p, _⟩ := I.tuple hqy
        exact ⟨its, rv, p⟩
    have hl := rv.length
    have D2 := drawsS (prog := X.prog) (w := X.w) (A := X.A.in1) (I.ok.hd hc) t i2 b hb2 its.toArray
    have D1 := Draws.text (prog := X.prog) (w := X.w) (A := X.A.in1) (I.ok.hd hc) i1 x u0
    exact wpAny_pyNext_zipD2_end S D1 D2 hz hTI hTO h1 ⟨h2, p⟩ l1 (by rw [List.size_toArray]; omega) (hend.imp id fun q => by rw [List.size_toArray]; omega) fun h' tk hk => ⟨rfl, I.turnedL (t' := tk) (ch := [z, TI, TO, i1, i2]) (fun c o hb q =>
      hk c o (fun q' => hb (by simp [q'])) (fun q' => hb (by simp [q'])) (fun q' => hb (by simp [q'])) (fun q' => hb (by simp [q'])) q) hf⟩
  self := fun A i s Q E st h => wpAny_pyIter_zip st.1 h
theorem aN (n : Nat) {a b : Nat} (h : a ≠ b) : @Ne Addr (n + a) (n + b) := fun e => h (Nat.add_left_cancel e)
theorem bN {n b : Addr} (k : Nat) (h : Nat.lt b n) : @Ne Addr b (Nat.add n k) := fun e => by
  have h1 : (b : Nat) < (n : Nat) := h
  have h2 : (b : Nat) = (n : Nat) + k := e
  exact absurd h1 (by rw [h2]; exact Nat.not_lt.mpr (Nat.le_add_right _ _))
def iZipS (K : PySem.W.Frag) (ta : TA) : TI := fun σ H R => ta σ H fun vs H1 => ∃ (t : Bool) (z : Str) (b : Addr) (ys : List V), vs = [.str z, .ref b] ∧ Sq K t H1 b ys ∧ R (Itzs K t z b) H1
theorem pi_zipS (K : PySem.W.Frag) {X : Cx} {e e2 : Expr} {ta : TA} {p pos tpos : Pos} {elts : List Expr} {kk : Nat} (hK : X.K = K) (hg : Gl X "zip") (hm : X.mg "zip" = none) (ha : PA X [e, e2] ta)
    (hs : starEach [e, e2] X.env = (false, eval e X.env) :: starEach [e2] X.env := by rfl) (hpl : (backTo pos (starEach [e2] X.env)).any (·.1) = false := by rfl) :
    PI X (.Tuple elts kk tpos) (.Call (.Name "zip" p) [e, e2] [] pos) (iZipS K ta) := by
  subst hK
  refine ⟨fun pins s σ H R I h => ?_⟩
  refine Call_ (ld_blt I hg hm PyProof.Rows.boot_zip (PyProof.Rows.callWith_type1 (thn (ha.run pos pins s σ H _ I h) fun us s1 ⟨vs, H1, I1, r1, q1⟩ => ?_) hs hpl))
  obtain ⟨t, z, b, ys, ex, hq, q⟩ := q1
  subst ex
  cases r1 with
  | cons r rr =>
    cases rr with
    | cons r' rr =>
      cases rr
      obtain ⟨u, rfl⟩ := r
      cases r'
      have fresh5 : ∀ c, c ∈ [s1.heap.objs.size + 4, s1.heap.objs.size + 2, s1.heap.objs.size + 3, s1.heap.objs.size, s1.heap.objs.size + 1] → FpOk X pins H1 c := fun c hcm => by
        have e' : c = s1.heap.objs.size + 4 ∨ c = s1.heap.objs.size + 2 ∨ c = s1.heap.objs.size + 3 ∨ c = s1.heap.objs.size ∨ c = s1.heap.objs.size + 1 := by simpa using hcm
        have hle : s1.heap.objs.size ≤ c := by
          rcases e' with z | z | z | z | z
          · rw [z]; exact Nat.le_add_right _ _
          · rw [z]; exact Nat.le_add_right _ _
          · rw [z]; exact Nat.le_add_right _ _
          · rw [z]; exact Nat.le_refl _
          · rw [z]; exact Nat.le_add_right _ _
        exact I1.fpOk hle (I1.hok.fresh hle)
      obtain ⟨its, rv, p⟩ : ∃ its, Vals ys its ∧ SqO t b its.toArray s1.heap := by
        cases t
        · obtain ⟨its, rv, p, _⟩ := I1.list hq
          exact ⟨its, rv, p.isList⟩
        · obtain ⟨its, rv, p, _⟩ := I1.tuple hq
          exact ⟨its, rv, p⟩
      have hbl : b < s1.heap.objs.size := by
        cases t
        · obtain ⟨o, ho, _⟩ := (show s1.heap.IsList b its.toArray from p)
          exact Heap.lt_size ho
        · obtain ⟨o, ho, _⟩ := (show s1.heap.IsTuple b its.toArray from p)
          exact Heap.lt_size ho
      have B2 : Begins (.ref b) { cls := .type (if t then "tuple_iterator" else "list_iterator"), data := .fields #[.ref b, .int 0 0] } (SqO t b its.toArray) := by
        cases t
        · exact begins_list b its.toArray
        · exact begins_tuple b its.toArray
      refine zip_begins2 (begins_text z u) B2 trivial p fun h' hz hTI hTO h1 h2 hsz hk => wpAny_pyIter_zip hz ?_
      have I2 : Inv X pins σ H1 { s1 with heap := h' } := I1.kept (t' := s1.toks) hk
      have S2 : ZipSep2 (s1.heap.objs.size + 4) (s1.heap.objs.size + 2) (s1.heap.objs.size + 3) s1.heap.objs.size (s1.heap.objs.size + 1) [s1.heap.objs.size] [s1.heap.objs.size + 1, b] :=
        ⟨aN _ (by decide : 2 ≠ 4), aN _ (by decide : 3 ≠ 4), aN _ (by decide : 2 ≠ 3), aN _ (by decide : 2 ≠ 0), by simp, fun h => aN _ (by decide : 4 ≠ 0) (List.mem_singleton.mp h), fun h => aN _ (by decide : 3 ≠ 0) (List.mem_singleton.mp h), aN _ (by decide : 2 ≠ 1), by simp,
          fun h => (List.mem_cons.mp h).elim (aN _ (by decide : 4 ≠ 1)) fun h => bN 4 hbl (List.mem_singleton.mp h).symm, fun h => (List.mem_cons.mp h).elim (aN _ (by decide : 3 ≠ 1)) fun h => bN 3 hbl (List.mem_singleton.mp h).symm, fun h => (List.mem_cons.mp h).elim (aN _ (by decide : 0 ≠ 1)) fun h => bN 0 hbl (List.mem_singleton.mp h).symm, fun h => aN _ (by decide : 1 ≠ 0) (List.mem_singleton.mp h)⟩
      refine ⟨s1.heap.objs.size + 4, [s1.heap.objs.size + 4, s1.heap.objs.size + 2, s1.heap.objs.size + 3, s1.heap.objs.size, s1.heap.objs.size + 1], _, _, H1, rfl, I2, turn_zipS (u0 := u) S2 (bN 1 hbl), ⟨hz, hTI, ⟨_, _, hTO⟩, ⟨_, h1, rfl, rfl⟩, ?_⟩, fresh5, q⟩
      cases t
      · exact ⟨_, h2, rfl, rfl⟩
      · exact ⟨_, h2, rfl, rfl⟩
theorem walk_zipS {K : PySem.W.Frag} {t : Bool} {z : Str} {b : Addr} {ys : List V} {n : Nat} (hn : n = min z.cps.size ys.length) :
    Walk (Itzs K t z b) n (fun H => Sq K t H b ys) (fun i H v H' => ∃ T c y, v = .ref T ∧ H T = none ∧ H' = upd H T (.tup [.str ⟨#[c]⟩, y]) ∧ z.cps[i]? = some c ∧ ys[i]? = some y) := by
  subst hn
  refine ⟨fun i H hi h => ?_, fun H h => ⟨ys, h, by omega, by omega, by omega⟩, fun i H v H' hi h y => ?_⟩
  · have h1 : i < z.cps.size := by omega
    have h2 : i < ys.length := by omega
    exact ⟨ys, z.cps[i], ys[i], h, by simp [h1], by simp [h2]⟩
  · obtain ⟨T, c, y, e1, e2, e3, e4, e5⟩ := y
    exact ⟨T, c, y, e1, e2, e3, e4, e5 ys h⟩
section
variable {J : It} {n : Nat} {G : Hp → Prop} {Y : Nat → Hp → V → Hp → Prop}
/-- a dict's comprehension over it -/
theorem dc_it (w : Walk J n G Y) {g : TG} {tt : TT} {tk tv : TE} {vs : List Nat} {σ : L2.St} {H1 : Hp} {D : Addr} {Qd : Hp → Prop} (Pv : Nat → Hp → Prop) (h0 : Pv 0 (upd H1 D (.dK []))) (hG : ∀ i H, i ≤ n → Pv i H → G H)
    (hs : ∀ i x H H', i < n → Pv i H → Y i H x H' → g x (wipe σ vs) H' fun σ2 H2 => wipe σ2 vs = wipe σ vs ∧ tt σ2 H2 fun b H3 =>
      if b = true then tk σ2 H3 fun y H4 => tv σ2 H4 fun z H5 => ∃ kvs k, y = kV k ∧ H5 D = some (.dK kvs) ∧ kvs.length < sizeLine ∧ Pv (i + 1) (upd H5 D (.dK (putK kvs k z))) else Pv (i + 1) H3) (hd : ∀ H, Pv n H → Qd H) :
    ∃ W : Nat → Nat → Hp → Prop, (∃ m, W 0 m (upd H1 D (.dK []))) ∧ ∀ i m H, W i m H →
      (J.stop i H ∧ Qd H) ∨ (J.go i H ∧ ∃ Nx : Hp → Prop, (∀ H', Nx H' → ∃ m', m' < m ∧ W (i + 1) m' H') ∧ ∀ x H', J.yld i H x H' → g x (wipe σ vs) H' fun σ2 H2 => wipe σ2 vs = wipe σ vs ∧ tt σ2 H2 fun b H3 =>
        if b = true then tk σ2 H3 fun y H4 => tv σ2 H4 fun z H5 => ∃ kvs k, y = kV k ∧ H5 D = some (.dK kvs) ∧ kvs.length < sizeLine ∧ Nx (upd H5 D (.dK (putK kvs k z))) else Nx H3) := by
  refine ⟨fun i m H => m = n - i ∧ i ≤ n ∧ Pv i H, ⟨n, by simp, Nat.zero_le _, h0⟩, ?_⟩
  rintro i m H ⟨rfl, hi, p⟩
  have q := hG i H hi p
  by_cases hlt : i < n
  · refine .inr ⟨w.goes i H hlt q, Pv (i + 1), fun H' p' => ⟨n - (i + 1), by omega, rfl, hlt, p'⟩, fun x H' y => hs i x H H' hlt p (w.yields i H x H' hlt q y)⟩
  · have e : i = n := by omega
    subst e
    exact .inl ⟨w.stops H q, hd H p⟩
end
end Lc
namespace Lc
open PySem PySem.Spec PyProof.Rows L2 Evl
section
variable {X : Cx} {CX : CXT} {k : Nat} {f C : Addr} {fd : FuncData} {ps : List Str} {sp : Sp} {E : XK}
/-! ### len(o) by an own __len__ -/
def rLenOwn (C : Addr) (sp : Sp) (E : XK) : List V → Hp → VK → Prop := fun xs H Q => ∃ a dx fs, xs = [.ref a] ∧ H a = some (.ins C dx fs) ∧ sp [.ref a] H (fun v H' => ∃ n : Nat, v = .int (n : Int) ∧ n < 1000000 ∧ Q v H') E
theorem call_lenOwn (F : FnOk X.prog X.w X.K X.mg X.base CX k f fd ps sp) (hr : Room (k + 1) X.A) (hs : PySem.W.findIn X.K (.ref C) "__len__" = some (some (.ref f))) (hf : PySem.W.isFn X.K (.ref f) = true) (hb : Binds X.K fd ps []) (hx : Passes CX X E) :
    CallR X (.builtin "len") (rLenOwn C sp E) := by
  intro pins s σ H xs us Q I r h
  obtain ⟨a, dx, fs, rfl, ha, hsp⟩ := h
  obtain ⟨u, rfl, r1⟩ := vals1 r
  obtain rfl : u = Value.ref a := r1
  obtain ⟨mA, J, _⟩ := ins_get I.hok ha
  obtain ⟨od, J, _⟩ := J.look
  refine Calls.call_function_entry kind_len plain_len entry_len (args_len1 _) ?_
  unfold Builtin.«len»
  refine wpAny_bind (m := oneArg "len" _) (wpAny_pure ?_)
  refine wpAny_bind (m := callSpecial? (.ref a) (PySem.Str.ofString "__len__")) (PySem.W.special_fn I.kIn J hs (beq_iff_eq.mp hf) (wpAny_mono (run_at (A := X.A.in1) rfl F hr.in1 hb hx I r hsp) (fun w s' hw => ?_) fun _ _ x => x))
  obtain ⟨v, H', I', rv, n, rfl, hn, q⟩ := hw
  obtain ⟨t, rfl⟩ := rv
  show wpAny _ _ _ _ _ _
  refine wpAny_bind (wpAny_holding (wpAny_pure ?_))
  refine wpAny_bind (wpAny_letGo ?_)
  show wpAny _ _ (if ((n : Nat) : Int) < 0 then _ else _) _ _ _
  rw [if_neg (by omega)]
  show wpAny _ _ (if ((n : Nat) : Int) ≥ 2 ^ 63 then _ else _) _ _ _
  rw [if_neg (by omega)]
  exact wpAny_bind (wpAny_mkInt (wpAny_pure ⟨_, rfl, .int (n : Int), H', I'.tok _, ⟨_, rfl⟩, q⟩))
end
section
variable {prog : Program} {w : World} {A : Around} {E : Value → Shared → Prop} {s : Shared}
/-! ### a, *b = a list -/
theorem star_list {l : Addr} {items : Array Value} {Q : List Value → Shared → Prop} (hh : A.handled = none) (hl : s.heap.IsList l items) (hn : 1 ≤ items.size) (hz : items.size ≤ 16384)
    (h : ∀ (h' : Heap) tk, (∀ b o, s.heap.get? b = some o → h'.get? b = some o) → Q (items.toList.take 1 ++ [.ref h'.objs.size]) { s with heap := h'.push (seqObj "list" (items.toList.drop 1).toArray 0), toks := tk }) :
    wpAny (model prog w) A (unpackItems (.ref l) 2 (some 1)) Q E s := by
  have hlt : l ≠ s.heap.objs.size := by obtain ⟨o, ho, _⟩ := hl; exact Nat.ne_of_lt (Heap.lt_size ho)
  unfold unpackItems
  refine wpAny_bind ?_
  unfold notIterableAtAll
  refine wpAny_bind (wpAny_specialOf hl.typeIs slot_list_iter.lookup ?_)
  refine wpAny_pure ?_
  simp only [Bool.false_eq_true, if_false]
  refine wpAny_bind (wpAny_holding (wpAny_pyIter_list hl ?_))
  refine wpAny_bind (wpAny_holding (PySem.W.kun_draw hlt 1 0 _ _ ⟨_, Heap.get?_push_size _ rfl, rfl, rfl⟩ (hl.push _) (by omega) fun h₁ hit₁ hs₁ => ?_))
  have hl₁ : h₁.IsList l items := (hl.push _).extBut hs₁.extBut hlt
  rw [Nat.zero_add] at hit₁
  have hit₁' := hit₁
  obtain ⟨oi, hoi, _⟩ := hit₁'
  have hl₁' := hl₁
  obtain ⟨ol, hol, _⟩ := hl₁'
  rw [List.drop_zero]
  have hfl : (items.toList.take 1).length = 1 := by rw [List.length_take, Array.length_toList]; omega
  rw [if_neg (show ¬ ((items.toList.take 1).length < 1) by rw [hfl]; omega)]
  refine wpAny_bind (wpAny_holding (PySem.W.kun_collect (s := { s with heap := h₁ }) (T := "list_iterator") (.inr (.inr (.inl rfl))) (Walks.list (A := A.in1) hh s.heap.objs.size l hlt items) (fun j u st => st.1.typeIs) (k := 1) (by omega) ⟨hit₁, hl₁⟩ (Heap.lt_size hoi) (Heap.lt_size hol) (fun h₂ tk hk => ?_) (by rw [sizeLine_eq]; omega)))
  have hrl : (items.toList.drop 1).length = items.size - 1 := by rw [List.length_drop, Array.length_toList]
  show wpAny _ _ (if (items.toList.drop 1).length < 2 - 1 - 1 then _ else _) _ _ _
  rw [if_neg (by omega)]
  show wpAny _ _ (newList ((items.toList.drop 1).take ((items.toList.drop 1).length - (2 - 1 - 1))) >>= fun d => pure (items.toList.take 1 ++ [d] ++ (items.toList.drop 1).drop ((items.toList.drop 1).length - (2 - 1 - 1)))) _ _ _
  have e1 : (items.toList.drop 1).take ((items.toList.drop 1).length - (2 - 1 - 1)) = items.toList.drop 1 := List.take_of_length_le (by omega)
  have e2 : (items.toList.drop 1).drop ((items.toList.drop 1).length - (2 - 1 - 1)) = [] := List.drop_of_length_le (by omega)
  rw [e1, e2]
  have he : ∀ b o, s.heap.get? b = some o → h₂.get? b = some o := fun b o e => hk b o (Nat.ne_of_lt (Heap.lt_size e)) (hs₁.extBut b o (Nat.ne_of_lt (Heap.lt_size e)) (Heap.get?_push_of_some _ e))
  refine wpAny_bind (wpAny_newList (wpAny_pure ?_) (by rw [hrl, sizeLine_eq]; omega))
  rw [List.append_nil]
  exact h h₂ tk he
end
def gStar (K : PySem.W.Frag) (t : TGs) : TG := fun v σ H Q => ∃ a x xs, v = .ref a ∧ SqL K H a (x :: xs) ∧ xs.length ≤ 16000 ∧ ∀ p, H p = none → t [x, .ref p] σ (upd H p (.lst xs)) Q
theorem pg_star {X : Cx} {pos : Pos} {es : List Expr} {k : Nat} {t : TGs} (hc : X.calm = true) (h : PGs X es t)
    (hn : (assignEach es X.env).length = 2 := by rfl) (hst : (assignEach es X.env).findIdx? (·.1) = some 1 := by rfl) : PG X (.Tuple es k pos) (gStar X.K t) := by
  refine ⟨fun pins s σ H v u Q I r hw => ?_⟩
  obtain ⟨a, x, xs, e1, hq, hl, hw⟩ := hw
  subst e1
  cases r
  obtain ⟨its, rv, pl, hz⟩ := I.list hq
  rw [PyProof.Rows.assign_Tuple]
  refine wpAny_bind (wpAny_standAt ?_)
  unfold unpack
  rw [hn, hst]
  have hlen := rv.length
  cases rv with
  | @cons _ u0 _ us r0 rs =>
    have hl2 := rs.length
    refine wpAny_bind (wpAny_holding (star_list (I.ok.hd hc) pl.isList (by simp) (by simp; omega) fun h' tk hk => ?_))
    have I1 : Inv X pins σ H { s with heap := h', toks := tk } := I.kept (t' := tk) hk
    have I2 : Inv X pins σ (upd H h'.objs.size (.lst xs)) { s with heap := h'.push (seqObj "list" us.toArray 0), toks := tk } :=
      I1.laid (t' := tk) (fun b u e => Heap.get?_push_of_some _ e) (Nat.le_refl _) (show ObjOk X.prog X.w _ _ _ (.lst xs) from ⟨Nat.le_trans hl (by decide), us, 0, rs, Heap.get?_push_size _ rfl⟩)
    have e0 : (List.take 1 (u0 :: us).toArray.toList ++ [Value.ref h'.objs.size]) = [u0, .ref h'.objs.size] := rfl
    have e2 : (List.drop 1 (u0 :: us).toArray.toList).toArray = us.toArray := rfl
    rw [e0, e2]
    exact h.run pins _ σ _ [x, .ref h'.objs.size] _ Q I2 (.cons r0 (.cons rfl .nil)) (hw _ (I1.hok.fresh (Nat.le_refl _)))
end Lc
namespace Lc
open PySem PySem.Spec PyProof.Rows L2 Evl
section
variable {X : Cx} {CX : CXT} {k : Nat} {f C : Addr} {fd : FuncData} {ps : List Str} {sp : Sp} {E : XK} {e : Expr} {te : TE} {pos : Pos}
/-! ### {o!s} by an own __str__ -/
def tFmtO (C : Addr) (sp : Sp) (E : XK) (te : TE) : TE := fun σ H Q => te σ H fun x H1 => ∃ a dx fs, x = .ref a ∧ H1 a = some (.ins C dx fs) ∧ sp [.ref a] H1 (fun v H' => ∃ z, v = .str z ∧ z.length ≤ sizeLine ∧ Q v H') E
theorem pe_fmtO (F : FnOk X.prog X.w X.K X.mg X.base CX k f fd ps sp) (hr : Room k X.A) (hs : PySem.W.findIn X.K (.ref C) "__str__" = some (some (.ref f))) (hf : PySem.W.isFn X.K (.ref f) = true) (hb : Binds X.K fd ps []) (hx : Passes CX X E) (he : PE X e te) :
    PE X (.FormattedValue e 115 none pos) (tFmtO C sp E te) := by
  refine ⟨fun pins s σ H Q I h => ?_⟩
  refine wpAny_FormattedValue_s (thn (he.run pins s σ H _ I h) fun v s1 hv => ?_)
  obtain ⟨x, H1, I1, r1, a, dx, fs, rfl, ha, hsp⟩ := hv
  obtain rfl : v = Value.ref a := r1
  obtain ⟨mA, J, _⟩ := ins_get I1.hok ha
  obtain ⟨od, J, _⟩ := J.look
  show wpAny _ _ (pyStrObj (.ref a)) _ _ _
  unfold pyStrObj
  refine wpAny_bind (m := cRoomFor _ _) (PySem.wpAny_cRoomFor hr.units0 ?_)
  refine wpAny_bind (m := callSpecial? (.ref a) (PySem.Str.ofString "__str__")) (PySem.W.special_fn I1.kIn J hs (beq_iff_eq.mp hf) (wpAny_mono (run_at (A := X.A) (vs := [.ref a]) rfl F hr hb hx I1 (.cons (show RelV (.ref a) (Value.ref a) from rfl) .nil) hsp) (fun w s' hw => ?_) fun _ _ x => x))
  obtain ⟨v, H', I', rv, z, rfl, hz, q⟩ := hw
  obtain ⟨t, rfl⟩ := rv
  refine wpAny_bind (wpAny_isInstance (T := "str") (b := true) rfl isSubtype_str_str ?_)
  exact wpAny_pure (wpAny_formatField_str ⟨.str z, H', I', ⟨t, rfl⟩, q⟩ ⟨.str z, H', I'.tok _, ⟨_, rfl⟩, q⟩ hz)
end
end Lc
namespace K57
open PySem PySem.Spec PyProof.Rows L2 Lc Evl
section
variable {P : Program} {w : World} {K : PySem.W.Frag} {mg : Str → Option Value} {base : Heap}
/-! ### kinds and worths -/
def Low (l : List Nat) : Prop := ∀ c ∈ l, c < 128
theorem rsumB {H : Hp} {p : Addr} {ns : List Int} (h : SqL K H p (ns.map V.int)) : RC (rSum K) [.ref p] H (.int ns.sum) := rc_sum h
theorem rc_isInt {H : Hp} {i : Int} : RC (rIsi K) [.int i, .ty "int"] H (.bl true) := fun H1 _ _ q => ⟨.int i, .ty "int", .type "int", .type "int", true, rfl, .ty _, .base (.int _), kit_ty (by decide +kernel), q H1 (Ex.refl H1)⟩
theorem rc_isBoolI {H : Hp} {i : Int} : RC (rIsi K) [.int i, .ty "bool"] H (.bl false) := fun H1 _ _ q => ⟨.int i, .ty "bool", .type "int", .type "bool", false, rfl, .ty _, .base (.int _), kit_ty (by decide +kernel), q H1 (Ex.refl H1)⟩
def kd (c : Nat) : Int := if 97 ≤ c ∧ c ≤ 100 then (c : Int) - 97 else if 65 ≤ c ∧ c ≤ 68 then (c : Int) - 65 else -1
def AB : List Nat := [65, 66, 67, 68, 97, 98, 99, 100]
theorem k_AB : Str.ofString "ABCDabcd" = S AB := by decide +kernel
theorem kd_idx : ∀ c ∈ AB, ∃ k : Nat, Txt.index0 (S AB) (S [c]) = some k ∧ ((k : Int) % 4) = kd c := by
  intro c hc
  simp only [AB, List.mem_cons, List.not_mem_nil, or_false] at hc
  rcases hc with rfl | rfl | rfl | rfl | rfl | rfl | rfl | rfl
  · exact ⟨0, by decide +kernel, by decide⟩
  · exact ⟨1, by decide +kernel, by decide⟩
  · exact ⟨2, by decide +kernel, by decide⟩
  · exact ⟨3, by decide +kernel, by decide⟩
  · exact ⟨4, by decide +kernel, by decide⟩
  · exact ⟨5, by decide +kernel, by decide⟩
  · exact ⟨6, by decide +kernel, by decide⟩
  · exact ⟨7, by decide +kernel, by decide⟩
theorem kd_out {c : Nat} (h : c ∉ AB) : kd c = -1 := by
  simp only [AB, List.mem_cons, List.not_mem_nil, or_false, not_or] at h
  unfold kd
  rw [if_neg (by omega), if_neg (by omega)]
theorem kd_lt (c : Nat) : kd c < 4 := by
  unfold kd
  split
  · omega
  · split <;> omega
def wof (ps : List Int) (l : List Nat) : Int := ((l.filter fun c => decide (0 ≤ kd c)).map fun c => ps.getD (kd c).toNat 0).sum
def Kn (n : Nat) (l : List Nat) : Prop := ∀ c ∈ l, kd c < (n : Int)
theorem getD_lt {l : List Nat} {i c : Nat} (h : l[i]? = some c) : l.getD i 0 = c ∧ c ∈ l ∧ i < l.length := by
  refine ⟨?_, List.mem_of_getElem? h, ?_⟩
  · rw [List.getD_eq_getElem?_getD, h]
    rfl
  · by_cases hh : i < l.length
    · exact hh
    · rw [List.getElem?_eq_none (by omega)] at h
      cases h
end
end K57
namespace K57
open PySem PySem.Spec PyProof.Rows L2 Lc Evl
section
variable {P : Program} {w : World} {K : PySem.W.Frag} {mg : Str → Option Value} {base : Heap}
/-! ### jumps drawn -/
theorem good_isJ {cs ds : List Nat} {z : Str} (hc : ∀ c ∈ cs, c ∈ kL) (hd : ∀ c ∈ ds, c ∈ 46 :: kL) (hz : z ∈ wys) (hl : cs.length = 2 ∨ cs.length = 3) (he : ds.length = cs.length) : isJ (cs ++ [46]) (46 :: ds) z = true := by
  refine isJ_iff.mpr ⟨hz, ?_, ?_, ?_, rfl, fun c h => ?_, fun c h => ?_⟩
  · rw [List.length_append]
    simp
    omega
  · rw [List.length_append, List.length_cons]
    simp
    omega
  · simp
  · rw [List.length_append, List.length_singleton, Nat.add_sub_cancel, List.take_left'] at h
    · exact hc c h
    · rfl
  · rcases List.mem_cons.mp h with h | h
    · exact .inl h
    · exact List.mem_cons.mp (hd c h)
theorem way3 {u : Int} (u0 : 0 ≤ u) (u1 : u < 3) : ∃ z : Str, z ∈ wys ∧ atI [V.str "right", V.str "left", V.str "both"] u = some (.str z) := by
  obtain ⟨u, rfl⟩ : ∃ k : Nat, u = (k : Int) := ⟨u.toNat, by omega⟩
  have h3 : u = 0 ∨ u = 1 ∨ u = 2 := by omega
  rcases h3 with rfl | rfl | rfl
  · exact ⟨"right", by simp [wys], rfl⟩
  · exact ⟨"left", by simp [wys], rfl⟩
  · exact ⟨"both", by simp [wys], rfl⟩
/-- what is fresh beside a box -/
theorem exB_fresh {b p : Addr} {H H' : Hp} (e : ExB b H H') (hb : Bx H' b) (hp : H' p = none) : H p = none := by
  cases hh : H p with
  | none => rfl
  | some o =>
    have hpb : p ≠ b := fun z => by
      obtain ⟨x, y, v, hx⟩ := hb
      rw [z, hx] at hp
      cases hp
    rw [e p o hpb hh] at hp
    cases hp
theorem kn_kL : ∀ n : Nat, n ≤ 4 → ∀ c ∈ kL.take n, kd c < (n : Int) := by
  intro n h
  have h5 : n = 0 ∨ n = 1 ∨ n = 2 ∨ n = 3 ∨ n = 4 := by omega
  rcases h5 with rfl | rfl | rfl | rfl | rfl <;> decide
theorem kn_dL : ∀ n : Nat, n ≤ 4 → ∀ c ∈ (46 :: kL).take (n + 1), kd c < (n : Int) := by
  intro n h
  have h5 : n = 0 ∨ n = 1 ∨ n = 2 ∨ n = 3 ∨ n = 4 := by omega
  rcases h5 with rfl | rfl | rfl | rfl | rfl <;> decide
theorem kd_46 : kd 46 = -1 := by decide
/-! ### lowered -/
def LowOf (l m : List Nat) : Prop := m.length = l.length ∧ (∀ c ∈ m, c = 46 ∨ c ∈ l) ∧ (l.getD 0 0 = 46 → m.getD 0 0 = 46)
theorem LowOf.refl (l : List Nat) : LowOf l l := ⟨rfl, fun c h => .inr h, fun h => h⟩
theorem low_put {l : List Nat} {i : Nat} (h : i < l.length) : LowOf l (l.take i ++ [46] ++ l.drop (i + 1)) := by
  refine ⟨?_, fun c hc => ?_, fun h0 => ?_⟩
  · rw [List.length_append, List.length_append, List.length_take, List.length_drop]
    simp
    omega
  · rcases List.mem_append.mp hc with hc | hc
    · rcases List.mem_append.mp hc with hc | hc
      · exact .inr (List.mem_of_mem_take hc)
      · exact .inl (List.mem_singleton.mp hc)
    · exact .inr (List.mem_of_mem_drop hc)
  · cases i with
    | zero => rfl
    | succ i =>
      cases l with
      | nil => cases h
      | cons x r => exact h0
theorem low_isJ {b a m : List Nat} {z : Str} (h : isJ b a z = true) (hm : LowOf a m) : isJ b m z = true := by
  obtain ⟨h1, h2, h3, h4, h5, h6, h7⟩ := isJ_iff.mp h
  refine isJ_iff.mpr ⟨h1, h2, by rw [hm.1]; exact h3, h4, hm.2.2 h5, h6, fun c hc => ?_⟩
  rcases hm.2.1 c hc with h8 | h8
  · exact .inl h8
  · exact h7 c h8
theorem low_kn {n : Nat} {a m : List Nat} (h : Kn n a) (hm : LowOf a m) : Kn n m := fun c hc => by
  rcases hm.2.1 c hc with h8 | h8
  · rw [h8, kd_46]
    omega
  · exact h c h8
theorem isJ_len {b a : List Nat} {z : Str} (h : isJ b a z = true) : b.length ≤ 4 ∧ a.length ≤ 4 := by
  obtain ⟨_, h2, h3, _⟩ := isJ_iff.mp h
  omega
theorem call_fst {σ : L2.St} {H : Hp} {sp : Sp} {dvs : List V} {E : XK} {ta : TA} {Q : VK} (h : ta σ H fun vs H1 => sp (vs ++ dvs) H1 Q E) : tCall sp dvs E ta σ H Q := h
theorem gtri {t : Addr} {b a : List Nat} {z : Str} {p q r : Nat} {σ : L2.St} {H : Hp} {Q : L2.St → Hp → Prop} (h : Tri H t b a z) (k : Q (((σ.set p (some (.str (S b)))).set q (some (.str (S a)))).set r (some (.str z))) H) : gTup K 3 (gCons (gName p) (gCons (gName q) (gCons (gName r) gNil))) (.ref t) σ H Q :=
  ⟨t, _, rfl, st_of h, rfl, _, _, rfl, _, _, rfl, _, _, rfl, rfl, k⟩
end
end K57
namespace K57
open PySem PySem.Spec PyProof.Rows L2 Lc Evl
section
variable {P : Program} {w : World} {K : PySem.W.Frag} {mg : Str → Option Value} {base : Heap}
/-! ### lists drawn -/
def ExN (H H' : Hp) : Prop := ∀ c o, (∀ xs, o ≠ HO.lst xs) → H c = some o → H' c = some o
theorem ExN.refl (H : Hp) : ExN H H := fun _ _ _ h => h
theorem ExN.trans {H H1 H2 : Hp} (h : ExN H H1) (h2 : ExN H1 H2) : ExN H H2 := fun c o n e => h2 c o n (h c o n e)
theorem ExN.of {H H1 : Hp} (h : Ex H H1) : ExN H H1 := fun c o _ e => h c o e
theorem ExN.b {b : Addr} {H H1 : Hp} (h : ExB b H H1) (hb : Bx H b) : ExN H H1 := fun c o n e => h c o (fun z => by
  obtain ⟨i, j, k, hb⟩ := hb
  rw [z, hb] at e
  exact n _ (Option.some.inj e).symm) e
theorem ExN.upd {H : Hp} {p : Addr} {xs : List V} {o : HO} (h : H p = some (.lst xs)) : ExN H (upd H p o) := fun c o' n e => by
  rw [upd_ne (fun z => by
    rw [z, h] at e
    exact n _ (Option.some.inj e).symm)]
  exact e
/-- what a change of lists leaves as it is -/
def Keep (R : V → Hp → Prop) : Prop := ∀ x H H', R x H → ExN H H' → R x H'
def ElB (b : Addr) (te : TE) (σ : L2.St) (H : Hp) (R : V → Hp → Prop) : Prop := ∀ Q : VK, (∀ v H2, R v H2 → ExB b H H2 → Bx H2 b → Q v H2) → te σ H Q
theorem bx_lcG {R : V → Hp → Prop} (hR : Keep R) {σ : L2.St} {H : Hp} {b : Addr} {j n : Nat} {ta : TA} {te : TE} {Q : VK} {vs : List Nat} (hw : ∀ x, wipe ((wipe σ vs).set j (some x)) vs = wipe σ vs) (hn : EvA ta σ H [.int (n : Int)]) (hb : Bx H b) (hn1 : n ≤ 1000)
    (he : ∀ i H1, i < n → ExB b H H1 → Bx H1 b → ElB b te ((wipe σ vs).set j (some (.int ((i : Nat) : Int)))) H1 R)
    (k : ∀ (xs : List V) p H', xs.length = n → (∀ x ∈ xs, R x H') → H p = none → H' p = some (.lst xs) → ExB b H H' → Bx H' b → Q (.ref p) H') :
    tLc (iRng1 ta) (gName j) tYes te vs σ H Q := by
  refine hn H (Ex.refl H) _ fun H1 e1 => ⟨(n : Int), rfl, by omega, by omega, fun D hD => ?_⟩
  have hb1 := hb.ex e1
  have hDb : D ≠ b := bx_ne hb1 hD
  refine lc_range (lo := 0) (n := n) (fun i H' => ∃ cs : List V, cs.length = i ∧ (∀ x ∈ cs, R x H') ∧ H' D = some (.lst cs) ∧ ExB b H1 H' ∧ Bx H' b) ⟨[], rfl, by simp, upd_same, ExB.of (Ex.new hD), hb1.ex (Ex.new hD)⟩ ?_ ?_
  · rintro u H' hu ⟨cs, rfl, hca, hDl, ep, bp'⟩
    refine ⟨hw _, ?_⟩
    rw [show ((0 : Int) + ((cs.length : Nat) : Int)) = ((cs.length : Nat) : Int) by omega]
    refine he cs.length H' (by omega) ((ExB.of e1).trans ep) bp' _ fun v H3 hv e3 b3 => ?_
    have h3 : H3 D = some (.lst cs) := e3 D _ hDb hDl
    refine ⟨_, h3, Nat.lt_of_lt_of_le (show _ < 2000 by omega) (by decide), cs ++ [v], by simp, ?_, upd_same, ?_, ?_⟩
    · intro x hx
      rcases List.mem_append.mp hx with hx | hx
      · exact hR x _ _ (hca x hx) ((ExN.b e3 bp').trans (ExN.upd h3))
      · rw [List.mem_singleton.mp hx]
        exact hR v _ _ hv (ExN.upd h3)
    · intro c o hc ho
      have hcD : c ≠ D := fun z => by rw [z, hD] at ho; cases ho
      rw [upd_ne hcD]
      exact e3 c o hc (ep c o hc ho)
    · obtain ⟨x, y, z, h3⟩ := b3
      exact ⟨x, y, z, by rw [upd_ne (Ne.symm hDb)]; exact h3⟩
  · rintro H' ⟨cs, hcl, hca, hDl, ep, bp'⟩
    exact k cs D H' hcl hca (fresh_back e1 hD) hDl ((ExB.of e1).trans ep) bp'
theorem lc_rngI {σ : L2.St} {H : Hp} {b : Addr} {te : TE} {Pd : Int → Prop} {g : TG} {tt : TT} {tel : TE} {vs : List Nat} {Q : VK} (h : EvI b te σ Pd) (hb : Bx H b) (k : ∀ n H1, Pd n → ExB b H H1 → Bx H1 b → tLc (iRng1 (tCons (tC (.int n)) tNil)) g tt tel vs σ H1 Q) : tLc (iRng1 (tCons te tNil)) g tt tel vs σ H Q := h H hb _ fun n H1 hn e b1 => k n H1 hn e b1
theorem ea_n {σ : L2.St} {H : Hp} {n : Int} (h : 0 ≤ n) : EvA (tCons (tC (.int n)) tNil) σ H [.int ((n.toNat : Nat) : Int)] := by
  have e : ((n.toNat : Nat) : Int) = n := by omega
  rw [e]
  exact ea_cons ev_c ea_nil
/-! ### prices -/
theorem s_retI {σ : L2.St} {H : Hp} {b : Addr} {te : TE} {Pd : Int → Prop} {D : Ends} (h : EvI b te σ Pd) (hb : Bx H b) (k : ∀ d H1, Pd d → ExB b H H1 → Bx H1 b → D.rt (.int d) H1) : tRet te D σ H := h H hb _ k
theorem q_asgI {σ : L2.St} {H : Hp} {b : Addr} {te : TE} {Pd : Int → Prop} {D : Ends} {i : Nat} {tz : TS} (h : EvI b te σ Pd) (hb : Bx H b) (k : ∀ d H1, Pd d → ExB b H H1 → Bx H1 b → tz D (σ.set i (some (.int d))) H1) : tSeq (tAsg te (gName i)) tz D σ H := h H hb _ k
def RI (lo hi : Int) (x : V) (_ : Hp) : Prop := ∃ n : Int, x = .int n ∧ lo ≤ n ∧ n ≤ hi
theorem keep_RI {lo hi : Int} : Keep (RI lo hi) := fun _ _ _ h _ => h
theorem ints_of {lo hi : Int} {H : Hp} : ∀ {xs : List V}, (∀ x ∈ xs, RI lo hi x H) → ∃ ps : List Int, xs = ps.map V.int ∧ ∀ n ∈ ps, lo ≤ n ∧ n ≤ hi
  | [], _ => ⟨[], rfl, by simp⟩
  | x :: r, h => by
    obtain ⟨ps, e, hp⟩ := ints_of (xs := r) fun y hy => h y (List.mem_cons_of_mem _ hy)
    obtain ⟨n, rfl, h1, h2⟩ := h x (List.mem_cons_self ..)
    refine ⟨n :: ps, by rw [e]; rfl, fun m hm => ?_⟩
    rcases List.mem_cons.mp hm with rfl | hm
    · exact ⟨h1, h2⟩
    · exact hp m hm
def OkP (ps : List Int) : Prop := 1 ≤ ps.length ∧ ps.length ≤ 4 ∧ ∀ n ∈ ps, 1 ≤ n ∧ n ≤ 1000
/-! ### rows -/
abbrev Jm := List Nat × List Nat × Str
def TJ (H : Hp) (q : Addr × Jm) : Prop := Tri H q.1 q.2.1 q.2.2.1 q.2.2.2 ∧ isJ q.2.1 q.2.2.1 q.2.2.2 = true
theorem TJ.n {H H' : Hp} {q : Addr × Jm} (h : TJ H q) (e : ExN H H') : TJ H' q := ⟨e _ _ (fun _ z => by cases z) h.1, h.2⟩
def Rws (H : Hp) (p : Addr) (L : List (Addr × Jm)) : Prop := H p = some (.lst (L.map fun q => V.ref q.1)) ∧ ∀ q ∈ L, TJ H q
theorem Rws.exB {b : Addr} {H H' : Hp} {p : Addr} {L : List (Addr × Jm)} (h : Rws H p L) (hb : Bx H b) (hp : p ≠ b) (e : ExB b H H') : Rws H' p L := ⟨e p _ hp h.1, fun q hq => (h.2 q hq).n (ExN.b e hb)⟩
theorem Rws.ex {H H' : Hp} {p : Addr} {L : List (Addr × Jm)} (h : Rws H p L) (e : Ex H H') : Rws H' p L := ⟨e _ _ h.1, fun q hq => (h.2 q hq).n (ExN.of e)⟩
def RT (x : V) (H : Hp) : Prop := ∃ q : Addr × Jm, x = .ref q.1 ∧ TJ H q
theorem keep_RT : Keep RT := fun _ _ _ h e => by
  obtain ⟨q, hx, h⟩ := h
  exact ⟨q, hx, h.n e⟩
theorem rows_of {H : Hp} : ∀ {xs : List V}, (∀ x ∈ xs, RT x H) → ∃ L : List (Addr × Jm), xs = L.map (fun q => V.ref q.1) ∧ ∀ q ∈ L, TJ H q
  | [], _ => ⟨[], rfl, by simp⟩
  | x :: r, h => by
    obtain ⟨L, e, hp⟩ := rows_of (xs := r) fun y hy => h y (List.mem_cons_of_mem _ hy)
    obtain ⟨q, rfl, h1⟩ := h x (List.mem_cons_self ..)
    refine ⟨q :: L, by rw [e]; rfl, fun m hm => ?_⟩
    rcases List.mem_cons.mp hm with rfl | hm
    · exact h1
    · exact hp m hm
theorem shp3 {u : Int} (u0 : 0 ≤ u) (u1 : u < 3) : ∃ a : List Nat, a.length = 3 ∧ a.getD 0 0 = 46 ∧ (∀ c ∈ a, c = 46 ∨ c ∈ kL) ∧ atI [V.str "...", V.str "..a", V.str ".a."] u = some (.str (S a)) := by
  obtain ⟨u, rfl⟩ : ∃ k : Nat, u = (k : Int) := ⟨u.toNat, by omega⟩
  have h3 : u = 0 ∨ u = 1 ∨ u = 2 := by omega
  rcases h3 with rfl | rfl | rfl
  · exact ⟨[46, 46, 46], rfl, rfl, by decide, congrArg (fun z => some (V.str z)) (by decide +kernel : ("..." : Str) = S [46, 46, 46])⟩
  · exact ⟨[46, 46, 97], rfl, rfl, by decide, congrArg (fun z => some (V.str z)) (by decide +kernel : ("..a" : Str) = S [46, 46, 97])⟩
  · exact ⟨[46, 97, 46], rfl, rfl, by decide, congrArg (fun z => some (V.str z)) (by decide +kernel : (".a." : Str) = S [46, 97, 46])⟩
theorem shp7 {u : Int} (u0 : 0 ≤ u) (u1 : u < 7) : ∃ a : List Nat, a.length = 4 ∧ a.getD 0 0 = 46 ∧ (∀ c ∈ a, c = 46 ∨ c ∈ kL) ∧ atI [V.str "....", V.str "...a", V.str "..a.", V.str "..aa", V.str ".a..", V.str ".a.a", V.str ".aa."] u = some (.str (S a)) := by
  obtain ⟨u, rfl⟩ : ∃ k : Nat, u = (k : Int) := ⟨u.toNat, by omega⟩
  have h3 : u = 0 ∨ u = 1 ∨ u = 2 ∨ u = 3 ∨ u = 4 ∨ u = 5 ∨ u = 6 := by omega
  rcases h3 with rfl | rfl | rfl | rfl | rfl | rfl | rfl
  · exact ⟨[46, 46, 46, 46], rfl, rfl, by decide, congrArg (fun z => some (V.str z)) (by decide +kernel : ("...." : Str) = S [46, 46, 46, 46])⟩
  · exact ⟨[46, 46, 46, 97], rfl, rfl, by decide, congrArg (fun z => some (V.str z)) (by decide +kernel : ("...a" : Str) = S [46, 46, 46, 97])⟩
  · exact ⟨[46, 46, 97, 46], rfl, rfl, by decide, congrArg (fun z => some (V.str z)) (by decide +kernel : ("..a." : Str) = S [46, 46, 97, 46])⟩
  · exact ⟨[46, 46, 97, 97], rfl, rfl, by decide, congrArg (fun z => some (V.str z)) (by decide +kernel : ("..aa" : Str) = S [46, 46, 97, 97])⟩
  · exact ⟨[46, 97, 46, 46], rfl, rfl, by decide, congrArg (fun z => some (V.str z)) (by decide +kernel : (".a.." : Str) = S [46, 97, 46, 46])⟩
  · exact ⟨[46, 97, 46, 97], rfl, rfl, by decide, congrArg (fun z => some (V.str z)) (by decide +kernel : (".a.a" : Str) = S [46, 97, 46, 97])⟩
  · exact ⟨[46, 97, 97, 46], rfl, rfl, by decide, congrArg (fun z => some (V.str z)) (by decide +kernel : (".aa." : Str) = S [46, 97, 97, 46])⟩
/-- an operator over a new list -/
theorem ev_opL2 {σ : L2.St} {H : Hp} {r : R2} {ta tb : TE} {xs : List V} {y v : V} (ha : EvL ta σ H xs) (hb : ∀ H1, Ex H H1 → Ev tb σ H1 y) (hr : ∀ p H1, H1 p = some (.lst xs) → RV r (.ref p) y H1 v) : Ev (tOp r ta tb) σ H v := fun H1 e Q q =>
  ha H1 e _ fun p H2 hp e2 h2 => hb H2 (e.trans e2) H2 (Ex.refl H2) _ fun H3 e3 => hr p H3 (e3 _ _ h2) H3 (Ex.refl H3) _ fun H4 e4 => q H4 ((e2.trans e3).trans e4)
end
end K57
namespace K57
open PySem PySem.Spec PyProof.Rows L2 Lc Evl
section
variable {P : Program} {w : World} {K : PySem.W.Frag} {mg : Str → Option Value} {base : Heap}
/-! ### rows drawn -/
theorem exB_new {c : Addr} {H H1 H2 : Hp} (hc : H c = none) (e1 : Ex H H1) (e2 : ExB c H1 H2) : Ex H H2 := fun x o hx => e2 x o (fun z => by rw [z, hc] at hx; cases hx) (e1 x o hx)
end
end K57
namespace K57
open PySem PySem.Spec PyProof.Rows L2 Lc Evl
section
variable {P : Program} {w : World} {K : PySem.W.Frag} {mg : Str → Option Value} {base : Heap}
/-! ### rows bent -/
theorem cutV_to (xs : List V) (i : Nat) : cutV xs none (some (i : Int)) = xs.take i := by
  unfold cutV
  rw [HT.sIx_none, HT.sIx_nat, List.drop_zero, Nat.sub_zero]
  by_cases h : i ≤ xs.length
  · rw [Nat.min_eq_left h]
  · rw [Nat.min_eq_right (by omega), List.take_of_length_le (Nat.le_refl _), List.take_of_length_le (by omega)]
theorem cutV_from (xs : List V) (i : Nat) : cutV xs (some (i : Int)) none = xs.drop i := by
  unfold cutV
  rw [HT.sIx_none, HT.sIx_nat]
  by_cases h : i ≤ xs.length
  · rw [Nat.min_eq_left h, List.take_of_length_le (by rw [List.length_drop]; omega)]
  · rw [Nat.min_eq_right (by omega), List.drop_of_length_le (Nat.le_refl _), List.drop_of_length_le (by omega), List.take_nil]
theorem el_to {σ : L2.St} {H : Hp} {te ti : TE} {a : Addr} {xs : List V} {i : Nat} (h : Ev te σ H (.ref a)) (hi : Ev ti σ H (.int (i : Int))) (hs : SqL K H a xs) : EvL (tSl (rSlL K) te tNoPart (tPart ti)) σ H (xs.take i) := by
  have h2 := el_sl h eo_none (eo_some hi) hs
  rw [cutV_to] at h2
  exact h2
theorem el_from {σ : L2.St} {H : Hp} {te ti : TE} {a : Addr} {xs : List V} {i : Nat} (h : Ev te σ H (.ref a)) (hi : Ev ti σ H (.int (i : Int))) (hs : SqL K H a xs) : EvL (tSl (rSlL K) te (tPart ti) tNoPart) σ H (xs.drop i) := by
  have h2 := el_sl h (eo_some hi) eo_none hs
  rw [cutV_from] at h2
  exact h2
theorem el_catN {σ : L2.St} {H : Hp} {ta tb : TE} {xs ys : List V} (h1 : EvL ta σ H xs) (h2 : EvL tb σ H ys) (hz : xs.length + ys.length ≤ 100000) : EvL (tOp rCat ta tb) σ H (xs ++ ys) := fun H1 e Q q =>
  h1 H1 e _ fun p H2 hp e2 hp2 => h2 H2 (e.trans e2) _ fun p' H3 hp' e3 h3 => ⟨p, p', xs, ys, rfl, rfl, e3 _ _ hp2, h3, sz_of hz, fun l hl => q l _ (fresh_back e2 (fresh_back e3 hl)) ((e2.trans e3).trans (Ex.new hl)) upd_same⟩
theorem el_catV {σ : L2.St} {H : Hp} {a : Addr} {ta tb : TE} {xs ys : List V} (ha : Ev ta σ H (.ref a)) (h1 : H a = some (.lst xs)) (hb : EvL tb σ H ys) (hz : xs.length + ys.length ≤ 100000) : EvL (tOp rCat ta tb) σ H (xs ++ ys) := fun H1 e Q q =>
  ha H1 e _ fun H2 e2 => hb H2 (e.trans e2) _ fun p H3 hp e3 h3 => ⟨a, p, xs, ys, rfl, rfl, ((e.trans e2).trans e3) _ _ h1, h3, sz_of hz, fun l hl => q l _ (fresh_back e2 (fresh_back e3 hl)) ((e2.trans e3).trans (Ex.new hl)) upd_same⟩
/-- a list put together around an expression that draws -/
theorem ret_mid {σ : L2.St} {H : Hp} {b p : Addr} {te : TE} {D : Ends} {xs : List V} {at_ : Nat} {R : V → Hp → Prop} (hR : Keep R) (h : ∀ H1, ExB b H H1 → Bx H1 b → ElB b te σ H1 R) (hb : Bx H b) (hp : H p = some (.lst xs)) (hpb : p ≠ b) (hz : xs.length ≤ 1000) (h1 : σ[1]? = some (some (.ref p))) (h3 : σ[3]? = some (some (.int (at_ : Int))))
    (k : ∀ m v H', H m = none → R v H' → ExB b H H' → Bx H' b → H' m = some (.lst (xs.take at_ ++ [v] ++ xs.drop (at_ + 1))) → D.rt (.ref m) H') :
    tRet (tOp rCat (tOp rCat (tSl (rSlL K) (tVar 1) tNoPart (tPart (tVar 3))) (tLst (tCons te tNil))) (tSl (rSlL K) (tVar 1) (tPart (tOp (rI0 fun i j => V.int (i + j)) (tVar 3) (tC (V.int 1)))) tNoPart)) D σ H := by
  refine ret_fst (op_fst (op_fst ?_))
  refine el_to (ev_var h1) (ev_var h3) (sq_of hp) H (Ex.refl H) _ fun l1 H1 hl1 e1 hl1' => ?_
  have l1b := bx_ne hb hl1
  refine cons_fst (h H1 (ExB.of e1) (hb.ex e1) _ fun v H2 hv e2 b2 => ?_)
  have x2 : ExB b H H2 := (ExB.of e1).trans e2
  refine ⟨sz_of (by simp), fun l2 hl2 => ?_⟩
  have g1 : H2 l1 = some (.lst (xs.take at_)) := e2 _ _ l1b hl1'
  have n21 : l1 ≠ l2 := fun z => by rw [z, hl2] at g1; cases g1
  have lt : (xs.take at_).length ≤ 1000 := by rw [List.length_take]; omega
  refine ⟨l1, l2, _, _, rfl, rfl, by rw [upd_ne n21]; exact g1, upd_same, sz_of (by simp only [List.length_singleton]; omega), fun l3 hl3 => ?_⟩
  have e3 : Ex H2 (upd H2 l2 (.lst [v])) := Ex.new hl2
  generalize upd H2 l2 (.lst [v]) = H3 at hl3 e3 ⊢
  have e4 : Ex H3 (upd H3 l3 (.lst (xs.take at_ ++ [v]))) := Ex.new hl3
  have g3 : upd H3 l3 (.lst (xs.take at_ ++ [v])) l3 = some (.lst (xs.take at_ ++ [v])) := upd_same
  generalize upd H3 l3 (.lst (xs.take at_ ++ [v])) = H4 at e4 g3 ⊢
  have e24 := e3.trans e4
  have x4 : ExB b H H4 := x2.trans (ExB.of e24)
  have p4 : H4 p = some (.lst xs) := x4 p _ hpb hp
  refine el_from (i := at_ + 1) (ev_var h1) (by rw [show ((at_ + 1 : Nat) : Int) = (at_ : Int) + 1 by omega]; exact ev_op (ev_var h3) ev_c rv_I0) (sq_of p4) H4 (Ex.refl H4) _ fun l5 H5 hl5 e5 h5 => ?_
  have ld : (xs.drop (at_ + 1)).length ≤ 1000 := by rw [List.length_drop]; omega
  refine ⟨l3, l5, _, _, rfl, rfl, e5 _ _ g3, h5, sz_of (by rw [List.length_append, List.length_singleton]; omega), fun l6 hl6 => ?_⟩
  have x5 : ExB b H H5 := x4.trans (ExB.of e5)
  have b5 : Bx H5 b := b2.ex (e24.trans e5)
  exact k l6 v _ (exB_fresh x5 b5 hl6) (hR v _ _ hv (ExN.of ((e24.trans e5).trans (Ex.new hl6)))) (x5.trans (ExB.of (Ex.new hl6))) (b5.ex (Ex.new hl6)) upd_same
theorem elb_tup {b : Addr} {σ : L2.St} {H : Hp} {ta : TA} {b' a' : List Nat} {z : Str} (hb : Bx H b) (h : EvA ta σ H [.str (S b'), .str (S a'), .str z]) (hi : isJ b' a' z = true) : ElB b (tTup ta) σ H RT := fun Q q =>
  h H (Ex.refl H) _ fun H1 e1 => ⟨sz_of (by simp), fun p hp => q _ _ ⟨(p, b', a', z), rfl, upd_same, hi⟩ (ExB.of (e1.trans (Ex.new hp))) (hb.ex (e1.trans (Ex.new hp)))⟩
theorem list3 {l : List Nat} (h : l.length = 3) : ∃ x y u, l = [x, y, u] := by
  match l, h with
  | [x, y, u], _ => exact ⟨x, y, u, rfl⟩
theorem list4 {l : List Nat} (h : l.length = 4) : ∃ x y u v, l = [x, y, u, v] := by
  match l, h with
  | [x, y, u, v], _ => exact ⟨x, y, u, v, rfl⟩
def put1 (l : List Nat) (i c : Nat) : List Nat := l.take i ++ [c] ++ l.drop (i + 1)
theorem isJ_putB {b a : List Nat} {z : Str} {i c : Nat} (h : isJ b a z = true) (hc : c ∈ kL) (hi : i < b.length - 1) : isJ (put1 b i c) a z = true := by
  obtain ⟨h1, h2, h3, h4, h5, h6, h7⟩ := isJ_iff.mp h
  rcases h2 with h2 | h2
  · obtain ⟨x, y, u, rfl⟩ := list3 h2
    have hi2 : i = 0 ∨ i = 1 := by
      simp at hi
      omega
    rcases hi2 with rfl | rfl <;> refine isJ_iff.mpr ⟨h1, by simp [put1], by simp [put1]; simpa using h3, by simpa [put1] using h4, h5, ?_, h7⟩ <;> simp [put1] at h6 ⊢ <;> simp [hc, h6]
  · obtain ⟨x, y, u, v, rfl⟩ := list4 h2
    have hi2 : i = 0 ∨ i = 1 ∨ i = 2 := by
      simp at hi
      omega
    rcases hi2 with rfl | rfl | rfl <;> refine isJ_iff.mpr ⟨h1, by simp [put1], by simp [put1]; simpa using h3, by simpa [put1] using h4, h5, ?_, h7⟩ <;> simp [put1] at h6 ⊢ <;> simp [hc, h6]
theorem isJ_putA {b a : List Nat} {z : Str} {i c : Nat} (h : isJ b a z = true) (hc : c ∈ kL) (h0 : 0 < i) (hi : i < a.length) : isJ b (put1 a i c) z = true := by
  obtain ⟨h1, h2, h3, h4, h5, h6, h7⟩ := isJ_iff.mp h
  refine isJ_iff.mpr ⟨h1, h2, ?_, h4, ?_, h6, fun x hx => ?_⟩
  · unfold put1
    rw [List.length_append, List.length_append, List.length_take, List.length_drop, List.length_singleton]
    omega
  · cases a with
    | nil => cases hi
    | cons x r =>
      cases i with
      | zero => cases h0
      | succ i => exact h5
  · unfold put1 at hx
    rcases List.mem_append.mp hx with hx | hx
    · rcases List.mem_append.mp hx with hx | hx
      · exact h7 x (List.mem_of_mem_take hx)
      · rw [List.mem_singleton.mp hx]
        exact .inr hc
    · exact h7 x (List.mem_of_mem_drop hx)
theorem isJ_shift {b a : List Nat} {z : Str} (h : isJ b a z = true) : isJ b (46 :: b.take (b.length - 1)) z = true := by
  obtain ⟨h1, h2, h3, h4, h5, h6, h7⟩ := isJ_iff.mp h
  refine isJ_iff.mpr ⟨h1, h2, ?_, h4, rfl, h6, fun x hx => ?_⟩
  · rw [List.length_cons, List.length_take]
    omega
  · rcases List.mem_cons.mp hx with hx | hx
    · exact .inl hx
    · exact .inr (h6 x hx)
/-! ### lists of tuples compared -/
theorem dps_of {α : Type} {d : α → PyData} {H : Hp} : ∀ (L : List (Addr × α)), (∀ q ∈ L, Dp K H (.ref q.1) (d q.2)) → DpAll K H (L.map fun q => V.ref q.1) (L.map fun q => d q.2)
  | [], _ => .nil
  | q :: r, h => .cons (h q (List.mem_cons_self ..)) (dps_of r fun x hx => h x (List.mem_cons_of_mem _ hx))
theorem lay_mem {α : Type} {d : α → PyData} : ∀ (L : List α), (∀ q ∈ L, (d q).canLay0 = true) → PyData.canLayAll0 (L.map d) = true
  | [], _ => rfl
  | x :: r, h => by
    show (PyData.canLay0 (d x) && PyData.canLayAll0 (r.map d)) = true
    rw [h x (List.mem_cons_self ..), lay_mem r fun y hy => h y (List.mem_cons_of_mem _ hy)]
    rfl
theorem sh_mem {α : Type} {d : α → PyData} (L : List α) (h1 : ∀ q ∈ L, (d q).canLay0 = true) (h2 : ∀ x, (d x).depth ≤ 3) : SeqAt.shaped (.list (L.map d)) = true := by
  have h := depth_of h2 L
  unfold SeqAt.shaped
  rw [Bool.and_eq_true]
  refine ⟨lay_mem L h1, decide_eq_true ?_⟩
  simp only [PyData.depth]
  omega
theorem strOk_S {l : List Nat} (h : Low l) : PyData.strOk (S l) = true := by
  show l.toArray.all (fun x => decide (x < 1114112)) = true
  rw [List.all_toArray, List.all_eq_true]
  intro c hc
  have := h c hc
  exact decide_eq_true (by omega)
theorem strOk_w {z : Str} (h : z ∈ wys) : PyData.strOk z = true := by
  simp only [wys, List.mem_cons, List.not_mem_nil, or_false] at h
  rcases h with rfl | rfl | rfl <;> decide +kernel
theorem beq_S {x y : List Nat} : (S x == S y) = decide (x = y) := by
  rw [Bool.eq_iff_iff]
  simp only [beq_iff_eq, decide_eq_true_eq]
  exact ⟨fun h => S_inj h, fun h => by rw [h]⟩
def dJ (x : Jm) : PyData := .tuple [.str (S x.1), .str (S x.2.1), .str x.2.2]
abbrev Pr2 := List Nat × List Nat
def dP (x : Pr2) : PyData := .tuple [.str (S x.1), .str (S x.2)]
theorem dJ_depth (x : Jm) : (dJ x).depth ≤ 3 := by simp [dJ, PyData.depth, PyData.depthAll]
theorem dP_depth (x : Pr2) : (dP x).depth ≤ 3 := by simp [dP, PyData.depth, PyData.depthAll]
theorem dJ_eqv (x y : Jm) : PyData.eqv (dJ x) (dJ y) = decide (x = y) := by
  obtain ⟨b, a, z⟩ := x
  obtain ⟨b2, a2, z2⟩ := y
  have hz : (z == z2) = decide (z = z2) := by
    rw [Bool.eq_iff_iff]
    simp
  unfold dJ
  simp only [PyData.eqv, PyData.eqvAll, beq_S, hz, Bool.and_true]
  rw [Bool.eq_iff_iff]
  simp
theorem dP_eqv (x y : Pr2) : PyData.eqv (dP x) (dP y) = decide (x = y) := by
  obtain ⟨b, a⟩ := x
  obtain ⟨b2, a2⟩ := y
  unfold dP
  simp only [PyData.eqv, PyData.eqvAll, beq_S, Bool.and_true]
  rw [Bool.eq_iff_iff]
  simp
theorem lows_isJ {b a : List Nat} {z : Str} (h : isJ b a z = true) : Low b ∧ Low a ∧ z ∈ wys := by
  obtain ⟨hz, _, _, gb, ga⟩ := isJ_parts h
  exact ⟨fun c hc => sg_low c (gb c hc), fun c hc => sg_low c (ga c hc), hz⟩
def VJ (x : Jm) : Prop := isJ x.1 x.2.1 x.2.2 = true
theorem dJ_lay {x : Jm} (h : VJ x) : (dJ x).canLay0 = true := by
  obtain ⟨h1, h2, h3⟩ := lows_isJ h
  simp [dJ, PyData.canLay0, PyData.canLayAll0, strOk_S h1, strOk_S h2, strOk_w h3]
theorem dP_lay {x : Pr2} (h1 : Low x.1) (h2 : Low x.2) : (dP x).canLay0 = true := by
  simp [dP, PyData.canLay0, PyData.canLayAll0, strOk_S h1, strOk_S h2]
theorem dp_TJ {H : Hp} {q : Addr × Jm} (h : TJ H q) : Dp K H (.ref q.1) (dJ q.2) := .tup (st_of h.1) (.cons (.str _) (.cons (.str _) (.cons (.str _) .nil)))
theorem dp_Rws {H : Hp} {p : Addr} {L : List (Addr × Jm)} (h : Rws H p L) : Dp K H (.ref p) (.list ((L.map (·.2)).map dJ)) := by
  rw [List.map_map]
  exact .lst (sq_of h.1) (dps_of L fun q hq => dp_TJ (h.2 q hq))
theorem vj_Rws {H : Hp} {p : Addr} {L : List (Addr × Jm)} (h : Rws H p L) : ∀ x ∈ L.map (·.2), VJ x := fun x hx => by
  obtain ⟨q, hq, rfl⟩ := List.mem_map.mp hx
  exact (h.2 q hq).2
theorem sh_Rws {H : Hp} {p : Addr} {L : List (Addr × Jm)} (h : Rws H p L) : SeqAt.shaped (.list ((L.map (·.2)).map dJ)) = true := sh_mem _ (fun q hq => dJ_lay (vj_Rws h q hq)) dJ_depth
theorem eqv_Jms (F G : List Jm) : PyData.eqv (.list (F.map dJ)) (.list (G.map dJ)) = decide (F = G) := by
  simp only [PyData.eqv]
  exact eqvAll_of dJ_eqv F G
theorem rv_eqRws {H : Hp} {p q : Addr} {L M : List (Addr × Jm)} (h : Rws H p L) (hq : Rws H q M) : RV (rEqD K) (.ref p) (.ref q) H (.bl (decide (L.map (·.2) = M.map (·.2)))) := fun H1 e Q k =>
  ⟨_, _, dp_Rws (h.ex e), dp_Rws (hq.ex e), sh_Rws h, sh_Rws hq, by rw [eqv_Jms]; exact k H1 (Ex.refl H1)⟩
theorem rv_neRws {H : Hp} {p q : Addr} {L M : List (Addr × Jm)} (h : Rws H p L) (hq : Rws H q M) : RV (rNeD K) (.ref p) (.ref q) H (.bl (!decide (L.map (·.2) = M.map (·.2)))) := fun H1 e Q k =>
  ⟨_, _, dp_Rws (h.ex e), dp_Rws (hq.ex e), sh_Rws h, sh_Rws hq, by rw [eqv_Jms]; exact k H1 (Ex.refl H1)⟩
theorem rws_nil {H : Hp} {p : Addr} (h : H p = some (.lst [])) : Rws H p [] := ⟨h, fun q hq => by cases hq⟩
theorem any_eqv {α : Type} {d : α → PyData} (he : ∀ x y, PyData.eqv (d x) (d y) = true ↔ x = y) (L : List α) (x : α) [Decidable (x ∈ L)] : ((L.map d).any fun z => PyData.eqv z (d x)) = decide (x ∈ L) := by
  rw [Bool.eq_iff_iff, List.any_map]
  simp only [List.any_eq_true, Function.comp, he, decide_eq_true_eq]
  exact ⟨fun ⟨y, hy, h⟩ => h ▸ hy, fun h => ⟨x, h, rfl⟩⟩
theorem dJ_iff (x y : Jm) : PyData.eqv (dJ x) (dJ y) = true ↔ x = y := by rw [dJ_eqv, decide_eq_true_eq]
theorem dP_iff (x y : Pr2) : PyData.eqv (dP x) (dP y) = true ↔ x = y := by rw [dP_eqv, decide_eq_true_eq]
theorem rv_inRws {H : Hp} {q : Addr × Jm} {p : Addr} {L : List (Addr × Jm)} (hq : TJ H q) (h : Rws H p L) : RV (rInD K) (.ref q.1) (.ref p) H (.bl (decide (q.2 ∈ L.map (·.2)))) := fun H1 e Q k =>
  ⟨_, _, dp_TJ (hq.n (ExN.of e)), dp_Rws (h.ex e), by
    have h1 := dJ_lay hq.2
    have h2 := dJ_depth q.2
    unfold SeqAt.shaped
    rw [Bool.and_eq_true]
    exact ⟨h1, decide_eq_true (by omega)⟩, sh_Rws h, by rw [any_eqv dJ_iff]; exact k H1 (Ex.refl H1)⟩
end
end K57
namespace K57
open PySem PySem.Spec PyProof.Rows L2 Lc Evl
section
variable {P : Program} {w : World} {K : PySem.W.Frag} {mg : Str → Option Value} {base : Heap}
/-! ### rows and prices bent -/
theorem asgT_fst {σ : L2.St} {H : Hp} {te : TE} {g : TG} {tz : TS} {D : Ends} (h : te σ H fun v H1 => g v σ H1 fun σ2 H2 => tz D σ2 H2) : tSeq (tAsg te g) tz D σ H := h
theorem q_ifI {σ : L2.St} {H : Hp} {b : Addr} {te : TE} {Pd : Int → Prop} {c : Int} {tu tw tz : TS} {D : Ends} (h : EvI b te σ Pd) (hb : Bx H b) (k1 : ∀ H1, ExB b H H1 → Bx H1 b → tu { D with nx := tz D } σ H1) (k2 : ∀ H1, ExB b H H1 → Bx H1 b → tw { D with nx := tz D } σ H1) : tSeq (tIfS (tTest (tOp rEq te (tC (.int c)))) tu tw) tz D σ H :=
  h H hb _ fun d H1 hd e b1 => by
    refine ev_c (v := .int c) H1 (Ex.refl H1) _ fun H1' e1' => ?_
    refine rv_eqII (a := d) (b := c) H1' (Ex.refl H1') _ fun H2 e2' => ⟨_, rfl, ?_⟩
    have e2 := e1'.trans e2'
    dsimp only
    by_cases hh : d = c
    · rw [if_pos (decide_eq_true hh)]
      exact k1 H2 (e.trans (ExB.of e2)) (b1.ex e2)
    · rw [if_neg (by simp [hh])]
      exact k2 H2 (e.trans (ExB.of e2)) (b1.ex e2)
theorem at_Rws {L : List (Addr × Jm)} {i : Nat} (h : i < L.length) : ∃ q, q ∈ L ∧ L[i]? = some q ∧ atI (L.map fun q => V.ref q.1) (i : Int) = some (.ref q.1) := by
  refine ⟨L[i], List.getElem_mem h, List.getElem?_eq_getElem h, ?_⟩
  rw [atI_i (by omega) (by rw [List.length_map]; omega) V.non, List.getD_eq_getElem?_getD, List.getElem?_map, Int.toNat_natCast, List.getElem?_eq_getElem h]
  rfl
theorem rws_list {H : Hp} {p : Addr} {L : List (Addr × Jm)} {xs : List V} (h : H p = some (.lst xs)) (e : xs = L.map fun q => V.ref q.1) (hq : ∀ q ∈ L, TJ H q) : Rws H p L := ⟨by rw [h, e], hq⟩
end
end K57
namespace K57
open PySem PySem.Spec PyProof.Rows L2 Lc Evl
section
variable {P : Program} {w : World} {K : PySem.W.Frag} {mg : Str → Option Value} {base : Heap}
/-! ### prices bent -/
def OkB (qs : List Int) : Prop := qs.length ≤ 8 ∧ ∀ n ∈ qs, -2 ≤ n ∧ n ≤ 3000000
theorem elb_I {b : Addr} {te : TE} {σ : L2.St} {H : Hp} {lo hi : Int} (h : EvI b te σ fun n => lo ≤ n ∧ n ≤ hi) (hb : Bx H b) : ElB b te σ H (RI lo hi) := fun Q q => h H hb _ fun n H2 hn e b2 => q _ H2 ⟨n, rfl, hn⟩ e b2
theorem mem_mid {α : Type} {l : List α} {i : Nat} {x y : α} (h : y ∈ l.take i ++ [x] ++ l.drop (i + 1)) : y ∈ l ∨ y = x := by
  rcases List.mem_append.mp h with h | h
  · rcases List.mem_append.mp h with h | h
    · exact .inl (List.mem_of_mem_take h)
    · exact .inr (List.mem_singleton.mp h)
  · exact .inl (List.mem_of_mem_drop h)
end
end K57
namespace Lc
open PySem PySem.Spec PyProof.Rows L2 Evl
/-! ### a sign replaced, lower and upper case, over lists of signs below 128 -/
theorem repl1 (a b : Nat) : ∀ l : List Nat, StrLaws.replL [a] [b] l = l.map fun c => if c = a then b else c
  | [] => StrLaws.replL_nil
  | c :: r => by
    by_cases h : c = a
    · rw [StrLaws.replL_hit (by simp) (by simp [h]), List.map_cons, if_pos h]
      show [b] ++ StrLaws.replL [a] [b] r = _
      rw [repl1 a b r]
      rfl
    · rw [StrLaws.replL_miss (by simpa using h), List.map_cons, if_neg h, repl1 a b r]
theorem replace_S (a b : Nat) (l : List Nat) : Txt.replace (S l) (S [a]) (S [b]) = S (l.map fun c => if c = a then b else c) := by
  rw [← S_tl (Txt.replace _ _ _)]
  refine congrArg S ?_
  rw [StrLaws.replace_list (by rw [S_len]; simp)]
  exact repl1 a b l
theorem lower_S {l : List Nat} (h : ∀ c ∈ l, c < 128) : Txt.lower (S l) = S (l.map lo1) := by
  rw [lower_ascii (x := S l) h]
  exact congrArg Str.mk (by simp [S])
theorem upper_S {l : List Nat} (h : ∀ c ∈ l, c < 128) : Txt.upper (S l) = S (l.map up1) := by
  rw [upper_ascii (x := S l) h]
  exact congrArg Str.mk (by simp [S])
def um (c : Nat) : Nat := lo1 (if c = 58 then 46 else c)
def am (c : Nat) : Nat := up1 (if c = 46 then 58 else c)
theorem ev_unm {σ : L2.St} {H : Hp} {te : TE} {l : List Nat} (h : Ev te σ H (.str (S l))) (hl : l.length ≤ 1000) (hc : ∀ c ∈ l, c < 128) :
    Ev (tM0 (fun x xs H Q => ∃ a, x = .str a ∧ xs = [] ∧ a.length ≤ 5592405 ∧ Q (.str (Txt.lower a)) H) (CwR.tReplC te (S [58]) (S [46]))) σ H (.str (S (l.map um))) := fun H1 e Q q =>
  h H1 e _ fun H2 e2 => ⟨S l, rfl, by rw [S_len, S_len]; simp; omega, ⟨_, rfl⟩, _, rfl, rfl, by rw [replace_S, S_len, List.length_map]; omega, by
    rw [replace_S, lower_S (fun c hc' => ?_), List.map_map]
    · exact q H2 e2
    · obtain ⟨x, hx, rfl⟩ := List.mem_map.mp hc'
      split
      · decide
      · exact hc x hx⟩
theorem ev_alm {σ : L2.St} {H : Hp} {te : TE} {l : List Nat} (h : Ev te σ H (.str (S l))) (hl : l.length ≤ 1000) (hc : ∀ c ∈ l, c < 128) :
    Ev (tM0 (fun x xs H Q => ∃ a, x = .str a ∧ xs = [] ∧ a.length ≤ 5592405 ∧ Q (.str (Txt.upper a)) H) (CwR.tReplC te (S [46]) (S [58]))) σ H (.str (S (l.map am))) := fun H1 e Q q =>
  h H1 e _ fun H2 e2 => ⟨S l, rfl, by rw [S_len, S_len]; simp; omega, ⟨_, rfl⟩, _, rfl, rfl, by rw [replace_S, S_len, List.length_map]; omega, by
    rw [replace_S, upper_S (fun c hc' => ?_), List.map_map]
    · exact q H2 e2
    · obtain ⟨x, hx, rfl⟩ := List.mem_map.mp hc'
      split
      · decide
      · exact hc x hx⟩
/-! ### the signs of a text, sorted -/
theorem rising_pw : ∀ (r : List Nat) (p : Nat), risingS (S [p]) (r.map fun c => S [c]) = true → (∀ c ∈ r, p ≤ c) ∧ r.Pairwise (· ≤ ·)
  | [], _, _ => ⟨by simp, .nil⟩
  | c :: r, p, h => by
    have h' : (!ltCps (S [c]).cps.toList (S [p]).cps.toList && risingS (S [c]) (r.map fun c => S [c])) = true := h
    obtain ⟨h1, h2⟩ := Bool.and_eq_true_iff.mp h'
    obtain ⟨q1, q2⟩ := rising_pw r c h2
    have hpc : p ≤ c := by
      rw [ltCps_eq] at h1
      simp only [Bool.not_eq_true', decide_eq_false_iff_not] at h1
      apply Nat.le_of_not_lt
      intro hlt
      exact h1 (List.Lex.rel hlt)
    refine ⟨fun x hx => ?_, List.pairwise_cons.mpr ⟨q1, q2⟩⟩
    rcases List.mem_cons.mp hx with rfl | hx
    · exact hpc
    · exact Nat.le_trans hpc (q1 x hx)
theorem sorted_signs {ys : List Str} {l m : List Nat} (hp : ys.Perm (l.map fun c => S [c])) (hs : sortedS ys = true) (hm : m.Perm l) (hmp : m.Pairwise (· ≤ ·)) : ys = m.map fun c => S [c] := by
  have hh : ∀ y ∈ ys, S [y.cps.getD 0 0] = y := fun y hy => by
    obtain ⟨c, _, rfl⟩ := List.mem_map.mp (hp.mem_iff.mp hy)
    rfl
  have e : ys = (ys.map fun y => y.cps.getD 0 0).map fun c => S [c] := by
    rw [List.map_map]
    conv => lhs; rw [← List.map_id ys]
    exact List.map_congr_left fun y hy => (hh y hy).symm
  have hp2 : (ys.map fun y => y.cps.getD 0 0).Perm l := by
    have q := hp.map (fun y : Str => y.cps.getD 0 0)
    rw [List.map_map] at q
    have e2 : l.map ((fun y : Str => y.cps.getD 0 0) ∘ fun c => S [c]) = l := by
      conv => rhs; rw [← List.map_id l]
      exact List.map_congr_left fun c _ => rfl
    rw [e2] at q
    exact q
  generalize hcs : (ys.map fun y => y.cps.getD 0 0) = cs at e hp2
  have hpw : cs.Pairwise (· ≤ ·) := by
    rw [e] at hs
    cases cs with
    | nil => exact .nil
    | cons c r =>
      obtain ⟨q1, q2⟩ := rising_pw r c hs
      exact List.pairwise_cons.mpr ⟨q1, q2⟩
  rw [e, List.Perm.eq_of_pairwise (le := (· ≤ ·)) (fun a b _ _ h1 h2 => Nat.le_antisymm h1 h2) hpw hmp (hp2.trans hm.symm)]
end Lc
namespace K57
open PySem PySem.Spec PyProof.Rows L2 Lc Evl
section
variable {P : Program} {w : World} {K : PySem.W.Frag} {mg : Str → Option Value} {base : Heap}
/-! ### the error of cards -/
def Made (K : PySem.W.Frag) (c f : Str) (H : Hp) (a : Addr) (x : V) (Q : VK) : Prop := H a = some (exo a (He.ga K c) none) ∧ ∀ dx, H dx = none → dx ≠ a → Q .non (upd (upd H dx (exd dx [(f, x)])) a (exo a (He.ga K c) (some dx)))
def KS (x : V) : Prop := ∃ l : List Nat, x = .str (S l) ∧ l.length ≤ 1000 ∧ ∀ c ∈ l, c < 128
def sp_InvalidCard_init (K : PySem.W.Frag) : Sp := fun vs H Q _ => ∃ (a : Addr) (x : V), vs = [.ref a, x] ∧ KS x ∧ Made K "InvalidCard" "part" H a x Q
theorem ok_InvalidCard_init (T : Tx K mg w) : OkD P w K mg base 1 d_InvalidCard_init ps_InvalidCard_init (sp_InvalidCard_init K) := by
  refine (h_InvalidCard_init T).ok sc_InvalidCard_init (fun vs H Q E h => ?_) (fun cdv A outer s H vs Q E hr h => ⟨_,
      (pss_cons (ps_expr (pe_ownInit (CL := cL K) (by rfl) (m_LeapError T) (by decide) (x_InvalidCard T).sp (x_InvalidCard T).rd (x_InvalidCard T).vV (pa_cons (pv 0) (pa_cons (pe_joined (.cons pe_str (.cons (pe_fmtR (pv 1)) .nil))) pa_nil))))
      (pss_one (ps_ost (pv 0) (pv 1)))), ?_⟩)
  · obtain ⟨a, x, rfl, _⟩ := h
    rfl
  · obtain ⟨a, x, rfl, ⟨l, rfl, hl, hc⟩, ha, q⟩ := h
    have hrp := reprS_len hl hc
    refine ⟨_, rfl, ?_⟩
    refine ⟨_, rfl, by decide +kernel, ?_⟩
    refine ⟨_, rfl, .inl ⟨_, rfl, sz_of (by omega), ?_⟩⟩
    refine ⟨_, rfl, ?_, ?_⟩
    · rw [len_app, len_app]
      have h1 : (Str.empty).length = 0 := by decide +kernel
      have h2 : (Str.ofString "wrong part of a card: ").length ≤ 100 := by decide +kernel
      exact sz_of (by omega)
    refine ⟨a, He.ga K "InvalidCard", _, rfl, by simp, (x_InvalidCard T).oex, ha, ?_⟩
    exact ⟨_, rfl, _, rfl, a, He.ga K "InvalidCard", rfl, (x_InvalidCard T).oex, (x_InvalidCard T).no, .inl ⟨ha, fun dx hd hda => q dx hd hda⟩⟩
def BadC (K : PySem.W.Frag) (c f : Str) (H : Hp) (E : XK) (x : V) : Prop := ∀ d H', H d = none → Ex H H' → H' d = some (.xd [(f, x)]) → E (.ref (He.ga K c)) (some d) H'
theorem BadC.ex {c f : Str} {H H' : Hp} {E : XK} {x : V} (h : BadC K c f H E x) (e : Ex H H') : BadC K c f H' E x := fun d H2 hd e2 hx => h d H2 (fresh_back e hd) (e.trans e2) hx
/-- raise C(x) -/
theorem bad_go {c f : Str} {H : Hp} {E : XK} {x : V} {a dx : Addr} {o1 : HO} (q : BadC K c f H E x) (ha : H a = none) (hd : upd H a o1 dx = none) (hda : dx ≠ a) (u v : HO) :
    E (.ref (He.ga K c)) (some dx) (upd (del (upd (upd (upd H a o1) dx u) a v) a) dx (.xd [(f, x)])) := by
  rw [upd_ne hda] at hd
  refine q dx _ hd ?_ upd_same
  intro b o hb
  have n1 : b ≠ dx := fun z => by rw [z, hd] at hb; cases hb
  have n2 : b ≠ a := fun z => by rw [z, ha] at hb; cases hb
  rw [upd_ne n1, del_ne n2, upd_ne n2, upd_ne n1, upd_ne n2]
  exact hb
theorem mk_go {c f : Str} {H : Hp} {E : XK} {x : V} {a : Addr} (q : BadC K c f H E x) (ha : H a = none) :
    Made K c f (upd H a (exo a (He.ga K c) none)) a x fun v H2 => v = .non ∧ ∃ (d : Addr) (fs : List (Str × V)), H2 a = some (exo a (He.ga K c) (some d)) ∧ H2 d = some (exd d fs) ∧ H d = none ∧ E (.ref (He.ga K c)) (some d) (upd (del H2 a) d (.xd fs)) := by
  refine ⟨upd_same, fun dx hd hda => ⟨rfl, dx, _, upd_same, by rw [upd_ne hda, upd_same], ?_, bad_go q ha hd hda _ _⟩⟩
  rw [upd_ne hda] at hd
  exact hd
theorem ks_worths : KS (.str "worths") := ⟨[119, 111, 114, 116, 104, 115], congrArg V.str (by decide +kernel), by decide, by decide⟩
theorem ks_jumps : KS (.str "jumps") := ⟨[106, 117, 109, 112, 115], congrArg V.str (by decide +kernel), by decide, by decide⟩
theorem ks_text : KS (.str "text") := ⟨[116, 101, 120, 116], congrArg V.str (by decide +kernel), by decide, by decide⟩
/-! ### signs -/
def sp_unmarked : Sp := fun vs H Q _ => ∃ l : List Nat, vs = [.str (S l)] ∧ l.length ≤ 1000 ∧ (∀ c ∈ l, c < 128) ∧ RetV (.str (S (l.map um))) H Q
theorem ok_unmarked (T : Tx K mg w) : OkD P w K mg base 1 d_unmarked ps_unmarked sp_unmarked := by
  refine okT (h_unmarked T) sc_unmarked (by decide +kernel) (by decide) (fun vs H Q E h => ?_) (fun cdv A outer s H vs Q E hr h => ⟨_,
      CwR.psst_one (CwR.pst_ret (pet_m0 F.slot_str_lower F.type_str_lower mt_lower (CwR.pet_replC (pv 0)))), ?_⟩)
  · obtain ⟨l, rfl, _⟩ := h
    rfl
  · obtain ⟨l, rfl, hl, hc, q⟩ := h
    have k1 : Str.ofString ":" = S [58] := by decide +kernel
    have k2 : Str.ofString "." = S [46] := by decide +kernel
    simp only [k1, k2]
    exact s_ret (ev_unm (by exact ev_var rfl) hl hc) fun H1 e1 => q H1 e1
def sp_all_marked : Sp := fun vs H Q _ => ∃ l : List Nat, vs = [.str (S l)] ∧ l.length ≤ 1000 ∧ (∀ c ∈ l, c < 128) ∧ RetV (.str (S (l.map am))) H Q
theorem ok_all_marked (T : Tx K mg w) : OkD P w K mg base 1 d_all_marked ps_all_marked sp_all_marked := by
  refine okT (h_all_marked T) sc_all_marked (by decide +kernel) (by decide) (fun vs H Q E h => ?_) (fun cdv A outer s H vs Q E hr h => ⟨_,
      CwR.psst_one (CwR.pst_ret (pet_m0 F.slot_str_upper F.type_str_upper mt_upper (CwR.pet_replC (pv 0)))), ?_⟩)
  · obtain ⟨l, rfl, _⟩ := h
    rfl
  · obtain ⟨l, rfl, hl, hc, q⟩ := h
    have k1 : Str.ofString ":" = S [58] := by decide +kernel
    have k2 : Str.ofString "." = S [46] := by decide +kernel
    simp only [k1, k2]
    exact s_ret (ev_alm (by exact ev_var rfl) hl hc) fun H1 e1 => q H1 e1
def pln (k : Nat) : List Nat := [46] ++ kL.take k
theorem pln_ok : ∀ k ∈ [1, 2, 3, 4], (pln k).Pairwise (· ≤ ·) ∧ (pln k).length < 64 := by decide
def sp_signs_of : Sp := fun vs H Q _ => ∃ k : Nat, vs = [.int (k : Int), .bl false, .bl false] ∧ 1 ≤ k ∧ k ≤ 4 ∧ RetV (.str (S (pln k))) H Q
theorem ok_signs_of (T : Tx K mg w) : OkD P w K mg base 2 d_signs_of ps_signs_of sp_signs_of := by
  refine (h_signs_of T).ok sc_signs_of (fun vs H Q E h => ?_) (fun cdv A outer s H vs Q E hr h => ⟨_,
      (pss_cons (ps_set (i := 3) sc_signs_of.nd rfl (Or.inl rfl) (pe_op op_add_str pe_str (pe_slice sl_str (pe_glob (v := .str "abcd") rfl (m_KINDS T).choose_spec ⟨_, rfl⟩) po_none (po_some (pv 0)))))
      (pss_cons (ps_set (i := 4) sc_signs_of.nd rfl (Or.inl rfl) (pv 3))
      (pss_cons (ps_if (pt_val (pv 2)) (pss_one (ps_set (i := 4) sc_signs_of.nd rfl (Or.inl rfl) (pe_op op_add_str (pe_call (ok_all_marked (P := P) (w := w) (base := base) T) (hr.mono (by decide)) (by rfl) (m_all_marked T) (k_all_marked T) (b_all_marked T) .nil passN (pa_cons (pv 3) pa_nil)) (pv 4)))) pss_nil)
      (pss_cons (ps_if (pt_val (pv 1)) (pss_one (ps_set (i := 4) sc_signs_of.nd rfl (Or.inl rfl) (pe_op op_add_str pe_str (pv 4)))) pss_nil)
      (pss_one (ps_ret (pe_join pe_str (pe_callB (call_sortedStr rfl) (by rfl) (m_sorted T) (by decide +kernel) (pa_cons (pv 4) pa_nil))))))))), ?_⟩)
  · obtain ⟨k, rfl, _⟩ := h
    rfl
  · obtain ⟨k, rfl, h1, h4, q⟩ := h
    have hk : k ∈ [1, 2, 3, 4] := by
      have : k = 1 ∨ k = 2 ∨ k = 3 ∨ k = 4 := by omega
      simpa using this
    obtain ⟨hs, hz⟩ := pln_ok k hk
    have k2 : Str.ofString "." = S [46] := by decide +kernel
    have k4 : Str.ofString "" = S [] := by decide +kernel
    simp only [k2, k_abcd, k4]
    have hkl : (kL.take k).length ≤ 4 := by rw [List.length_take]; exact Nat.min_le_right _ _
    refine q_asg (v := .str (S (pln k))) (ev_op ev_c (ev_to (l := kL) (k := k) ev_c (by exact ev_var rfl) (by decide)) (rv_catSS (a := [46]) (by have h46 : ([46] : List Nat).length = 1 := rfl; omega))) fun H1 e1 => ?_
    refine q_asg (v := .str (S (pln k))) (by exact ev_var rfl) fun H2 e2 => ?_
    refine q_when (b := false) (et_B (by exact ev_var rfl)) (fun z => by cases z) fun _ H3 e3 => ?_
    refine q_when (b := false) (et_B (by exact ev_var rfl)) (fun z => by cases z) fun _ H4 e4 => ?_
    refine s_ret (v := .str (Txt.join (S []) ((pln k).map fun c => S [c]))) (ev_join (by exact ev_c) ?_ (join_sz _ (by omega))) fun H5 e5 => ?_
    · refine el_cb (ea_cons (by exact ev_var rfl) ea_nil) fun H6 e6 Q6 q6 => ⟨S (pln k), rfl, by rw [S_len]; exact hz, fun ys p H' h1 h2 h3 h4 => ?_⟩
      have hys : ys = (pln k).map fun c => S [c] := sorted_signs (l := pln k) h1 h2 (List.Perm.refl _) hs
      subst hys h4
      exact q6 p _ h3 (Ex.new h3) upd_same
    · rw [join_S]
      exact q H5 ((((e1.trans e2).trans e3).trans e4).trans e5)
theorem b_signs_of (T : Tx K mg w) : ∃ ds, Vals [V.bl false, V.bl false] ds ∧ Binds K (fdOf K (d_signs_of.at_ K)) ps_signs_of ds :=
  FunD.binds0 (ps := ps_signs_of) (h_signs_of T) 1 (by simp [He5.DefA.kws, d_signs_of]) rfl fun D doc pm an cdv ct us ks hu hk => match us, ks, hu, hk with
    | [_], [_, _], _, _ => ⟨_, _, _, _, _, _, rfl, rfl, _, _, _, _, _, _, rfl, rfl, rfl⟩
/-! ### worths -/
theorem pln_mem {k c : Nat} (h4 : k ≤ 4) (hc : c = 46 ∨ c ∈ kL) : c ∈ pln k ↔ kd c < (k : Int) := by
  have h5 : k = 0 ∨ k = 1 ∨ k = 2 ∨ k = 3 ∨ k = 4 := by omega
  have hc5 : c = 46 ∨ c = 97 ∨ c = 98 ∨ c = 99 ∨ c = 100 := by simpa [kL] using hc
  rcases h5 with rfl | rfl | rfl | rfl | rfl <;> rcases hc5 with rfl | rfl | rfl | rfl | rfl <;> decide
theorem rc_lenSq {p : Addr} {xs : List V} {t : Bool} {H : Hp} (h : Sq K t H p xs) : RC (fun xs H Q => ∃ x n, xs = [x] ∧ LenV K x H n ∧ Q (.int n) H) [.ref p] H (.int xs.length) := Lc.rc_lenSq h.any
def sp_are_worths (K : PySem.W.Frag) : Sp := fun vs H Q _ => ∃ (p : Addr) (t : Bool) (ps : List Int), vs = [.ref p] ∧ Sq K t H p (ps.map V.int) ∧ ps.length ≤ 1000 ∧ ∀ v H', (v = true ↔ OkP ps) → Ex H H' → Q (.bl v) H'
theorem ok_are_worths (T : Tx K mg w) : OkD P w K mg base 1 d_are_worths ps_are_worths (sp_are_worths K) := by
  refine (h_are_worths T).ok sc_are_worths (fun vs H Q E h => ?_) (fun cdv A outer s H vs Q E hr h => ⟨_,
      (pss_one (ps_ret (pe_and (pe_chain op_le op_le pe_int (pe_callB call_len (by rfl) (m_len T) (by decide +kernel) (pa_cons (pv 0) pa_nil)) (pe_callB call_len_str (by rfl) (m_len T) (by decide +kernel) (pa_cons (pe_glob (v := .str "abcd") rfl (m_KINDS T).choose_spec ⟨_, rfl⟩) pa_nil))) (pe_one (pe_callB (cr_all rfl) (by rfl) (m_all T) (by decide +kernel) (pa_cons (pe_lc (own := [("worth", 1)]) (g := gName 1) rfl sc_are_worths.nd (pi_seq (pv 0)) (blkOk_by (own := [("worth", 1)]) (N := ns_are_worths) (sc := (defScope st_are_worths)) (by decide +kernel)) (fun _ _ _ _ _ => pg_name (i := 1) sc_are_worths.nd rfl (Or.inl rfl)) (fun _ _ _ _ _ => pts_nil) (fun _ _ _ _ _ => (pe_chain op_le op_le pe_int (pv 1) (pe_glob (v := .int 1000) rfl (m_MOST_WORTH T).choose_spec ⟨_, rfl⟩)))) pa_nil)))))), ?_⟩)
  · obtain ⟨p, t, ps, rfl, _⟩ := h
    rfl
  · obtain ⟨p, t, ps, rfl, hs, hl, q⟩ := h
    simp only [k_abcd]
    have l2 := rc_lenSq hs
    rw [List.length_map] at l2
    refine s_ret (v := .bl ((decide ((1 : Int) ≤ (ps.length : Int)) && decide ((ps.length : Int) ≤ 4)) && (ps.map fun n => decide ((1 : Int) ≤ n) && decide (n ≤ (1000 : Int))).all id)) (ev_andV (ev_chain ev_c (ev_cb (ea_cons (ev_var rfl) ea_nil) l2) (ev_cb (ea_cons ev_c ea_nil) (rc_lenStr (l := kL) (by decide))) rv_I0 fun _ => rv_I0) fun _ => ev_all ?_) fun H1 e1 => q _ H1 ?_ e1
    · have h2 := el_lcSq (K := K) (σ := L2.start ns_are_worths [.ref p]) (H := H) (a := p) (xs := ps.map V.int) (tl := tVar 0) (j := 1) (vs := [1]) (t := tYes) (te := tChain (rI0 fun i j => V.bl (decide (i ≤ j))) (rI0 fun i j => V.bl (decide (i ≤ j))) (tC (.int 1)) (tVar 1) (tC (.int 1000)))
        (fun _ => true) (fun i => V.bl (decide ((1 : Int) ≤ ps.getD i 0) && decide (ps.getD i 0 ≤ (1000 : Int)))) (ev_var rfl) hs.any (by rw [List.length_map]; omega) (fun x => rfl) (fun i x H1 _ _ => et_yes) (fun i x H1 e hi _ => by
          obtain ⟨h1, rfl⟩ := int_at hi
          exact ev_chain ev_c (ev_var rfl) ev_c rv_I0 fun _ => rv_I0)
      rw [given_all, List.length_map] at h2
      rw [List.map_map]
      have e : ps.map (V.bl ∘ fun n => decide ((1 : Int) ≤ n) && decide (n ≤ (1000 : Int))) = (List.range ps.length).map fun i => V.bl (decide ((1 : Int) ≤ ps.getD i 0) && decide (ps.getD i 0 ≤ (1000 : Int))) := by
        apply List.ext_getElem
        · simp
        · intro i h1 h2
          simp at h1
          simp [h1]
      rw [e]
      exact h2
    · rw [List.all_map]
      unfold OkP
      simp only [Bool.and_eq_true, decide_eq_true_eq, List.all_eq_true, Function.comp, id]
      constructor
      · rintro ⟨⟨h1, h2⟩, h3⟩
        exact ⟨by omega, by omega, h3⟩
      · rintro ⟨h1, h2, h3⟩
        exact ⟨⟨by omega, by omega⟩, h3⟩
end
end K57
namespace K57
open PySem PySem.Spec PyProof.Rows L2 Lc Evl
section
variable {P : Program} {w : World} {K : PySem.W.Frag} {mg : Str → Option Value} {base : Heap}
/-! ### the worth of a row -/
theorem q_forSq {σ : L2.St} {H : Hp} {tl : TE} {D : Ends} {tu tz : TS} {t : Bool} {a : Addr} {xs : List V} {j : Nat} (h : Ev tl σ H (.ref a)) (hx : Sq K t H a xs) (Pv : Nat → L2.St → Hp → Prop) (h0 : ∀ H1, Ex H H1 → Pv 0 σ H1) (hl : ∀ i σ' H', i ≤ xs.length → Pv i σ' H' → Sq K t H' a xs)
    (hs : ∀ i x σ' H', xs[i]? = some x → Pv i σ' H' → tu { D with nx := Pv (i + 1), ct := Pv (i + 1), bk := tz D } (σ'.set j (some x)) H') (hd : ∀ σ' H', Pv xs.length σ' H' → tz D σ' H') : tSeq (tFor (iSeq K tl) (gName j) tu) tz D σ H :=
  h H (Ex.refl H) _ fun H1 e1 => ⟨a, rfl, by
    cases t with
    | false =>
      have h2 : tFor (iList K (tC (.ref a))) (gName j) tu { D with nx := tz D } σ H1 := s_forL (D := { D with nx := tz D }) ev_c (ex_l e1 hx) Pv (fun H2 e2 => h0 H2 (e1.trans e2)) hl hs hd
      obtain ⟨a', e, hxs, r⟩ := h2
      cases e
      exact .inl ⟨hxs, r⟩
    | true =>
      have h2 : tFor (iTup K (tC (.ref a))) (gName j) tu { D with nx := tz D } σ H1 := s_forT (D := { D with nx := tz D }) ev_c (ex_t e1 hx) Pv (fun H2 e2 => h0 H2 (e1.trans e2)) hl hs hd
      obtain ⟨a', e, hxs, r⟩ := h2
      cases e
      exact .inr ⟨hxs, r⟩⟩
def kvs (ps : List Int) (n : Nat) : List (Key × V) := (List.range n).map fun i => (Sum.inr (S [97 + i]), V.int (ps.getD i 0))
theorem kvs_put (ps : List Int) {i : Nat} (h : i < 4) : putK (kvs ps i) (Sum.inr (S [97 + i])) (.int (ps.getD i 0)) = kvs ps (i + 1) := by
  have h4 : i = 0 ∨ i = 1 ∨ i = 2 ∨ i = 3 := by omega
  rcases h4 with rfl | rfl | rfl | rfl <;> rfl
theorem kvs_val (ps : List Int) {n c : Nat} (h4 : n ≤ 4) (hc : c = 46 ∨ c ∈ kL) (hk : kd c < (n : Int)) : valV (kvs ps n) (Sum.inr (S [c])) = if 0 ≤ kd c then some (V.int (ps.getD (kd c).toNat 0)) else none := by
  have h5 : n = 0 ∨ n = 1 ∨ n = 2 ∨ n = 3 ∨ n = 4 := by omega
  have hc5 : c = 46 ∨ c = 97 ∨ c = 98 ∨ c = 99 ∨ c = 100 := by simpa [kL] using hc
  rcases h5 with rfl | rfl | rfl | rfl | rfl <;> rcases hc5 with rfl | rfl | rfl | rfl | rfl <;> first | rfl | (exfalso; revert hk; decide)
theorem um_id {c : Nat} (hc : c = 46 ∨ c ∈ kL) : um c = c := by
  have hc5 : c = 46 ∨ c = 97 ∨ c = 98 ∨ c = 99 ∨ c = 100 := by simpa [kL] using hc
  rcases hc5 with rfl | rfl | rfl | rfl | rfl <;> decide
def Pl (l : List Nat) : Prop := ∀ c ∈ l, c = 46 ∨ c ∈ kL
theorem um_map {l : List Nat} (h : Pl l) : l.map um = l := by
  have : l.map um = l.map id := List.map_congr_left fun c hc => um_id (h c hc)
  rw [this, List.map_id]
theorem Pl.low {l : List Nat} (h : Pl l) : Low l := fun c hc => by
  have h5 := h c hc
  have hc5 : c = 46 ∨ c = 97 ∨ c = 98 ∨ c = 99 ∨ c = 100 := by simpa [kL] using h5
  omega
def sp_worth_in (K : PySem.W.Frag) : Sp := fun vs H Q _ => ∃ (p : Addr) (t : Bool) (ps : List Int) (l : List Nat), vs = [.ref p, .str (S l)] ∧ Sq K t H p (ps.map V.int) ∧ ps.length ≤ 4 ∧ l.length ≤ 1000 ∧ Pl l ∧ Kn ps.length l ∧ RetV (.int (wof ps l)) H Q
theorem ev_din {σ : L2.St} {H : Hp} {ty td : TE} {a : Addr} {kv : List (Key × V)} {n : Str} (h1 : Ev ty σ H (.str n)) (h2 : Ev td σ H (.ref a)) (ha : H a = some (.dK kv)) : Ev (tDIn ty td) σ H (.bl (valV kv (Sum.inr n)).isSome) := fun H1 e Q q =>
  h1 H1 e _ fun H2 e2 => h2 H2 (e.trans e2) _ fun H3 e3 => ⟨a, _, rfl, DGet.k (k := Sum.inr n) (((e.trans e2).trans e3) _ _ ha), q H3 (e2.trans e3)⟩
theorem ev_dget {σ : L2.St} {H : Hp} {ty td : TE} {a : Addr} {kv : List (Key × V)} {n : Str} {v : V} (h2 : Ev td σ H (.ref a)) (h1 : Ev ty σ H (.str n)) (ha : H a = some (.dK kv)) (hv : valV kv (Sum.inr n) = some v) : Ev (tDGet td ty) σ H v := fun H1 e Q q =>
  h2 H1 e _ fun H2 e2 => h1 H2 (e.trans e2) _ fun H3 e3 => ⟨a, v, rfl, by rw [← hv]; exact DGet.k (k := Sum.inr n) (((e.trans e2).trans e3) _ _ ha), q H3 (e2.trans e3)⟩
theorem ok_worth_in (T : Tx K mg w) : OkD P w K mg base 2 d_worth_in ps_worth_in (sp_worth_in K) := by
  refine (h_worth_in T).ok sc_worth_in (fun vs H Q E h => ?_) (fun cdv A outer s H vs Q E hr h => ⟨_,
      (pss_cons (ps_set (i := 2) sc_worth_in.nd rfl (Or.inr rfl) (pe_dc (own := [("kind", 3), ("worth", 4)]) (g := gTup K 2 (gCons (gName 3) (gCons (gName 4) gNil))) rfl sc_worth_in.nd (pi_zipS K rfl (by rfl) (m_zip T) (pa_cons (pe_glob (v := .str "abcd") rfl (m_KINDS T).choose_spec ⟨_, rfl⟩) (pa_cons (pv 0) pa_nil))) (blkOk_by (own := [("kind", 3), ("worth", 4)]) (N := ns_worth_in) (sc := (defScope st_worth_in)) (by decide +kernel)) (fun _ _ _ _ _ => (pg_tup rfl (pgs_cons (pg_name (i := 3) sc_worth_in.nd rfl (Or.inl rfl)) (pgs_cons (pg_name (i := 4) sc_worth_in.nd rfl (Or.inl rfl)) pgs_nil)))) (fun _ _ _ _ _ => pts_nil) (fun _ _ _ _ _ => (pv 3)) (fun _ _ _ _ _ => (pv 4))))
      (pss_one (ps_ret (pe_callB (cr_sum rfl) (by rfl) (m_sum T) (by decide +kernel) (pa_cons (pe_lc (own := [("sign", 5)]) (g := gName 5) rfl sc_worth_in.nd (pi_str (pe_call (ok_unmarked (P := P) (w := w) (base := base) T) (hr.mono (by decide)) (by rfl) (m_unmarked T) (k_unmarked T) (b_unmarked T) .nil passN (pa_cons (pv 1) pa_nil))) (blkOk_by (own := [("sign", 5)]) (N := ns_worth_in) (sc := (defScope st_worth_in)) (by decide +kernel)) (fun _ _ _ _ _ => pg_name (i := 5) sc_worth_in.nd rfl (Or.inl rfl)) (fun _ _ _ _ _ => (pts_one (pt_cmp (pc_din (hu_of hr) (pv 5) (pv 2))))) (fun _ _ _ _ _ => (pe_dget (hu_of hr) (pv 2) (pv 5) (fun _ _ => rfl)))) pa_nil))))), ?_⟩)
  · obtain ⟨p, t, ps, l, rfl, _⟩ := h
    rfl
  · obtain ⟨p, t, ps, l, rfl, hs, h4, hl, hp, hk, q⟩ := h
    simp only [k_abcd]
    refine Lc.q_first ?_
    refine ⟨_, rfl, t, S kL, p, _, rfl, hs, fun D hD => ?_⟩
    refine dc_it (walk_zipS (K := K) (n := ps.length) (t := t) (z := S kL) (b := p) (ys := ps.map V.int) (by rw [List.length_map]; show ps.length = min 4 ps.length; omega)) (fun i H' => Ex H H' ∧ H' D = some (.dK (kvs ps i))) ⟨Ex.new hD, upd_same⟩ (fun i H' _ h => hs.ex h.1) ?_ ?_
    · rintro i x H1 H2 hi ⟨e1, hd1⟩ ⟨Tt, c, y, rfl, hT, rfl, hc, hy⟩
      obtain ⟨hi2, rfl⟩ := int_at hy
      have hc2 := its_at hc
      have ec : c = 97 + i := by
        have h4' : i = 0 ∨ i = 1 ∨ i = 2 ∨ i = 3 := by omega
        rcases h4' with rfl | rfl | rfl | rfl <;> · simp [kL] at hc2; omega
      refine gpair (a := .str ⟨#[c]⟩) (b := .int (ps.getD i 0)) upd_same ?_
      refine ⟨rfl, ?_⟩
      have hDT : D ≠ Tt := fun z => by rw [z, hT] at hd1; cases hd1
      unfold tYes
      dsimp only
      rw [if_pos rfl]
      refine ⟨_, rfl, _, rfl, kvs ps i, Sum.inr (S [97 + i]), by rw [ec]; rfl, by rw [upd_ne hDT]; exact hd1, Nat.lt_of_le_of_lt (show (kvs ps i).length ≤ 4 by unfold kvs; rw [List.length_map, List.length_range]; omega) (by decide), ?_, ?_⟩
      · exact Ex.mut (e1.trans (Ex.new hT)) hD
      · rw [upd_same, kvs_put ps (by omega)]
    · rintro H1 ⟨e1, hd1⟩
      refine s_ret (v := .int (wof ps l)) ?_ fun H2 e2 => q H2 (e1.trans e2)
      unfold wof
      refine ev_cbL (xs := ((l.filter fun c => decide (0 ≤ kd c)).map fun c => ps.getD (kd c).toNat 0).map V.int) ?_ fun p H1 hp e => rc_sum (sq_of hp)
      rw [List.map_map]
      have h2 := given_filter l 0 (fun c => decide (0 ≤ kd c)) (V.int ∘ fun c => ps.getD (kd c).toNat 0)
      rw [← h2]
      refine el_lcS (fun i => decide (0 ≤ kd (l.getD i 0))) (fun i => (V.int ∘ fun c => ps.getD (kd c).toNat 0) (l.getD i 0)) (ev_call (ea_cons (ev_var rfl) ea_nil) fun H3 e3 Q3 q3 E3 => ⟨l, rfl, hl, hp.low, by rw [um_map hp]; exact q3⟩) (by omega) (fun x => rfl) (fun i c H3 e hi => ?_) (fun i c H3 e hi hf => ?_)
      · obtain ⟨e0, hm, _⟩ := getD_lt hi
        rw [e0]
        have hv := kvs_val ps h4 (hp c hm) (hk c hm)
        have h3 := ev_din (σ := ((wipe [some (V.ref p), some (.str (S l)), some (.ref D), none, none, none] [5]).set 5 (some (.str (S [c]))))) (ty := tVar 5) (td := tVar 2) (ev_var rfl) (ev_var rfl) (e _ _ hd1) (n := S [c])
        rw [hv] at h3
        have e5 : (if 0 ≤ kd c then some (V.int (ps.getD (kd c).toNat 0)) else none).isSome = decide (0 ≤ kd c) := by
          by_cases hh : 0 ≤ kd c
          · rw [if_pos hh, decide_eq_true hh]
            rfl
          · rw [if_neg hh, decide_eq_false hh]
            rfl
        rw [e5] at h3
        exact et_B h3
      · obtain ⟨e0, hm, _⟩ := getD_lt hi
        rw [e0] at hf ⊢
        have h0 : 0 ≤ kd c := of_decide_eq_true hf
        have hv := kvs_val ps h4 (hp c hm) (hk c hm)
        rw [if_pos h0] at hv
        exact ev_dget (ev_var rfl) (ev_var rfl) (e _ _ hd1) hv
end
end K57
namespace K57
open PySem PySem.Spec PyProof.Rows L2 Lc Evl
section
variable {P : Program} {w : World} {K : PySem.W.Frag} {mg : Str → Option Value} {base : Heap}
/-! ### jumps that fit the worths -/
def Fits (n : Nat) (ps : List Int) (x : Jm) : Prop := (∀ c ∈ x.1 ++ x.2.1, kd c < (n : Int)) ∧ wof ps x.2.1 < wof ps x.1
def TI (K : PySem.W.Frag) (H : Hp) (q : Addr × Jm) : Prop := IsJ K H q.1 q.2.1 q.2.2.1 q.2.2.2 ∧ VJ q.2
theorem TI.ex {H H' : Hp} {q : Addr × Jm} (h : TI K H q) (e : Ex H H') : TI K H' q := ⟨h.1.ex e, h.2⟩
theorem vj_pl {x : Jm} (h : VJ x) : Pl x.1 ∧ Pl x.2.1 := by
  obtain ⟨b, a, z⟩ := x
  obtain ⟨h1, h2, h3, h4, h5, h6, h7⟩ := isJ_iff.mp h
  refine ⟨fun c hc => ?_, h7⟩
  obtain ⟨i, hi, rfl⟩ := List.mem_iff_getElem.mp hc
  dsimp only at hi h2 h4 h6 ⊢
  by_cases hl : i < b.length - 1
  · refine .inr (h6 _ ?_)
    rw [List.mem_take_iff_getElem]
    exact ⟨i, by omega, rfl⟩
  · have ei : i = b.length - 1 := by omega
    rw [List.getD_eq_getElem?_getD, ← ei, List.getElem?_eq_getElem hi] at h4
    exact .inl h4
theorem pl_app {b a : List Nat} (h1 : Pl b) (h2 : Pl a) : Pl (b ++ a) := fun c hc => (List.mem_append.mp hc).elim (h1 c) (h2 c)
def sp_fits_worths (K : PySem.W.Frag) : Sp := fun vs H Q _ => ∃ (q : Addr × Jm) (p : Addr) (t : Bool) (ps : List Int), vs = [.ref q.1, .ref p] ∧ TI K H q ∧ Sq K t H p (ps.map V.int) ∧ 1 ≤ ps.length ∧ ps.length ≤ 4 ∧ ∀ v H', (v = true ↔ Fits ps.length ps q.2) → Ex H H' → Q (.bl v) H'
theorem ok_fits_worths (T : Tx K mg w) : OkD P w K mg base 3 d_fits_worths ps_fits_worths (sp_fits_worths K) := by
  obtain ⟨ds, vd, bd⟩ := b_signs_of T
  refine (h_fits_worths T).ok sc_fits_worths (fun vs H Q E h => ?_) (fun cdv A outer s H vs Q E hr h => ⟨_,
      (pss_cons (ps_set (i := 2) sc_fits_worths.nd rfl (Or.inr rfl) (pe_call (ok_signs_of (P := P) (w := w) (base := base) T) (hr.mono (by decide)) (by rfl) (m_signs_of T) (k_signs_of T) bd vd passN (pa_cons (pe_callB call_len (by rfl) (m_len T) (by decide +kernel) (pa_cons (pv 1) pa_nil)) pa_nil)))
      (pss_cons (ps_if (pt_val (pe_callB (cr_any rfl) (by rfl) (m_any T) (by decide +kernel) (pa_cons (pe_lc (own := [("sign", 3)]) (g := gName 3) rfl sc_fits_worths.nd (pi_str (pe_op op_add_str (pe_fld (pv 0) rfl) (pe_fld (pv 0) rfl))) (blkOk_by (own := [("sign", 3)]) (N := ns_fits_worths) (sc := (defScope st_fits_worths)) (by decide +kernel)) (fun _ _ _ _ _ => pg_name (i := 3) sc_fits_worths.nd rfl (Or.inl rfl)) (fun _ _ _ _ _ => pts_nil) (fun _ _ _ _ _ => (pe_cmpR op_notIn_sign (pv 3) (pv 2) (by rfl)))) pa_nil))) (pss_one (ps_ret pe_bl)) pss_nil)
      (pss_one (ps_ret (pe_cmpR op_lt (pe_call (ok_worth_in (P := P) (w := w) (base := base) T) (hr.mono (by decide)) (by rfl) (m_worth_in T) (k_worth_in T) (b_worth_in T) .nil passN (pa_cons (pv 1) (pa_cons (pe_fld (pv 0) rfl) pa_nil))) (pe_call (ok_worth_in (P := P) (w := w) (base := base) T) (hr.mono (by decide)) (by rfl) (m_worth_in T) (k_worth_in T) (b_worth_in T) .nil passN (pa_cons (pv 1) (pa_cons (pe_fld (pv 0) rfl) pa_nil))) (nomark _)))))), ?_⟩)
  · obtain ⟨q, p, t, ps, rfl, _⟩ := h
    rfl
  · obtain ⟨⟨j, b, a, z⟩, p, t, ps, rfl, ⟨hj, hv⟩, hs, h1, h4, q⟩ := h
    obtain ⟨pb, pa⟩ := vj_pl hv
    obtain ⟨lb, la⟩ := isJ_len hv
    dsimp only at hj pb pa lb la ⊢
    have pba := pl_app pb pa
    have l2 := rc_lenSq hs
    rw [List.length_map] at l2
    refine q_asg (v := .str (S (pln ps.length))) (ev_call (dvs := [V.bl false, V.bl false]) (ea_cons (ev_cb (ea_cons (ev_var rfl) ea_nil) l2) ea_nil) fun H1 e1 Q q E => ⟨_, rfl, h1, h4, q⟩) fun H1 e1 => ?_
    have j1 := hj.ex e1
    refine q_when (b := ((b ++ a).map fun c => !decide (c ∈ pln ps.length)).any id) (et_B (ev_any (el_mapS (fun c => !decide (c ∈ pln ps.length)) (ev_op (ev_before (te := tVar 0) T (by exact ev_var rfl) j1) (ev_after (te := tVar 0) T (by exact ev_var rfl) j1) (rv_catSS (by omega))) (by rw [List.length_append]; omega) (fun x => rfl) fun c H1 e hc => ev_op (ev_var rfl) (ev_var rfl) rv_notInSS))) (fun hc H2 e2 => ?_) (fun hc H2 e2 => ?_)
    · rw [any_no] at hc
      have hc2 := not_t hc
      refine s_ret ev_c fun H3 e3 => q false H3 ⟨fun z => (by cases z), fun hf => ?_⟩ ((e1.trans e2).trans e3)
      exfalso
      rw [List.all_eq_false] at hc2
      obtain ⟨c, hc3, hc4⟩ := hc2
      exact hc4 (decide_eq_true ((pln_mem h4 (pba c hc3)).mpr (hf.1 c hc3)))
    · rw [any_no] at hc
      have hc2 := not_f hc
      rw [List.all_eq_true] at hc2
      have hk : ∀ c ∈ b ++ a, kd c < (ps.length : Int) := fun c hc3 => (pln_mem h4 (pba c hc3)).mp (of_decide_eq_true (hc2 c hc3))
      have j2 := j1.ex e2
      have s2 := hs.ex (e1.trans e2)
      refine s_ret (v := .bl (decide (wof ps a < wof ps b))) (ev_op (ev_call (ea_cons (by exact ev_var rfl) (ea_cons (ev_after (te := tVar 0) T (by exact ev_var rfl) j2) ea_nil)) fun H3 e3 Q q E => ⟨p, t, ps, a, rfl, s2.ex e3, h4, by omega, pa, fun c hc => hk c (List.mem_append_right _ hc), q⟩) (ev_call (ea_cons (by exact ev_var rfl) (ea_cons (ev_before (te := tVar 0) T (by exact ev_var rfl) j2) ea_nil)) fun H3 e3 Q q E => ⟨p, t, ps, b, rfl, s2.ex e3, h4, by omega, pb, fun c hc => hk c (List.mem_append_left _ hc), q⟩) rv_I0) fun H3 e3 => q _ H3 ?_ ((e1.trans e2).trans e3)
      rw [decide_eq_true_eq]
      exact ⟨fun h => ⟨hk, h⟩, fun h => h.2⟩
/-! ### the windows of all jumps -/
def TP (H : Hp) (q : Addr × Pr2) : Prop := H q.1 = some (.tup [.str (S q.2.1), .str (S q.2.2)]) ∧ Low q.2.1 ∧ Low q.2.2
theorem TP.n {H H' : Hp} {q : Addr × Pr2} (h : TP H q) (e : ExN H H') : TP H' q := ⟨e _ _ (fun _ z => by cases z) h.1, h.2⟩
def Pws (H : Hp) (p : Addr) (M : List (Addr × Pr2)) : Prop := H p = some (.lst (M.map fun q => V.ref q.1)) ∧ ∀ q ∈ M, TP H q
theorem Pws.ex {H H' : Hp} {p : Addr} {M : List (Addr × Pr2)} (h : Pws H p M) (e : Ex H H') : Pws H' p M := ⟨e _ _ h.1, fun q hq => (h.2 q hq).n (ExN.of e)⟩
def addP (f : List Pr2) (w : Pr2) : List Pr2 := if w ∈ f then f else f ++ [w]
def winsJ (x : Jm) : List Pr2 := winsOf x.1 x.2.1 x.2.2
def pairsV (G : List Jm) : List Pr2 := (G.flatMap winsJ).foldl addP []
theorem pairsV_snoc (G : List Jm) (x : Jm) : pairsV (G ++ [x]) = (winsJ x).foldl addP (pairsV G) := by
  unfold pairsV
  rw [List.flatMap_append, List.foldl_append]
  simp
theorem tps_at {H : Hp} : ∀ {ts : List Addr} {ws : List Pr2}, Tps H ts ws → ts.length = ws.length ∧ ∀ (k : Nat) (t : Addr) (w : Pr2), ts[k]? = some t → ws[k]? = some w → H t = some (.tup [.str (S w.1), .str (S w.2)])
  | [], [], _ => ⟨rfl, fun k t w h => by cases h⟩
  | t :: ts, x :: xs, h => by
    obtain ⟨h1, h2⟩ := tps_at h.2
    refine ⟨by simp [h1], fun k t' w' ht hw => ?_⟩
    cases k with
    | zero =>
      cases ht
      cases hw
      exact h.1
    | succ k => exact h2 k t' w' ht hw
  | [], _ :: _, h => h.elim
  | _ :: _, [], h => h.elim
theorem low_wins {x : Jm} (h : VJ x) {w : Pr2} (hw : w ∈ winsJ x) : Low w.1 ∧ Low w.2 := by
  obtain ⟨h1, h2, _⟩ := lows_isJ h
  unfold winsJ winsOf at hw
  rcases List.mem_append.mp hw with hw | hw
  · split at hw
    · cases hw
    · rw [List.mem_singleton.mp hw]
      exact ⟨h1, h2⟩
  · split at hw
    · cases hw
    · rw [List.mem_singleton.mp hw]
      exact ⟨fun c hc => h1 c (List.mem_reverse.mp hc), fun c hc => h2 c (List.mem_reverse.mp hc)⟩
theorem wins_le (x : Jm) : (winsJ x).length ≤ 2 := by
  unfold winsJ winsOf
  split <;> split <;> simp
theorem foldl_take {α β : Type} (f : β → α → β) (b : β) (l : List α) {i : Nat} {x : α} (h : l[i]? = some x) : (l.take (i + 1)).foldl f b = f ((l.take i).foldl f b) x := by
  rw [List.take_add_one, h, List.foldl_append]
  rfl
theorem take_snoc {α : Type} {l : List α} {i : Nat} {x : α} (h : l[i]? = some x) : l.take (i + 1) = l.take i ++ [x] := by
  rw [List.take_add_one, h]
  rfl
theorem rv_notInPws {H : Hp} {q : Addr × Pr2} {p : Addr} {L : List (Addr × Pr2)} (hq : TP H q) (h : Pws H p L) : RV (rNotInD K) (.ref q.1) (.ref p) H (.bl (!decide (q.2 ∈ L.map (·.2)))) := fun H1 e Q k =>
  ⟨dP q.2, (L.map (·.2)).map dP, .tup (st_of (e _ _ hq.1)) (.cons (.str _) (.cons (.str _) .nil)), by
    rw [List.map_map]
    exact .lst (sq_of (e _ _ h.1)) (dps_of L fun q hq => .tup (st_of (e _ _ (h.2 q hq).1)) (.cons (.str _) (.cons (.str _) .nil))), by
    have h1 := dP_lay hq.2.1 hq.2.2
    have h2 := dP_depth q.2
    unfold SeqAt.shaped
    rw [Bool.and_eq_true]
    exact ⟨h1, decide_eq_true (by omega)⟩, sh_mem _ (fun x hx => by
      obtain ⟨q2, hq2, rfl⟩ := List.mem_map.mp hx
      exact dP_lay (h.2 q2 hq2).2.1 (h.2 q2 hq2).2.2) dP_depth, by rw [any_eqv dP_iff]; exact k H1 (Ex.refl H1)⟩
theorem for_fst {σ : L2.St} {H : Hp} {te : TE} {g : TG} {tu : TS} {D : Ends} (h : te σ H fun x H1 => tFor (iList K (tC x)) g tu D σ H1) : tFor (iList K te) g tu D σ H := h
/-- the inner loop: new windows put behind -/
theorem inner {σ : L2.St} {H : Hp} {D : Ends} {p wp : Addr} {M : List (Addr × Pr2)} {x : Jm} {a b c : Option V} (hp : Pws H p M) (hw : Wins H wp (winsJ x)) (hx : VJ x) (hn : wp ≠ p) (hz : M.length ≤ 1000) (s0 : σ = [a, some (.ref p), b, c])
    (k : ∀ H' M' c', ExB p H H' → Pws H' p M' → M'.length ≤ M.length + 2 → M'.map (·.2) = (winsJ x).foldl addP (M.map (·.2)) → D.nx [a, some (.ref p), b, c'] H') :
    tFor (iList K (tC (.ref wp))) (gName 3) (tIfS (tTest (tOp (rNotInD K) (tVar 3) (tVar 1))) (tDrop (tBM K "list" rAppend (tVar 1) (tCons (tVar 3) tNil))) tNext) D σ H := by
  subst s0
  obtain ⟨ts, hts, htp⟩ := hw
  obtain ⟨hl, hat⟩ := tps_at htp
  have h2 := wins_le x
  refine s_forLn (a := wp) (xs := ts.map V.ref) ev_c (sq_of hts) (fun i σ' H' => ∃ M' c', σ' = [a, some (.ref p), b, c'] ∧ ExB p H H' ∧ Pws H' p M' ∧ M'.length ≤ M.length + i ∧ M'.map (·.2) = ((winsJ x).take i).foldl addP (M.map (·.2))) (fun H1 e1 => ⟨M, c, rfl, ExB.of e1, hp.ex e1, by omega, rfl⟩) ?_ ?_ ?_
  · rintro i σ' H' _ ⟨M', c', rfl, e, _⟩
    exact sq_of (e wp _ hn hts)
  · rintro i v σ' H' hi ⟨M', c', rfl, e, hp', hz', hm⟩
    rw [List.getElem?_map] at hi
    cases ht : ts[i]? with
    | none =>
      rw [ht] at hi
      cases hi
    | some t =>
      rw [ht] at hi
      cases hi
      have hil : i < (winsJ x).length := by
        rw [← hl]
        by_cases hh : i < ts.length
        · exact hh
        · rw [List.getElem?_eq_none (by omega)] at ht
          cases ht
      have hwx : (winsJ x)[i]? = some (winsJ x)[i] := List.getElem?_eq_getElem hil
      generalize (winsJ x)[i] = w at hwx
      have h0 := hat i t w ht hwx
      have htp' : t ≠ p := ne_lt h0 hp.1
      have hTP : TP H' (t, w) := ⟨e t _ htp' h0, low_wins hx (List.mem_of_getElem? hwx)⟩
      have hfold := foldl_take addP (M.map (·.2)) (winsJ x) hwx
      rw [← hm] at hfold
      refine s_when (b := !decide (w ∈ M'.map (·.2))) (et_test (ev_op (ev_var rfl) (ev_var rfl) (rv_notInPws (q := (t, w)) hTP hp'))) (fun hb H1 e1 => ?_) (fun hb H1 e1 => ?_)
      · have hnot : w ∉ M'.map (·.2) := by simpa using hb
        have hp1 := hp'.ex e1
        refine s_app hp1.1 (ev_var rfl) (ev_var rfl) (by rw [List.length_map]; omega) fun H2 e2 => ?_
        have hp2 := hp1.ex e2
        refine ⟨M' ++ [(t, w)], _, rfl, (e.trans (ExB.of (e1.trans e2))).trans ExB.upd, ⟨by rw [upd_same, List.map_append]; rfl, fun q hq => ?_⟩, by rw [List.length_append]; simp; omega, ?_⟩
        · rcases List.mem_append.mp hq with hq | hq
          · exact (hp2.2 q hq).n (ExN.upd hp2.1)
          · rw [List.mem_singleton.mp hq]
            exact hTP.n ((ExN.of (e1.trans e2)).trans (ExN.upd hp2.1))
        · rw [hfold, List.map_append]
          unfold addP
          rw [if_neg hnot]
          rfl
      · have hin : w ∈ M'.map (·.2) := by simpa using hb
        refine ⟨M', _, rfl, e.trans (ExB.of e1), hp'.ex e1, by omega, ?_⟩
        rw [hfold]
        unfold addP
        rw [if_pos hin]
  · rintro σ' H' ⟨M', c', rfl, e, hp', hz', hm⟩
    rw [List.length_map, hl] at hz' hm
    rw [List.take_length] at hm
    exact k H' M' c' e hp' (by omega) hm
end
end K57
namespace K57
open PySem PySem.Spec PyProof.Rows L2 Lc Evl
section
variable {P : Program} {w : World} {K : PySem.W.Frag} {mg : Str → Option Value} {base : Heap}
/-! ### pairs -/
def Jms (K : PySem.W.Frag) (t : Bool) (H : Hp) (p : Addr) (L : List (Addr × Jm)) : Prop := Sq K t H p (L.map fun q => V.ref q.1) ∧ ∀ q ∈ L, TI K H q
theorem Jms.ex {t : Bool} {H H' : Hp} {p : Addr} {L : List (Addr × Jm)} (h : Jms K t H p L) (e : Ex H H') : Jms K t H' p L := ⟨h.1.ex e, fun q hq => (h.2 q hq).ex e⟩
theorem ref_at {α : Type} {L : List (Addr × α)} {i : Nat} {v : V} (h : (L.map fun q => V.ref q.1)[i]? = some v) : ∃ q, L[i]? = some q ∧ q ∈ L ∧ v = .ref q.1 := by
  rw [List.getElem?_map] at h
  cases hq : L[i]? with
  | none =>
    rw [hq] at h
    cases h
  | some q =>
    rw [hq] at h
    cases h
    exact ⟨q, rfl, List.mem_of_getElem? hq, rfl⟩
theorem ex_of_b {f : Addr} {H H1 H' : Hp} (hf : H f = none) (e1 : Ex H H1) (e : ExB f H1 H') : Ex H H' := fun c o hc => e c o (fun z => by rw [z, hf] at hc; cases hc) (e1 c o hc)
theorem hu65 {k : Nat} {A : Around} (r : Room k A) : A.units + 65 < cLine := by
  have := r.un
  omega
def sp_pairs_of (K : PySem.W.Frag) : Sp := fun vs H Q _ => ∃ (p : Addr) (t : Bool) (L : List (Addr × Jm)), vs = [.ref p] ∧ Jms K t H p L ∧ L.length ≤ 14 ∧
  ∀ r (M : List (Addr × Pr2)) H', H r = none → Ex H H' → H' r = some (.tup (M.map fun q => V.ref q.1)) → (∀ q ∈ M, TP H' q) → M.map (·.2) = pairsV (L.map (·.2)) → M.length ≤ 100 → Q (.ref r) H'
theorem ok_pairs_of (T : Tx K mg w) : OkD P w K mg base 6 d_pairs_of ps_pairs_of (sp_pairs_of K) := by
  refine (h_pairs_of T).ok sc_pairs_of (fun vs H Q E h => ?_) (fun cdv A outer s H vs Q E hr h => ⟨_,
      (pss_cons (ps_set (i := 1) sc_pairs_of.nd rfl (Or.inl rfl) (pe_lst pa_nil))
      (pss_cons (ps_for (passes_of rfl) rfl (pi_seq (pv 0)) (pg_name (i := 2) sc_pairs_of.nd rfl (Or.inl rfl)) (pss_one (ps_for (passes_of rfl) rfl (pi_list (pe_meth0 (pv 2) (c_Jump T) (me_Jump_windows T) (ok_Jump_windows (P := P) (w := w) (base := base) T) (hr.mono (by decide)) (b_Jump_windows T) .nil passN)) (pg_name (i := 3) sc_pairs_of.nd rfl (Or.inl rfl)) (pss_one (ps_if (pt_cmpR (show OpR _ _ (rNotInD K) from op_notInD (hu65 hr)) (pv 3) (pv 1) (by rfl)) (pss_one (ps_expr (pe_bm PySem.F.plainAttrs_list PySem.F.slot_list_append PySem.F.type_list_append mt_append (pv 1) (pa_cons (pv 3) pa_nil)))) pss_nil)))))
      (pss_one (ps_ret (pe_callTy (show CallR _ (.type "tuple") (rTupOf K) from call_tuple_of) (by rfl) (m_tuple T) (by decide +kernel) (pa_cons (pv 1) pa_nil)))))), ?_⟩)
  · obtain ⟨p, t, L, rfl, _⟩ := h
    rfl
  · obtain ⟨p, t, L, rfl, hj, hl, q⟩ := h
    refine q_asgL (el_lst ea_nil (by simp)) fun f H1 hf e1 h1 => ?_
    have j1 := hj.ex e1
    refine q_forSq (t := t) (ev_var rfl) j1.1 (fun i σ' H' => ∃ M c c', σ' = [some (.ref p), some (.ref f), c, c'] ∧ Ex H H' ∧ Pws H' f M ∧ M.length ≤ 2 * i ∧ M.map (·.2) = pairsV ((L.take i).map (·.2))) (fun H2 e2 => ⟨[], none, none, rfl, e1.trans e2, ⟨e2 _ _ h1, fun q hq => by cases hq⟩, by simp, rfl⟩) ?_ ?_ ?_
    · rintro i σ' H' _ ⟨M, c, c', rfl, e, _⟩
      exact hj.1.ex e
    · rintro i v σ' H' hi ⟨M, c, c', rfl, e, hp, hz, hm⟩
      obtain ⟨⟨j, x⟩, hq1, hq2, rfl⟩ := ref_at hi
      obtain ⟨hJ, hV⟩ := (hj.2 _ hq2).ex e
      have hil : i < L.length := by
        by_cases hh : i < L.length
        · exact hh
        · rw [List.getElem?_eq_none (by omega)] at hq1
          cases hq1
      dsimp only [List.set] at hJ hV ⊢
      have hJ2 := hJ
      obtain ⟨dx, hJ2⟩ := hJ2
      refine for_fst ?_
      refine ⟨_, rfl, j, dx, _, rfl, hJ2, rfl, j, _, _, _, rfl, hJ, hV, fun wp H2 hwp e2 hw => ?_⟩
      refine inner (p := f) (x := x) (hp.ex e2) hw hV (fun z => by
        have h3 := hp.1
        rw [← z, hwp] at h3
        cases h3) (by omega) rfl fun H3 M' c3 e3 hp3 hz3 hm3 => ?_
      refine ⟨M', _, c3, rfl, ex_of_b hf (e.trans e2) e3, hp3, by omega, ?_⟩
      rw [hm3, hm, take_snoc hq1, List.map_append]
      exact (pairsV_snoc _ x).symm
    · rintro σ' H' ⟨M, c, c', rfl, e, hp, hz, hm⟩
      rw [List.length_map] at hz hm
      rw [List.take_length] at hm
      refine s_retU (eu_tupL (ev_var rfl) (sq_of hp.1)) fun r H2 hr2 e2 h2 => ?_
      exact q r M H2 (fresh_back e hr2) (e.trans e2) h2 (hp.ex e2).2 hm (by omega)
/-! ### the law's pairs -/
end
end K57
namespace Lc
open PySem PySem.Spec PyProof.Rows L2 Evl
section
variable {X : Cx} {e : Expr} {te : TE} {pos : Pos} {f : Str}
theorem pe_fldK (K : PySem.W.Frag) (hK : X.K = K) (he : PE X e te) (hb : attributeBase e f X.env (eval e X.env) = eval e X.env) : PE X (.Attribute e f pos) (tFld K te f) := by
  subst hK
  exact pe_fld he hb
end
end Lc
namespace K57
open PySem PySem.Spec PyProof.Rows L2 Lc Evl
section
variable {P : Program} {w : World} {K : PySem.W.Frag} {mg : Str → Option Value} {base : Heap}
/-! ### comprehensions that make objects -/
section
variable {σ : L2.St} {tl te : TE} {vs : List Nat} {j : Nat} {Q : VK}
def Og (H : Hp) (R : Nat → V → Hp → Prop) (Dl : Addr) (i : Nat) (H' : Hp) : Prop := H Dl = none ∧ Ex H H' ∧ ∃ ys : List V, H' Dl = some (.lst ys) ∧ ys.length = i ∧ ∀ (k : Nat) y, ys[k]? = some y → R k y H'
def KeepN (R : Nat → V → Hp → Prop) : Prop := ∀ k x H H', R k x H → ExN H H' → R k x H'
theorem og_start {H : Hp} {R : Nat → V → Hp → Prop} {Dl : Addr} (hD : H Dl = none) : Og H R Dl 0 (upd H Dl (.lst [])) := ⟨hD, Ex.new hD, [], upd_same, rfl, fun k y h => by simp at h⟩
theorem og_turn {H H' : Hp} {R : Nat → V → Hp → Prop} (hR : KeepN R) {Dl : Addr} {i : Nat} {σ2 : L2.St} (p : Og H R Dl i H') (hi : i < 50000) (he : ∀ Q : VK, (∀ v H2, Ex H' H2 → R i v H2 → Q v H2) → te σ2 H' Q) :
    tYes σ2 H' fun b H3 => if b = true then te σ2 H3 fun y H4 => ∃ acc, H4 Dl = some (.lst acc) ∧ acc.length < sizeLine ∧ Og H R Dl (i + 1) (upd H4 Dl (.lst (acc ++ [y]))) else Og H R Dl (i + 1) H3 := by
  obtain ⟨hD, e, ys, h1, hl, hr⟩ := p
  show te σ2 H' fun y H4 => ∃ acc, H4 Dl = some (.lst acc) ∧ acc.length < sizeLine ∧ Og H R Dl (i + 1) (upd H4 Dl (.lst (acc ++ [y])))
  refine he _ fun v H4 e4 hv => ⟨ys, e4 _ _ h1, sz_lt (by omega), hD, Ex.mut (e.trans e4) hD, ys ++ [v], upd_same, by simp [hl], fun k y hk => ?_⟩
  have h4 := e4 _ _ h1
  rcases Nat.lt_or_ge k ys.length with hlt | hge
  · rw [List.getElem?_append_left hlt] at hk
    exact hR k y _ _ (hr k y hk) ((ExN.of e4).trans (ExN.upd h4))
  · rw [List.getElem?_append_right hge] at hk
    have ek : k = i := by
      cases hh : k - ys.length with
      | zero => omega
      | succ n =>
        rw [hh] at hk
        simp at hk
    subst ek
    rw [hl, Nat.sub_self] at hk
    cases hk
    exact hR _ _ _ _ hv (ExN.upd h4)
theorem og_Sq {t : Bool} {H : Hp} {R : Nat → V → Hp → Prop} (hR : KeepN R) {a : Addr} {xs : List V} (h : Ev tl σ H (.ref a)) (hx : Sq K t H a xs) (hz : xs.length ≤ 40000) (hw : ∀ x, wipe ((wipe σ vs).set j (some x)) vs = wipe σ vs)
    (he : ∀ (i : Nat) (x : V) H1, Ex H H1 → xs[i]? = some x → ∀ Q : VK, (∀ v H2, Ex H1 H2 → R i v H2 → Q v H2) → te ((wipe σ vs).set j (some x)) H1 Q)
    (k : ∀ (ys : List V) p H', ys.length = xs.length → (∀ (k : Nat) y, ys[k]? = some y → R k y H') → H p = none → Ex H H' → H' p = some (.lst ys) → Q (.ref p) H') :
    tLc (iSeq K tl) (gName j) tYes te vs σ H Q := h H (Ex.refl H) _ fun H1 e1 => ⟨a, rfl, by
  cases t with
  | false => exact .inl ⟨⟨xs, ex_l e1 hx⟩, fun Dl hD => lc_list (xs := xs) (Og H1 R Dl) (og_start hD) (fun i H' _ p => ex_l (e1.trans p.2.1) hx) (fun i x H' hi p => ⟨hw x, og_turn hR p (by have := (List.getElem?_eq_some_iff.mp hi).1; omega) (he i x H' (e1.trans p.2.1) hi)⟩) (fun H' p => by
      obtain ⟨hD2, e, ys, h1, hl, hr⟩ := p
      exact k ys Dl H' hl hr (fresh_back e1 hD2) (e1.trans e) h1)⟩
  | true => exact .inr ⟨⟨xs, ex_t e1 hx⟩, fun Dl hD => lc_tup (xs := xs) (Og H1 R Dl) (og_start hD) (fun i H' _ p => ex_t (e1.trans p.2.1) hx) (fun i x H' hi p => ⟨hw x, og_turn hR p (by have := (List.getElem?_eq_some_iff.mp hi).1; omega) (he i x H' (e1.trans p.2.1) hi)⟩) (fun H' p => by
      obtain ⟨hD2, e, ys, h1, hl, hr⟩ := p
      exact k ys Dl H' hl hr (fresh_back e1 hD2) (e1.trans e) h1)⟩⟩
theorem og_L {H : Hp} {R : Nat → V → Hp → Prop} (hR : KeepN R) {a : Addr} {xs : List V} (h : Ev tl σ H (.ref a)) (hx : SqL K H a xs) (hz : xs.length ≤ 40000) (hw : ∀ x, wipe ((wipe σ vs).set j (some x)) vs = wipe σ vs)
    (he : ∀ (i : Nat) (x : V) H1, Ex H H1 → xs[i]? = some x → ∀ Q : VK, (∀ v H2, Ex H1 H2 → R i v H2 → Q v H2) → te ((wipe σ vs).set j (some x)) H1 Q)
    (k : ∀ (ys : List V) p H', ys.length = xs.length → (∀ (k : Nat) y, ys[k]? = some y → R k y H') → H p = none → Ex H H' → H' p = some (.lst ys) → Q (.ref p) H') :
    tLc (iList K tl) (gName j) tYes te vs σ H Q := h H (Ex.refl H) _ fun H1 e1 => ⟨a, rfl, ⟨xs, ex_l e1 hx⟩, fun Dl hD => lc_list (xs := xs) (Og H1 R Dl) (og_start hD) (fun i H' _ p => ex_l (e1.trans p.2.1) hx) (fun i x H' hi p => ⟨hw x, og_turn hR p (by have := (List.getElem?_eq_some_iff.mp hi).1; omega) (he i x H' (e1.trans p.2.1) hi)⟩) (fun H' p => by
      obtain ⟨hD2, e, ys, h1, hl, hr⟩ := p
      exact k ys Dl H' hl hr (fresh_back e1 hD2) (e1.trans e) h1)⟩
theorem og_T {H : Hp} {R : Nat → V → Hp → Prop} (hR : KeepN R) {a : Addr} {xs : List V} (h : Ev tl σ H (.ref a)) (hx : SqT K H a xs) (hz : xs.length ≤ 40000) (hw : ∀ x, wipe ((wipe σ vs).set j (some x)) vs = wipe σ vs)
    (he : ∀ (i : Nat) (x : V) H1, Ex H H1 → xs[i]? = some x → ∀ Q : VK, (∀ v H2, Ex H1 H2 → R i v H2 → Q v H2) → te ((wipe σ vs).set j (some x)) H1 Q)
    (k : ∀ (ys : List V) p H', ys.length = xs.length → (∀ (k : Nat) y, ys[k]? = some y → R k y H') → H p = none → Ex H H' → H' p = some (.lst ys) → Q (.ref p) H') :
    tLc (iTup K tl) (gName j) tYes te vs σ H Q := h H (Ex.refl H) _ fun H1 e1 => ⟨a, rfl, ⟨xs, ex_t e1 hx⟩, fun Dl hD => lc_tup (xs := xs) (Og H1 R Dl) (og_start hD) (fun i H' _ p => ex_t (e1.trans p.2.1) hx) (fun i x H' hi p => ⟨hw x, og_turn hR p (by have := (List.getElem?_eq_some_iff.mp hi).1; omega) (he i x H' (e1.trans p.2.1) hi)⟩) (fun H' p => by
      obtain ⟨hD2, e, ys, h1, hl, hr⟩ := p
      exact k ys Dl H' hl hr (fresh_back e1 hD2) (e1.trans e) h1)⟩
theorem objs_of {α : Type} {T : Addr × α → Prop} : ∀ (ys : List V) (G : List α), ys.length = G.length → (∀ (k : Nat) y x, ys[k]? = some y → G[k]? = some x → ∃ j, y = .ref j ∧ T (j, x)) → ∃ L : List (Addr × α), ys = (L.map fun q => V.ref q.1) ∧ L.map (·.2) = G ∧ ∀ q ∈ L, T q
  | [], [], _, _ => ⟨[], rfl, rfl, by simp⟩
  | y :: ys, x :: G, hl, h => by
    obtain ⟨L, e1, e2, hL⟩ := objs_of ys G (by simpa using hl) fun k y' x' hy hx => h (k + 1) y' x' hy hx
    obtain ⟨j, rfl, ht⟩ := h 0 y x rfl rfl
    refine ⟨(j, x) :: L, by rw [e1]; rfl, by simp [e2], fun q hq => ?_⟩
    rcases List.mem_cons.mp hq with rfl | hq
    · exact ht
    · exact hL q hq
  | [], _ :: _, hl, _ => by simp at hl
  | _ :: _, [], hl, _ => by simp at hl
end
/-- the values behind a list of addresses -/
def RTI (K : PySem.W.Frag) (G : List Jm) (k : Nat) (v : V) (H : Hp) : Prop := ∀ x, G[k]? = some x → ∃ j, v = .ref j ∧ TI K H (j, x)
def RTJ (G : List Jm) (k : Nat) (v : V) (H : Hp) : Prop := ∀ x, G[k]? = some x → ∃ j, v = .ref j ∧ TJ H (j, x)
theorem TI.n {H H' : Hp} {q : Addr × Jm} (h : TI K H q) (e : ExN H H') : TI K H' q := by
  obtain ⟨⟨dx, h1⟩, h2⟩ := h
  exact ⟨⟨dx, e _ _ (fun _ z => by cases z) h1⟩, h2⟩
theorem keep_RTI {G : List Jm} : KeepN (RTI K G) := fun k v H H' h e x hx => by
  obtain ⟨j, h1, h2⟩ := h x hx
  exact ⟨j, h1, h2.n e⟩
theorem keep_RTJ {G : List Jm} : KeepN (RTJ G) := fun k v H H' h e x hx => by
  obtain ⟨j, h1, h2⟩ := h x hx
  exact ⟨j, h1, h2.n e⟩
theorem snd_at {α : Type} {L : List (Addr × α)} {k : Nat} {q : Addr × α} {x : α} (h : L[k]? = some q) (hx : (L.map (·.2))[k]? = some x) : x = q.2 := by
  rw [List.getElem?_map, h] at hx
  cases hx
  rfl
/-! ### jumps from triples, triples from jumps -/
end
end K57
namespace K57
open PySem PySem.Spec PyProof.Rows L2 Lc Evl
section
variable {P : Program} {w : World} {K : PySem.W.Frag} {mg : Str → Option Value} {base : Heap}
/-! ### what is wrong -/
instance (ps : List Int) : Decidable (OkP ps) := by
  unfold OkP
  infer_instance
instance (n : Nat) (ps : List Int) (x : Jm) : Decidable (Fits n ps x) := by
  unfold Fits
  infer_instance
def OkG (ps : List Int) (G : List Jm) : Prop := G.length ≤ 12 ∧ G.Nodup ∧ ∀ x ∈ G, Fits ps.length ps x
instance (ps : List Int) (G : List Jm) : Decidable (OkG ps G) := by
  unfold OkG
  infer_instance
def wrg (ps : List Int) (G : List Jm) : Str := if OkP ps then (if OkG ps G then "" else "jumps") else "worths"
theorem wrg_p {ps : List Int} {G : List Jm} (h : ¬ OkP ps) : wrg ps G = "worths" := if_neg h
theorem wrg_g {ps : List Int} {G : List Jm} (h : OkP ps) (h2 : ¬ OkG ps G) : wrg ps G = "jumps" := by
  unfold wrg
  rw [if_pos h, if_neg h2]
theorem wrg_o {ps : List Int} {G : List Jm} (h : OkP ps) (h2 : OkG ps G) : wrg ps G = "" := by
  unfold wrg
  rw [if_pos h, if_pos h2]
theorem filter_none {α : Type} {l : List α} {p : α → Bool} : ((l.filter p).length : Int) > 0 ↔ ∃ x ∈ l, p x = true := by
  constructor
  · intro h
    cases hh : l.filter p with
    | nil =>
      rw [hh] at h
      simp at h
    | cons x r =>
      have : x ∈ l.filter p := by rw [hh]; exact List.mem_cons_self ..
      exact ⟨x, (List.mem_filter.mp this).1, (List.mem_filter.mp this).2⟩
  · rintro ⟨x, hx, hp⟩
    have := List.length_pos_of_mem (List.mem_filter.mpr ⟨hx, hp⟩)
    omega
theorem take_mem_succ {α : Type} {l : List α} {i : Nat} {x : α} (h : l[i]? = some x) {y : α} : y ∈ l.take (i + 1) ↔ y ∈ l.take i ∨ y = x := by
  rw [take_snoc h, List.mem_append, List.mem_singleton]
theorem nodup_snoc {α : Type} {l : List α} {x : α} (h : l.Nodup) (hx : x ∉ l) : (l ++ [x]).Nodup := by
  refine List.nodup_append.mpr ⟨h, by simp, ?_⟩
  intro a ha b hb
  rw [List.mem_singleton.mp hb]
  exact fun z => hx (z ▸ ha)
theorem nodup_take {α : Type} {l : List α} (h : l.Nodup) (i : Nat) {x : α} (hx : l[i]? = some x) : x ∉ l.take i := by
  have h2 := h.sublist (List.take_sublist (i + 1) l)
  rw [take_snoc hx] at h2
  intro hm
  exact (List.nodup_append.mp h2).2.2 x hm x (List.mem_singleton.mpr rfl) rfl
theorem rcm {H H' : Hp} {r : List V → Hp → VK → Prop} {vs : List V} {z : V} (h : RC r vs H z) (e : Ex H H') : RC r vs H' z := fun H1 e1 => h H1 (e.trans e1)
/-! ### the sound rows -/
theorem ev_call2L {σ : L2.St} {H : Hp} {sp : Sp} {dvs : List V} {E : XK} {t1 t2 : TE} {v z : V} {xs : List V} (h1 : Ev t1 σ H v) (h2 : EvL t2 σ H xs) (hs : ∀ p H1, Ex H H1 → H1 p = some (.lst xs) → SpV sp ([v, .ref p] ++ dvs) H1 z) : Ev (tCall sp dvs E (tCons t1 (tCons t2 tNil))) σ H z := fun H1 e Q q =>
  h1 H1 e _ fun H2 e2 => h2 H2 (e.trans e2) _ fun p H3 hp e3 h3 => hs p H3 ((e.trans e2).trans e3) h3 H3 (Ex.refl H3) _ (fun H4 e4 => q H4 ((e2.trans e3).trans e4)) E
end
end K57
namespace Lc
open PySem PySem.Spec PyProof.Rows L2 Evl
/-! ### len(set(texts)) -/
def addS (f : List Str) (x : Str) : List Str := if x ∈ f then f else f ++ [x]
theorem addS_mem {f : List Str} {x k : Str} : k ∈ addS f x ↔ k ∈ f ∨ k = x := by
  unfold addS
  by_cases h : x ∈ f
  · rw [if_pos h]
    exact ⟨.inl, fun q => q.elim id fun e => e ▸ h⟩
  · rw [if_neg h, List.mem_append, List.mem_singleton]
theorem addS_len {f : List Str} {x : Str} : (addS f x).length = if decide (x ∈ f) = true then f.length else f.length + 1 := by
  unfold addS
  by_cases h : x ∈ f
  · rw [if_pos h, if_pos (decide_eq_true h)]
  · rw [if_neg h, if_neg (by simp [h]), List.length_append, List.length_singleton]
def setS (xs : List Str) : List Str := xs.foldl addS []
theorem fold_len : ∀ (xs f : List Str), f.Nodup → (xs.foldl addS f).length ≤ f.length + xs.length ∧ ((xs.foldl addS f).length = f.length + xs.length ↔ (f ++ xs).Nodup)
  | [], f, h => by simp [h]
  | x :: r, f, h => by
    rw [List.foldl_cons, List.length_cons]
    by_cases hx : x ∈ f
    · have e : addS f x = f := if_pos hx
      obtain ⟨h1, h2⟩ := fold_len r f h
      rw [e]
      refine ⟨by omega, fun z => by omega, fun z => ?_⟩
      exact absurd rfl ((List.nodup_append.mp z).2.2 x hx x (List.mem_cons_self ..))
    · have e : addS f x = f ++ [x] := if_neg hx
      have hn : (f ++ [x]).Nodup := List.nodup_append.mpr ⟨h, by simp, fun a ha b hb z => hx (by rw [← List.mem_singleton.mp hb, ← z]; exact ha)⟩
      obtain ⟨h1, h2⟩ := fold_len r (f ++ [x]) hn
      rw [e]
      rw [List.length_append, List.length_singleton] at h1 h2
      refine ⟨by omega, ?_⟩
      rw [show f.length + (r.length + 1) = f.length + 1 + r.length by omega, h2, List.append_assoc]
      rfl
theorem setS_len (xs : List Str) : (setS xs).length ≤ xs.length ∧ ((setS xs).length = xs.length ↔ xs.Nodup) := by
  have h := fold_len xs [] List.nodup_nil
  simpa [setS] using h
theorem setS_snoc {xs : List Str} {i : Nat} {x : Str} (h : xs[i]? = some x) : setS (xs.take (i + 1)) = addS (setS (xs.take i)) x := by
  unfold setS
  rw [List.take_add_one, h, List.foldl_append]
  rfl
section
variable {prog : Program} {w : World} {A : Around} {R : Result → Shared → Prop} {I : Addr} {fp wr : List Addr} {G : Array GenState → Array GenState → Prop} {n : Nat} {P : Nat → Value → Prop} {St : Nat → Shared → Prop}
/-- texts put into a set, one after the other -/
theorem put_texts (V : WalksS prog w A.in1 I fp wr G n P St) (D : Addr) (hD : D ∉ fp) (xs : List Str) (hn : xs.length = n) (few : n < 4000) (tx : ∀ i v, P i v → ∃ t, v = .str (xs.getD i Str.empty) t) (m : Nat) :
    ∀ (i : Nat) (s : Shared), n - i = m → i ≤ n → St i s → s.heap.SetOf (PySem.strKind prog w) D (fun z => decide (z ∈ setS (xs.take i))) (setS (xs.take i)).length →
      (∀ s', Moved (D :: wr) G s s' → s'.heap.SetOf (PySem.strKind prog w) D (fun z => decide (z ∈ setS xs)) (setS xs).length → R (.ok (.ret .none)) s') → codeAny (model prog w) A (.builtin "set.update.loop" ⟨[.ref D, .ref I], []⟩) R s := by
  have hw : D ∉ wr := fun z => hD (V.sub _ z)
  have up : ∀ c ∈ wr, c ∈ D :: wr := fun _ z => .tail _ z
  have kp : ∀ {s s' : Shared} {S : Str → Bool} {k : Nat}, Moved wr G s s' → s.heap.SetOf (PySem.strKind prog w) D S k → s'.heap.SetOf (PySem.strKind prog w) D S k := fun mv z => by
    obtain ⟨o, q1, q2, q3, q4, more⟩ := z
    exact ⟨o, q1, q2, q3, mv.heap D o hw q4, more⟩
  induction m with
  | zero =>
    intro i s e hi st hs k
    obtain rfl : i = n := by omega
    refine codeAny_builtin PyProof.Rows.F.entry_set_update_loop ?_
    rw [Around.under_plainId PyProof.Rows.F.plain_set_update_loop _]
    refine wpAny_bind (m := pyNext (.ref I)) (V.done s _ _ st fun s' mv => ?_)
    refine wpAny_pure (k s' (mv.mono up) ?_)
    have z := kp mv hs
    rw [List.take_of_length_le (by omega)] at z
    exact z
  | succ m ih =>
    intro i s e hi st hs k
    have lt : i < n := by omega
    have hx : xs[i]? = some (xs.getD i Str.empty) := by
      rw [List.getD_eq_getElem?_getD, List.getElem?_eq_getElem (by omega)]
      rfl
    refine codeAny_builtin PyProof.Rows.F.entry_set_update_loop ?_
    rw [Around.under_plainId PyProof.Rows.F.plain_set_update_loop _]
    refine wpAny_bind (m := pyNext (.ref I)) (V.item i s _ _ lt st fun v s1 hp st1 mv => ?_)
    obtain ⟨t, rfl⟩ := tx i v hp
    have hs1 := kp mv hs
    have hle := (setS_len (xs.take i)).1
    rw [List.length_take] at hle
    have step := setS_snoc hx
    generalize xs.getD i Str.empty = x at hx step ⊢
    refine wpAny_bind (m := holding [Value.str x t] (setAdd D (.str x t))) (wpAny_holding ?_)
    unfold setAdd
    refine wpAny_holding (wpAny_bind ((PySem.strKind prog w).pyHash (k := x) (strKind_is _ _ _ _) ?_))
    refine wpAny_setAddHashed_of (knd := PySem.strKind prog w) (s := { s1 with toks := s1.toks + 1 }) (strKind_is _ _ _ _) rfl hs1 (by unfold scanBound; omega) fun h' hb hs2 => ?_
    have hs3 : h'.SetOf (PySem.strKind prog w) D (fun z => decide (z ∈ setS (xs.take (i + 1)))) (setS (xs.take (i + 1))).length := by
      rw [step]
      refine SetOf_congr hs2 (fun z => ?_) addS_len.symm
      rw [Bool.eq_iff_iff]
      simp only [Bool.or_eq_true, decide_eq_true_eq]
      exact addS_mem.symm
    refine wpAny_pure ⟨plainId_quiet PyProof.Rows.F.plain_set_update_loop _, ih (i + 1) _ (by omega) lt (V.frame _ s1 _ _ st1 (Nat.le_succ _) fun c hc o z => ?_) hs3 fun s2 mv2 hs4 => k s2 (Moved.trans V.gtrans ((mv.mono up).then_heap (Nat.le_succ _) fun c o hc z => ?_) mv2) hs4⟩
    · exact (hb.2 c fun q => hD (q ▸ hc)).trans z
    · exact (hb.2 c fun q => hc (q ▸ .head _)).trans z
end
section
variable {prog : Program} {w : World} {A : Around} {E : Value → Shared → Prop} {s : Shared}
def emS (led : Bool) : Obj := { cls := .type "set", dict := none, data := .set #[] 0 (.fresh 0 0 led) }
/-- set(a list of texts) -/
theorem set_of_texts {l : Addr} {its : Array Value} {xs : List Str} {Q : Value → Shared → Prop} (hh : A.handled = none) (hl : s.heap.IsList l its) (hx : StrsAre its.toList xs) (few : xs.length < 4000)
    (k : ∀ (h' : Heap) (tk : Nat), h'.SetOf (PySem.strKind prog w) s.heap.objs.size (fun z => decide (z ∈ setS xs)) (setS xs).length → (∀ b o, b < s.heap.objs.size → s.heap.get? b = some o → h'.get? b = some o) → Q (.ref s.heap.objs.size) { s with heap := h', toks := tk }) :
    wpAny (model prog w) A (call (.type "set") [.ref l]) Q E s := by
  have w1 := PySem.F.called_set.mro
  obtain ⟨_, _, w1⟩ := w1
  have w2 := PySem.F.called_set.made
  have w3 := PySem.F.called_set.sub
  have w4 := PySem.F.called_set.notType
  have w5 := PySem.F.called_set.canCreate
  have w6 := PySem.F.typeCall_set_1 (.ref l)
  refine wpAny_call (codeAny_of_tree (wpAny_pure ⟨Code.quiet_builtin _ (by decide +kernel), codeAny_builtin PySem.F.entry_type_call ?_⟩))
  rw [Around.under_plain (weight_type_call_type "set" [.ref l] []) rfl]
  repeat (any_goals (first | assumption | wp_step))
  refine codeAny_mono (code_set_new_1 (.ref l) (E := E) (Q₁ := fun v s1 => ∃ led : Bool, v = .ref s.heap.objs.size ∧ s1 = { s with heap := s.heap.push (emS led) }) fun led => ⟨led, rfl, rfl⟩) fun r s1 hr => ?_
  match r, hr with
  | .error _, hr => exact hr
  | .ok (.ret v), hr =>
    obtain ⟨led, rfl, rfl⟩ := hr
    have hD : (s.heap.push (emS led)).get? s.heap.objs.size = some (emS led) := Heap.get?_push_size _ rfl
    have hT : Shared.TypeIs { s with heap := s.heap.push (emS led) } (.ref s.heap.objs.size) "set" := ⟨_, hD, rfl⟩
    have w7 := PySem.F.called_set.init.lookup
    have w8 := PySem.F.called_set.init.bind (.ref s.heap.objs.size)
    repeat (any_goals (first | assumption | wp_step))
    refine codeAny_mono (codeAny_call_builtin (R := wants (fun v s2 => v = .none ∧ ∃ h' tk, s2 = { s with heap := h', toks := tk } ∧ h'.SetOf (PySem.strKind prog w) s.heap.objs.size (fun z => decide (z ∈ setS xs)) (setS xs).length ∧ ∀ b o, b < s.heap.objs.size → s.heap.get? b = some o → h'.get? b = some o) E) PySem.F.called_set.init.plain PySem.F.entry_set_init (check_set_init_1 hT ?_)) fun r2 s2 hr2 => ?_
    · obtain ⟨⟨cl, dc, dt, sl⟩, ho, h1, nl, h2⟩ := hl
      simp only at h1 h2
      subst h1 h2
      have hol : (s.heap.push (emS led)).get? l = some { cls := .type "list", dict := dc, data := .seq its nl, slots := sl } := Heap.get?_push_of_some _ ho
      have w9 := PySem.F.sub_list_set
      have wA := PySem.F.sub_list_frozenset
      have wB : (Value.type "list" == Value.type "dict") = false := by decide
      have hl1 : (s.heap.push (emS led)).IsList l its := ⟨_, hol, rfl, nl, rfl⟩
      unfold Builtin.«set.__init__» noKeywords Builtin.Frozenset.updateFrom
      generalize hpi : pyIter = it
      wp_walk
      subst hpi
      refine wpAny_pyIter_list hl1 (wpAny_bind (wpAny_runValue ?_))
      have ll : l < s.heap.objs.size := Heap.lt_size ho
      have ls : (s.heap.push (emS led)).objs.size = s.heap.objs.size + 1 := Heap.size_push _ _
      have n1 : l ≠ (s.heap.push (emS led)).objs.size := fun z => by
        have z2 : l < (s.heap.push (emS led)).objs.size := by rw [ls]; exact Nat.lt_succ_of_lt ll
        exact Nat.lt_irrefl _ (z ▸ z2)
      have n2 : s.heap.objs.size ∉ [(s.heap.push (emS led)).objs.size, l] := fun z => by
        rcases List.mem_cons.mp z with z | z
        · rw [ls] at z
          exact absurd z (Nat.ne_of_lt (Nat.lt_succ_self _))
        · rw [List.mem_singleton.mp z] at ll
          exact Nat.lt_irrefl _ ll
      have hz : xs.length = its.size := by rw [← StrsAre.len_eq hx, Array.length_toList]
      refine put_texts ((Walks.list (show A.in1.in1.in1.handled = none by simp [hh]) _ l n1 its).toS) s.heap.objs.size n2 xs hz (hz ▸ few) (fun i v q => SS.strs_at hx i v (by rw [Array.getElem?_toList]; exact q)) (its.size - 0) 0 _ (by omega) (Nat.zero_le _) ⟨⟨_, Heap.get?_push_size _ rfl, rfl, rfl⟩, hl1.push _⟩ ?_ fun s3 mv hs => ?_
      · exact SetOf_congr ((setObjOf_fresh (knd := PySem.strKind prog w) led).setOf (Heap.get?_push_of_some _ hD) (by unfold scanBound; omega)) (fun _ => rfl) rfl
      · obtain ⟨h3, g3, d3, t3, o3⟩ := s3
        obtain rfl : g3 = s.gens := mv.gens
        obtain rfl : d3 = s.drawn := mv.drawn
        obtain rfl : o3 = s.os := mv.os
        show wpAny _ _ _ _ _ _
        refine wpAny_pure ?_
        show wpAny _ _ (ret Value.none) _ _ _
        refine wpAny_pure ⟨rfl, h3, t3, rfl, hs, fun b o hb q => mv.heap b o (fun z => ?_) (Heap.get?_push_of_some _ (Heap.get?_push_of_some _ q))⟩
        rcases List.mem_cons.mp z with z | z
        · exact Nat.ne_of_lt hb z
        · have z2 := List.mem_singleton.mp z
          rw [ls] at z2
          exact Nat.ne_of_lt (Nat.lt_succ_of_lt hb) z2
    · match r2, hr2 with
      | .error _, q => exact q
      | .ok (.ret v), q =>
        obtain ⟨rfl, h3, tk, rfl, hs, kp⟩ := q
        repeat (any_goals (first | assumption | wp_step))
        exact k _ _ hs kp
end
/-- len(set(xs)), xs a list of texts -/
def tLenSetS (K : PySem.W.Frag) (ta : TE) : TE := fun σ H Q => ta σ H fun x H1 => ∃ (l : Addr) (xs : List Str), x = .ref l ∧ SqL K H1 l (xs.map V.str) ∧ xs.length < 4000 ∧ Q (.int (setS xs).length) H1
theorem pe_lenSetS {X : Cx} {a : Expr} {ta : TE} {p p2 q pos : Pos} (hc : X.calm = true) (hg : Gl X "len") (hm : X.mg "len" = none) (hg2 : Gl X "set") (hm2 : X.mg "set" = none) (ha : PE X a ta)
    (na : starEach [a] X.env = (false, eval a X.env) :: starEach [] X.env := by rfl) : PE X (.Call (.Name "len" p) [.Call (.Name "set" p2) [a] [] q] [] pos) (tLenSetS X.K ta) := by
  refine ⟨fun pins s σ H Q I h => Call_ (ld_blt I hg hm boot_len (callWith_builtin1 (args_cons (Call_ (ld_blt I hg2 hm2 boot_set (callWith_type1 (args_cons (thn (ha.run pins s σ H _ I h) fun v s1 z => args_nil ?_) na) na rfl))) rfl) rfl rfl))⟩
  obtain ⟨x, H1, I1, r1, l, xs, rfl, hq, few, q1⟩ := z
  cases r1
  obtain ⟨its, r, pl, hz⟩ := I1.list hq
  refine set_of_texts (I1.ok.hd hc) pl.isList (by simpa using strsAre_of r) few fun h' tk hs hk => args_nil ?_
  obtain ⟨o, es, ep, t, ho, he, hd, _, _, _, hf, hn⟩ := hs
  have I2 : Inv X pins σ H1 { s1 with heap := h', toks := tk } := I1.kept fun b u e => hk b u (Heap.lt_size e) e
  have hle := (setS_len xs).1
  exact call_len_set ho he hd hf (by rw [hn]; omega) ⟨.int (setS xs).length, H1, I2.tok _, ⟨_, by rw [hn]⟩, q1⟩
end Lc
namespace K57
open PySem PySem.Spec PyProof.Rows L2 Lc Evl
section
variable {P : Program} {w : World} {K : PySem.W.Frag} {mg : Str → Option Value} {base : Heap}
/-! ### cards -/
abbrev cC (K : PySem.W.Frag) : Addr := He.ga K "Card"
def wrj (x : Jm) : List Nat := x.1 ++ wsg x.2.2 ++ x.2.1
theorem wsg_len (z : Str) : (wsg z).length = 1 := by
  unfold wsg
  split
  · rfl
  · split <;> rfl
theorem wsg_inj {z z2 : Str} (h : z ∈ wys) (h2 : z2 ∈ wys) (e : wsg z = wsg z2) : z = z2 := by
  simp only [wys, List.mem_cons, List.not_mem_nil, or_false] at h h2
  rcases h with rfl | rfl | rfl <;> rcases h2 with rfl | rfl | rfl <;> first | rfl | exact absurd e (by decide +kernel)
theorem vj_parts {x : Jm} (h : VJ x) : x.2.2 ∈ wys ∧ x.1.length = x.2.1.length ∧ (x.1.length = 3 ∨ x.1.length = 4) := by
  obtain ⟨h1, h2, h3, _⟩ := isJ_iff.mp h
  exact ⟨h1, h3, h2⟩
theorem wrj_len {x : Jm} (h : VJ x) : (wrj x).length = 2 * x.1.length + 1 := by
  obtain ⟨_, h2, _⟩ := vj_parts h
  unfold wrj
  rw [List.length_append, List.length_append, wsg_len]
  omega
theorem wrj_le {x : Jm} (h : VJ x) : (wrj x).length ≤ 9 := by
  have := wrj_len h
  obtain ⟨_, _, h3⟩ := vj_parts h
  omega
theorem wrj_inj {x y : Jm} (hx : VJ x) (hy : VJ y) (e : wrj x = wrj y) : x = y := by
  have l := congrArg List.length e
  rw [wrj_len hx, wrj_len hy] at l
  obtain ⟨b, a, z⟩ := x
  obtain ⟨b2, a2, z2⟩ := y
  obtain ⟨w1, l1, _⟩ := vj_parts hx
  obtain ⟨w2, l2, _⟩ := vj_parts hy
  unfold wrj at e
  dsimp only at e l l1 l2 w1 w2
  rw [List.append_assoc, List.append_assoc] at e
  obtain ⟨e1, e2⟩ := List.append_inj e (by omega)
  obtain ⟨e3, e4⟩ := List.append_inj e2 (by rw [wsg_len, wsg_len])
  rw [e1, e4, wsg_inj w1 w2 e3]
theorem nodup_wr {L : List (Addr × Jm)} (h : ∀ q ∈ L, VJ q.2) : (L.map fun q => S (wrj q.2)).Nodup ↔ (L.map (·.2)).Nodup := by
  unfold List.Nodup
  rw [List.pairwise_map, List.pairwise_map]
  exact List.Pairwise.iff_of_mem fun {a b} ha hb => ⟨fun q z => q (by rw [z]), fun q z => q (wrj_inj (h a ha) (h b hb) (S_inj z))⟩
def IsC (K : PySem.W.Frag) (H : Hp) (c : Addr) (ps : List Int) (G : List Jm) : Prop := ∃ (dx wa ja pa : Addr) (L : List (Addr × Jm)) (M : List (Addr × Pr2)), H c = some (.ins (cC K) dx [("worths", .ref wa), ("jumps", .ref ja), ("pairs", .ref pa)]) ∧ H wa = some (.tup (ps.map V.int)) ∧ (H ja = some (.tup (L.map fun q => V.ref q.1)) ∧ ∀ q ∈ L, TI K H q) ∧ L.map (·.2) = G ∧ H pa = some (.tup (M.map fun q => V.ref q.1)) ∧ (∀ q ∈ M, TP H q) ∧ M.map (·.2) = pairsV G ∧ M.length ≤ 100
theorem IsC.ex {H H' : Hp} {c : Addr} {ps : List Int} {G : List Jm} (h : IsC K H c ps G) (e : Ex H H') : IsC K H' c ps G := by
  obtain ⟨dx, wa, ja, pa, L, M, h1, h2, h3, h4, h5, h6, h7⟩ := h
  exact ⟨dx, wa, ja, pa, L, M, e _ _ h1, e _ _ h2, ⟨e _ _ h3.1, fun q hq => (h3.2 q hq).ex e⟩, h4, e _ _ h5, fun q hq => (h6 q hq).n (ExN.of e), h7⟩
theorem rd_exB {c : Addr} {H H' : Hp} {p C dx : Addr} {fs : List (Str × V)} {u : HO} (hc : H c = some (.ins C dx fs)) (hu : ∀ a b f, u ≠ .ins a b f) (e : ExB c H H') (h : Rd H p u) : Rd H' p u := by
  rcases h with h | ⟨o, h⟩
  · exact .inl (e p _ (fun z => by rw [z, hc] at h; exact hu _ _ _ (Option.some.inj h).symm) h)
  · exact .inr ⟨o, e p _ (fun z => by rw [z, hc] at h; cases h) h⟩
theorem sq_exB {t : Bool} {c : Addr} {H H' : Hp} {p C dx : Addr} {fs : List (Str × V)} {xs : List V} (hc : H c = some (.ins C dx fs)) (e : ExB c H H') (h : Sq K t H p xs) : Sq K t H' p xs := by
  cases t with
  | false => exact h.elim (fun h => .inl (rd_exB hc (fun _ _ _ z => by cases z) e h)) .inr
  | true => exact h.elim (fun h => .inl (rd_exB hc (fun _ _ _ z => by cases z) e h)) .inr
theorem jms_exB {t : Bool} {c : Addr} {H H' : Hp} {p dx : Addr} {L : List (Addr × Jm)} (hc : H c = some (.ins (cC K) dx [])) (e : ExB c H H') (h : Jms K t H p L) : Jms K t H' p L := ⟨sq_exB hc e h.1, fun q hq => by
  obtain ⟨⟨d2, h1⟩, h2⟩ := h.2 q hq
  exact ⟨⟨d2, e _ _ (fun z => by
    rw [z, hc] at h1
    have h3 := Option.some.inj h1
    injection h3 with _ _ h4
    unfold JF at h4
    cases h4) h1⟩, h2⟩⟩
def cT (t : Bool) (xs : List V) : HO := if t then .tup xs else .lst xs
theorem sq_cT {t : Bool} {H : Hp} {p : Addr} {xs : List V} (h : H p = some (cT t xs)) : Sq K t H p xs := by
  cases t with
  | false => exact sq_of h
  | true => exact st_of h
theorem tup_of {σ : L2.St} {H : Hp} {i : Nat} {t : Bool} {p : Addr} {ys : List V} {Q : VK} (hv : σ[i]? = some (some (.ref p))) (hs : H p = some (cT t ys)) (k : ∀ w H', Ex H H' → H' w = some (.tup ys) → Q (.ref w) H') : tCB (rTupOf K) (tCons (tVar i) tNil) σ H Q :=
  ⟨_, hv, p, ys, rfl, by
    cases t with
    | false => exact .inl ⟨sq_of hs, fun l hl => k l _ (Ex.new hl) upd_same⟩
    | true => exact .inr ⟨st_of hs, k p H (Ex.refl H) hs⟩⟩
theorem ev_strJ {σ : L2.St} {H : Hp} {te : TE} {q : Addr × Jm} (h : Ev te σ H (.ref q.1)) (hq : TI K H q) : Ev (tCB (rStrOwn (cU K) (sp_Jump_str K) E0) (tCons te tNil)) σ H (.str (S (wrj q.2))) := ev_cb (ea_cons h ea_nil) fun H1 e Q k => by
  obtain ⟨hj, hv⟩ := hq.ex e
  have hj2 := hj
  obtain ⟨dx, hj2⟩ := hj2
  obtain ⟨lb, la⟩ := isJ_len hv
  exact ⟨q.1, dx, _, rfl, hj2, q.1, _, _, _, rfl, hj, by omega, by omega, (vj_parts hv).1, fun H2 e2 => ⟨_, rfl, k H2 e2⟩⟩
section
variable {α : Type} {σ : L2.St} {H : Hp} {tl te : TE} {vs : List Nat} {j : Nat}
theorem range_map (L : List α) (f : α → V) : (List.range L.length).map (fun i => (L.map f).getD i V.non) = L.map f := by
  apply List.ext_getElem
  · simp
  · intro i h1 h2
    simp at h1
    simp [h1]
theorem el_mapSq {t : Bool} {a : Addr} (L : List (Addr × α)) (f : α → V) (h : Ev tl σ H (.ref a)) (hx : Sq K t H a (L.map fun q => V.ref q.1)) (hz : L.length ≤ 40000) (hw : ∀ x, wipe ((wipe σ vs).set j (some x)) vs = wipe σ vs)
    (he : ∀ q H1, q ∈ L → Ex H H1 → Ev te ((wipe σ vs).set j (some (.ref q.1))) H1 (f q.2)) : EvL (tLc (iSeq K tl) (gName j) tYes te vs) σ H (L.map fun q => f q.2) := by
  have h2 := el_lcSq (K := K) (σ := σ) (H := H) (te := te) (j := j) (vs := vs) (t := tYes) (fun _ => true) (fun i => (L.map fun q => f q.2).getD i V.non) h hx.any (by rw [List.length_map]; exact hz) hw (fun i x H1 _ _ => et_yes) (fun i x H1 e hi _ => by
    obtain ⟨q, hq1, hq2, rfl⟩ := ref_at hi
    rw [List.getD_eq_getElem?_getD, List.getElem?_map, hq1]
    exact he q H1 hq2 e)
  rw [given_all, List.length_map, range_map] at h2
  exact h2
theorem el_mapT {a : Addr} (L : List (Addr × α)) (f : α → V) (h : Ev tl σ H (.ref a)) (hx : SqT K H a (L.map fun q => V.ref q.1)) (hz : L.length ≤ 40000) (hw : ∀ x, wipe ((wipe σ vs).set j (some x)) vs = wipe σ vs)
    (he : ∀ q H1, q ∈ L → Ex H H1 → Ev te ((wipe σ vs).set j (some (.ref q.1))) H1 (f q.2)) : EvL (tLc (iTup K tl) (gName j) tYes te vs) σ H (L.map fun q => f q.2) := by
  have h2 := el_lcT (K := K) (σ := σ) (H := H) (te := te) (j := j) (vs := vs) (t := tYes) (fun _ => true) (fun i => (L.map fun q => f q.2).getD i V.non) h hx (by rw [List.length_map]; exact hz) hw (fun i x H1 _ _ => et_yes) (fun i x H1 e hi _ => by
    obtain ⟨q, hq1, hq2, rfl⟩ := ref_at hi
    rw [List.getD_eq_getElem?_getD, List.getElem?_map, hq1]
    exact he q H1 hq2 e)
  rw [given_all, List.length_map, range_map] at h2
  exact h2
theorem el_mapL {a : Addr} (L : List (Addr × α)) (f : α → V) (h : Ev tl σ H (.ref a)) (hx : SqL K H a (L.map fun q => V.ref q.1)) (hz : L.length ≤ 40000) (hw : ∀ x, wipe ((wipe σ vs).set j (some x)) vs = wipe σ vs)
    (he : ∀ q H1, q ∈ L → Ex H H1 → Ev te ((wipe σ vs).set j (some (.ref q.1))) H1 (f q.2)) : EvL (tLc (iList K tl) (gName j) tYes te vs) σ H (L.map fun q => f q.2) := by
  have h2 := el_lcL (K := K) (σ := σ) (H := H) (te := te) (j := j) (vs := vs) (t := tYes) (fun _ => true) (fun i => (L.map fun q => f q.2).getD i V.non) h hx (by rw [List.length_map]; exact hz) hw (fun i x H1 _ _ => et_yes) (fun i x H1 e hi _ => by
    obtain ⟨q, hq1, hq2, rfl⟩ := ref_at hi
    rw [List.getD_eq_getElem?_getD, List.getElem?_map, hq1]
    exact he q H1 hq2 e)
  rw [given_all, List.length_map, range_map] at h2
  exact h2
end
theorem ev_cval {σ : L2.St} {H : Hp} (T : Tx K mg w) : Ev (ClX.tCVal K (tC (.ref (cC K))) "MOST_JUMPS") σ H (.int 12) := fun H1 e Q q => by
  obtain ⟨u, hu⟩ := cv_MOST T
  exact ⟨_, _, _, u, rfl, cr_Card T, hu, q H1 (Ex.refl H1)⟩
theorem ev_lenSetS {σ : L2.St} {H : Hp} {te : TE} {l : Addr} {xs : List Str} (h : Ev te σ H (.ref l)) (hl : SqL K H l (xs.map V.str)) (hz : xs.length < 4000) : Ev (tLenSetS K te) σ H (.int (setS xs).length) := fun H1 e Q q =>
  h H1 e _ fun H2 e2 => ⟨l, xs, rfl, ex_l (e.trans e2) hl, hz, q H2 e2⟩
def sp_Card_init (K : PySem.W.Frag) : Sp := fun vs H Q E => ∃ (c dx p r : Addr) (t t2 : Bool) (ps : List Int) (L : List (Addr × Jm)), vs = [.ref c, .ref p, .ref r] ∧ H c = some (.ins (cC K) dx []) ∧ H p = some (cT t (ps.map V.int)) ∧ (H r = some (cT t2 (L.map fun q => V.ref q.1)) ∧ ∀ q ∈ L, TI K H q) ∧ ps.length ≤ 1000 ∧ L.length ≤ 1000 ∧
  (wrg ps (L.map (·.2)) = "" → ∀ H', ExB c H H' → IsC K H' c ps (L.map (·.2)) → Q .non H') ∧ (wrg ps (L.map (·.2)) ≠ "" → BadC K "InvalidCard" "part" H E (.str (wrg ps (L.map (·.2)))))
theorem w_ne : ("worths" : Str) ≠ "" := by decide +kernel
theorem j_ne : ("jumps" : Str) ≠ "" := by decide +kernel
theorem ok_Card_init (T : Tx K mg w) : OkD P w K mg base 7 d_Card_init ps_Card_init (sp_Card_init K) := by
  refine (h_Card_init T).ok sc_Card_init (fun vs H Q E h => ?_) (fun cdv A outer s H vs Q E hr h => ⟨_,
      (pss_cons (ps_if (pt_not (pt_val (pe_call (ok_are_worths (P := P) (w := w) (base := base) T) (hr.mono (by decide)) (by rfl) (m_are_worths T) (k_are_worths T) (b_are_worths T) .nil passN (pa_cons (pv 1) pa_nil)))) (pss_one (L2N.ps_raise rfl (L2N.takes_of rfl rfl rfl rfl) (pmkN_oex (x_InvalidCard T).oex (x_InvalidCard T).iC (x_InvalidCard T).tI (ok_InvalidCard_init (P := P) (w := w) (base := base) T) (hr.mono (by decide)) (b_InvalidCard_init T) .nil passN (by rfl) (m_InvalidCard T) (pa_cons pe_str pa_nil)))) pss_nil)
      (pss_cons (ps_setLc (i := 3) (own := [("jump", 4)]) (g := gName 4) rfl sc_Card_init.nd rfl rfl (sw_true rfl rfl rfl (by decide +kernel)) (pi_seq (pv 2)) (blkOk_by (own := [("jump", 4)]) (N := ns_Card_init) (sc := (defScope st_Card_init)) (by decide +kernel)) (fun _ _ _ _ _ => pg_name (i := 4) sc_Card_init.nd rfl (Or.inl rfl)) (fun _ _ _ _ _ => pts_nil) (fun _ _ _ _ _ => (pe_callTy (call_strOwn (ok_Jump_str (P := P) (w := w) (base := base) T) (hr.mono (by decide)) (me_Jump_str T).at_ (me_Jump_str T).fn (b_Jump_str T) passN) (by rfl) (m_str T) (by decide +kernel) (pa_cons (pv 4) pa_nil))))
      (pss_cons (ps_if (PW.pt (pw_or (pt_cmpR op_gt (pe_callB call_len (by rfl) (m_len T) (by decide +kernel) (pa_cons (pv 3) pa_nil)) (ClX.pe_cval (pe_glob (v := .ref (He.ga K "Card")) rfl (m_Card T) rfl)) (nomark _)) (pw_or1 (pt_cmpR op_lt (pe_lenSetS rfl (by rfl) (m_len T) (by rfl) (m_set T) (pv 3)) (pe_callB call_len (by rfl) (m_len T) (by decide +kernel) (pa_cons (pv 3) pa_nil)) (nomark _))))) (pss_one (L2N.ps_raise rfl (L2N.takes_of rfl rfl rfl rfl) (pmkN_oex (x_InvalidCard T).oex (x_InvalidCard T).iC (x_InvalidCard T).tI (ok_InvalidCard_init (P := P) (w := w) (base := base) T) (hr.mono (by decide)) (b_InvalidCard_init T) .nil passN (by rfl) (m_InvalidCard T) (pa_cons pe_str pa_nil)))) pss_nil)
      (pss_cons (ps_if (pt_not (pt_val (pe_callB (cr_all rfl) (by rfl) (m_all T) (by decide +kernel) (pa_cons (pe_lc (own := [("jump", 4)]) (g := gName 4) rfl sc_Card_init.nd (pi_seq (pv 2)) (blkOk_by (own := [("jump", 4)]) (N := ns_Card_init) (sc := (defScope st_Card_init)) (by decide +kernel)) (fun _ _ _ _ _ => pg_name (i := 4) sc_Card_init.nd rfl (Or.inl rfl)) (fun _ _ _ _ _ => pts_nil) (fun _ _ _ _ _ => (pe_call (ok_fits_worths (P := P) (w := w) (base := base) T) (hr.mono (by decide)) (by rfl) (m_fits_worths T) (k_fits_worths T) (b_fits_worths T) .nil passN (pa_cons (pv 4) (pa_cons (pv 1) pa_nil))))) pa_nil)))) (pss_one (L2N.ps_raise rfl (L2N.takes_of rfl rfl rfl rfl) (pmkN_oex (x_InvalidCard T).oex (x_InvalidCard T).iC (x_InvalidCard T).tI (ok_InvalidCard_init (P := P) (w := w) (base := base) T) (hr.mono (by decide)) (b_InvalidCard_init T) .nil passN (by rfl) (m_InvalidCard T) (pa_cons pe_str pa_nil)))) pss_nil)
      (pss_cons (ps_fld (pv 0) (pe_callTy (show CallR _ (.type "tuple") (rTupOf K) from call_tuple_of) (by rfl) (m_tuple T) (by decide +kernel) (pa_cons (pv 1) pa_nil)) rfl)
      (pss_cons (ps_fld (pv 0) (pe_callTy (show CallR _ (.type "tuple") (rTupOf K) from call_tuple_of) (by rfl) (m_tuple T) (by decide +kernel) (pa_cons (pv 2) pa_nil)) rfl)
      (pss_one (ps_fld (pv 0) (pe_call (ok_pairs_of (P := P) (w := w) (base := base) T) (hr.mono (by decide)) (by rfl) (m_pairs_of T) (k_pairs_of T) (b_pairs_of T) .nil passN (pa_cons (pv 2) pa_nil)) rfl)))))))), ?_⟩)
  · obtain ⟨c, dx, p, r, t, t2, ps, L, rfl, _⟩ := h
    rfl
  · obtain ⟨c, dx, p, r, t, t2, ps, L, rfl, hc, hs0, hj0, hpl, hll, q1, q2⟩ := h
    have hs : Sq K t H p (ps.map V.int) := sq_cT hs0
    have hj : Jms K t2 H r L := ⟨sq_cT hj0.1, hj0.2⟩
    have vl : ∀ q ∈ L, VJ q.2 := fun q hq => (hj.2 q hq).2
    -- the worths
    refine q_when (b := !decide (OkP ps)) (et_not (et_B (ev_call (ea_cons (ev_var rfl) ea_nil) fun H1 e1 Q q E => ⟨p, t, ps, rfl, hs.ex e1, hpl, fun v H' hv e => by
      have ev : v = decide (OkP ps) := by
        rw [Bool.eq_iff_iff, decide_eq_true_eq]
        exact hv
      rw [ev]
      exact q H' e⟩))) (fun hb H1 e1 => ?_) (fun hb H1 e1 => ?_)
    · have hn := of_decide_eq_false (not_t hb)
      have e0 := wrg_p (G := L.map (·.2)) hn
      have q3 := q2 (by rw [e0]; exact w_ne)
      rw [e0] at q3
      exact ⟨by simp, fun a ha => ⟨a, _, rfl, ks_worths, mk_go (q3.ex e1) ha⟩⟩
    have okp := of_decide_eq_true (not_f hb)
    have j1 := hj.ex e1
    -- the texts
    refine q_asgL (xs := (L.map fun q => S (wrj q.2)).map V.str) ?_ fun tx H2 htx e2 h2 => ?_
    · rw [List.map_map]
      exact el_mapSq L (fun x => V.str (S (wrj x))) (ev_var rfl) j1.1 (by omega) (fun x => rfl) fun q H3 hq e3 => ev_strJ (ev_var rfl) ((j1.2 q hq).ex e3)
    have bad : ¬ OkG ps (L.map (·.2)) → BadC K "InvalidCard" "part" H E (.str "jumps") := fun hn => by
      have e0 := wrg_g okp hn
      have q3 := q2 (by rw [e0]; exact j_ne)
      rw [e0] at q3
      exact q3
    have l2 := rc_lenL (K := K) (sq_of (K := K) h2)
    rw [List.length_map, List.length_map] at l2
    have hsl := setS_len (L.map fun q => S (wrj q.2))
    rw [nodup_wr vl, List.length_map] at hsl
    have lens : Ev (tLenSetS K (tVar 3)) [some (.ref c), some (.ref p), some (.ref r), some (.ref tx), none] H2 (.int (setS (L.map fun q => S (wrj q.2))).length) := ev_lenSetS (ev_var rfl) (sq_of h2) (by rw [List.length_map]; omega)
    refine q_when (b := (decide ((L.length : Int) > 12) || decide (((setS (L.map fun q => S (wrj q.2))).length : Int) < (L.length : Int)))) (et_or (et_test (ev_op (ev_cb (ea_cons (ev_var rfl) ea_nil) l2) (ev_cval T) rv_I0)) fun _ => et_test (ev_op lens (ev_cb (ea_cons (ev_var rfl) ea_nil) l2) rv_I0)) (fun hb H3 e3 => ?_) (fun hb H3 e3 => ?_)
    · have hn : ¬ OkG ps (L.map (·.2)) := fun h => by
        obtain ⟨h1, h2, _⟩ := h
        rw [List.length_map] at h1
        have h3 := hsl.2.mpr h2
        simp only [Bool.or_eq_true, decide_eq_true_eq] at hb
        omega
      exact ⟨by simp, fun a ha => ⟨a, _, rfl, ks_jumps, mk_go ((bad hn).ex ((e1.trans e2).trans e3)) ha⟩⟩
    simp only [Bool.or_eq_false_iff, decide_eq_false_iff_not] at hb
    have hnd : (L.map (·.2)).Nodup := hsl.2.mp (by omega)
    have hl12 : L.length ≤ 12 := by omega
    have e13 := (e1.trans e2).trans e3
    have j3 := hj.ex e13
    have s3 := hs.ex e13
    -- do they fit
    refine q_when (b := !((L.map fun q => decide (Fits ps.length ps q.2)).all id)) (et_not (et_B (ev_all ?_))) (fun hb H4 e4 => ?_) (fun hb H4 e4 => ?_)
    · rw [List.map_map]
      refine el_mapSq L (fun x => V.bl (decide (Fits ps.length ps x))) (ev_var rfl) j3.1 (by omega) (fun x => rfl) fun q H5 hq e5 => ?_
      refine ev_call (ea_cons (ev_var rfl) (ea_cons (ev_var rfl) ea_nil)) fun H6 e6 Q q3 E => ⟨q, p, t, ps, rfl, (j3.2 q hq).ex (e5.trans e6), s3.ex (e5.trans e6), okp.1, okp.2.1, fun v H' hv e => ?_⟩
      have ev : v = decide (Fits ps.length ps q.2) := by
        rw [Bool.eq_iff_iff, decide_eq_true_eq]
        exact hv
      rw [ev]
      exact q3 H' e
    · have hn : ¬ OkG ps (L.map (·.2)) := fun h => by
        have h3 := h.2.2
        have h4 := not_t hb
        rw [List.all_map, List.all_eq_false] at h4
        obtain ⟨q, hq, hf⟩ := h4
        exact hf (decide_eq_true (h3 q.2 (List.mem_map.mpr ⟨q, hq, rfl⟩)))
      exact ⟨by simp, fun a ha => ⟨a, _, rfl, ks_jumps, mk_go ((bad hn).ex (e13.trans e4)) ha⟩⟩
    have hok : OkG ps (L.map (·.2)) := ⟨by rw [List.length_map]; exact hl12, hnd, fun x hx => by
      obtain ⟨q, hq, rfl⟩ := List.mem_map.mp hx
      have h4 := not_f hb
      rw [List.all_map, List.all_eq_true] at h4
      exact of_decide_eq_true (h4 q hq)⟩
    have e14 := e13.trans e4
    have c4 := e14 _ _ hc
    -- what the card keeps
    refine tup_of (t := t) rfl (e14 _ _ hs0) fun wa H5 e5 h5 => ?_
    have c5 := e5 _ _ c4
    refine ⟨_, rfl, c, cC K, dx, [], rfl, c5, c_Card T, n_Card_worths T, by decide, ?_⟩
    have x6 : ExB c H5 (upd H5 c (.ins (cC K) dx (putF "worths" (.ref wa) []))) := ExB.upd
    have c6 : upd H5 c (.ins (cC K) dx (putF "worths" (.ref wa) [])) c = some (.ins (cC K) dx [("worths", .ref wa)]) := upd_same
    generalize upd H5 c (.ins (cC K) dx (putF "worths" (.ref wa) [])) = H6 at x6 c6
    have ne5 : ∀ (a : Addr) (xs : List V) (b : Bool), H5 a = some (cT b xs) → a ≠ c := fun a xs b ha z => by
      rw [z, c5] at ha
      cases b <;> cases ha
    have w6 := x6 _ _ (ne5 wa _ true h5) h5
    have r6 : H6 r = some (cT t2 (L.map fun q => V.ref q.1)) := x6 _ _ (ne5 r _ t2 ((e14.trans e5) _ _ hj0.1)) ((e14.trans e5) _ _ hj0.1)
    have j5 := hj.ex (e14.trans e5)
    have j6 : Jms K t2 H6 r L := jms_exB c5 x6 j5
    refine tup_of (t := t2) rfl r6 fun ja H7 e7 h7 => ?_
    have c7 := e7 _ _ c6
    refine ⟨_, rfl, c, cC K, dx, _, rfl, c7, c_Card T, n_Card_jumps T, by simp, ?_⟩
    have x8 : ExB c H7 (upd H7 c (.ins (cC K) dx (putF "jumps" (.ref ja) [("worths", .ref wa)]))) := ExB.upd
    have c8 : upd H7 c (.ins (cC K) dx (putF "jumps" (.ref ja) [("worths", .ref wa)])) c = some (.ins (cC K) dx [("worths", .ref wa), ("jumps", .ref ja)]) := upd_same
    generalize upd H7 c (.ins (cC K) dx (putF "jumps" (.ref ja) [("worths", .ref wa)])) = H8 at x8 c8
    have x58 : ExB c H5 H8 := (x6.trans (ExB.of e7)).trans x8
    have ne7 : ∀ (a : Addr) (xs : List V), H7 a = some (.tup xs) → a ≠ c := fun a xs ha z => by rw [z, c7] at ha; cases ha
    have w8 := x8 _ _ (ne7 _ _ (e7 _ _ w6)) (e7 _ _ w6)
    have ja8 := x8 _ _ (ne7 _ _ h7) h7
    have j8 : Jms K t2 H8 r L := jms_exB c5 x58 j5
    refine ⟨_, rfl, r, t2, L, rfl, j8, by omega, fun pa M H9 hpa e9 h9 hM hm9 hz9 => ?_⟩
    have c9 := e9 _ _ c8
    refine ⟨_, rfl, c, cC K, dx, _, rfl, c9, c_Card T, n_Card_pairs T, by simp, ?_⟩
    have xA : ExB c H9 (upd H9 c (.ins (cC K) dx (putF "pairs" (.ref pa) [("worths", .ref wa), ("jumps", .ref ja)]))) := ExB.upd
    have cA : upd H9 c (.ins (cC K) dx (putF "pairs" (.ref pa) [("worths", .ref wa), ("jumps", .ref ja)])) c = some (.ins (cC K) dx [("worths", .ref wa), ("jumps", .ref ja), ("pairs", .ref pa)]) := upd_same
    generalize upd H9 c (.ins (cC K) dx (putF "pairs" (.ref pa) [("worths", .ref wa), ("jumps", .ref ja)])) = HA at xA cA
    have x5A : ExB c H5 HA := (x58.trans (ExB.of e9)).trans xA
    have jA : Jms K t2 HA r L := jms_exB c5 x5A j5
    have ne9 : ∀ (a : Addr) (xs : List V), H9 a = some (.tup xs) → a ≠ c := fun a xs ha z => by rw [z, c9] at ha; cases ha
    refine q1 (wrg_o okp hok) HA ((ExB.of (e14.trans e5)).trans x5A) ⟨dx, wa, ja, pa, L, M, cA, xA _ _ (ne9 _ _ (e9 _ _ w8)) (e9 _ _ w8), ⟨xA _ _ (ne9 _ _ (e9 _ _ ja8)) (e9 _ _ ja8), jA.2⟩, rfl, xA _ _ (ne9 _ _ h9) h9, fun q hq => ?_, hm9, hz9⟩
    obtain ⟨g1, g2⟩ := hM q hq
    exact ⟨xA _ _ (ne9 _ _ g1) g1, g2⟩
end
end K57
namespace Lc
open PySem PySem.Spec PyProof.Rows L2 Evl
/-! ### numbers as texts -/
def dec (i : Int) : List Nat := (Str.ofString (toString i)).cps.toList
theorem S_dec (i : Int) : S (dec i) = Str.ofString (toString i) := S_tl _
theorem dec_nat (m : Nat) : dec (m : Int) = (Nat.toDigits 10 m).map Char.toNat := PySem.W.KIN.signs_num m
theorem dec_sign {i : Int} {c : Nat} (h : c ∈ dec i) : c = 45 ∨ (48 ≤ c ∧ c ≤ 57) := by
  by_cases h1 : c = 45
  · exact .inl h1
  · by_cases h2 : 48 ≤ c ∧ c ≤ 57
    · exact .inr h2
    · exact absurd h (int_text_free' c ⟨h1, by omega⟩ i)
theorem dec_val (m : Nat) : NumText.digitsVal (dec (m : Int)) = m := by
  rw [dec_nat]
  exact PySem.W.KIN.val_back m
theorem dec_free (i : Int) : (∀ c ∈ dec i, c < 128) ∧ 32 ∉ dec i ∧ 58 ∉ dec i := by
  refine ⟨fun c hc => ?_, fun hc => ?_, fun hc => ?_⟩
  · have := dec_sign hc
    omega
  · have := dec_sign hc
    omega
  · have := dec_sign hc
    omega
theorem dec_len {m k : Nat} (hk : 1 ≤ k) (h : m < 10 ^ k) : (dec (m : Int)).length ≤ k := by
  rw [dec_nat, List.length_map, ← Nat.toList_repr]
  exact Flt.repr_len hk h
theorem dec_num (m : Nat) : dec (m : Int) = TL.numL m := TL.tl_num m
theorem dec_digits (m : Nat) : NumText.AllDigits (dec (m : Int)) := by
  rw [dec_num]
  exact TL.numL_digits m
theorem num_head : ∀ m : Nat, 1 ≤ m → ∃ c r, TL.numL m = c :: r ∧ 49 ≤ c := by
  intro m
  induction m using Nat.strongRecOn with
  | _ m ih =>
    intro h
    by_cases hm : m < 10
    · exact ⟨48 + m, [], TL.numL_lt hm, by omega⟩
    · obtain ⟨c, r, e, hc⟩ := ih (m / 10) (by omega) (by omega)
      exact ⟨c, r ++ [48 + m % 10], by rw [TL.numL_step (by omega), e]; rfl, hc⟩
theorem dec_le {n : Int} (h1 : -2 ≤ n) (h2 : n ≤ 3000000) : (dec n).length ≤ 10 := by
  by_cases h0 : 0 ≤ n
  · obtain ⟨m, rfl⟩ : ∃ m : Nat, n = (m : Int) := ⟨n.toNat, by omega⟩
    exact dec_len (k := 10) (by decide) (Nat.lt_of_le_of_lt (show m ≤ 3000000 by omega) (by decide))
  · have h3 : n = -1 ∨ n = -2 := by omega
    rcases h3 with rfl | rfl <;> decide +kernel
/-! ### digits read back -/
def DgT (l : List Nat) : Prop := 1 ≤ l.length ∧ l.length ≤ 4 ∧ l.getD 0 0 ≠ 48 ∧ ∀ c ∈ l, 48 ≤ c ∧ c ≤ 57
instance (l : List Nat) : Decidable (DgT l) := by
  unfold DgT
  infer_instance
def valT (l : List Nat) : Int := (NumText.digitsVal l : Nat)
theorem dg_back {l : List Nat} (h : DgT l) : dec (valT l) = l := by
  obtain ⟨h1, h4, h0, hd⟩ := h
  unfold valT
  rw [dec_nat]
  obtain ⟨c, r, rfl⟩ : ∃ c r, l = c :: r := by
    cases l with
    | nil => simp at h1
    | cons c r => exact ⟨c, r, rfl⟩
  have hc : 49 ≤ c := by
    have h2 := hd c (List.mem_cons_self ..)
    have h3 : c ≠ 48 := h0
    omega
  rw [NumText.toDigits_digitsVal r.length (c :: r) rfl hd (.inr ⟨c, r, rfl, hc⟩), List.map_map]
  have : (c :: r).map (Char.toNat ∘ Char.ofNat) = (c :: r).map id := List.map_congr_left fun x hx => by
    have h2 := hd x hx
    have h10 : x = 48 ∨ x = 49 ∨ x = 50 ∨ x = 51 ∨ x = 52 ∨ x = 53 ∨ x = 54 ∨ x = 55 ∨ x = 56 ∨ x = 57 := by omega
    rcases h10 with rfl | rfl | rfl | rfl | rfl | rfl | rfl | rfl | rfl | rfl <;> rfl
  rw [this, List.map_id]
theorem dg_range {l : List Nat} (h : DgT l) : 1 ≤ valT l ∧ valT l ≤ 9999 := by
  obtain ⟨h1, h4, h0, hd⟩ := h
  unfold valT NumText.digitsVal
  match l, h1, h4, h0, hd with
  | [a], _, _, h0, hd =>
    have := hd a (by simp)
    simp at h0 ⊢
    omega
  | [a, b], _, _, h0, hd =>
    have := hd a (by simp)
    have := hd b (by simp)
    simp at h0 ⊢
    omega
  | [a, b, c], _, _, h0, hd =>
    have := hd a (by simp)
    have := hd b (by simp)
    have := hd c (by simp)
    simp at h0 ⊢
    omega
  | [a, b, c, d], _, _, h0, hd =>
    have := hd a (by simp)
    have := hd b (by simp)
    have := hd c (by simp)
    have := hd d (by simp)
    simp at h0 ⊢
    omega
theorem dg_of {n : Int} (h1 : 1 ≤ n) (h2 : n ≤ 9999) : DgT (dec n) ∧ valT (dec n) = n := by
  obtain ⟨m, rfl⟩ : ∃ m : Nat, n = (m : Int) := ⟨n.toNat, by omega⟩
  obtain ⟨c, r, e, hc⟩ := num_head m (by omega)
  have hl := dec_len (m := m) (k := 4) (by decide) (by omega)
  refine ⟨⟨?_, hl, ?_, dec_digits m⟩, ?_⟩
  · rw [dec_num, e]
    simp
  · rw [dec_num, e]
    show c ≠ 48
    omega
  · unfold valT
    rw [dec_val]
/-! ### int of digits -/
theorem ev_intT {σ : L2.St} {H : Hp} {te : TE} {l : List Nat} (h : Ev te σ H (.str (S l))) (hd : DgT l) : Ev (tCB (fun xs H Q => ∃ a n, xs = [.str a] ∧ PySem.intText? a = some n ∧ a.length ≤ 640 ∧ Q (.int n) H) (tCons te tNil)) σ H (.int (valT l)) := fun H1 e Q q =>
  h H1 e _ fun H2 e2 => ⟨S l, valT l, rfl, by
    have h3 : l ≠ [] := fun z => by
      have := hd.1
      rw [z] at this
      simp at this
    exact intText_digits (x := S l) hd.2.2.2 h3 (by rw [S_len]; have := hd.2.1; omega), by rw [S_len]; have := hd.2.1; omega, q H2 e2⟩
/-! ### words between blanks -/
def spw : List Nat → List (List Nat)
  | [] => [[]]
  | c :: r => if c = 32 then [] :: spw r else match spw r with
    | [] => [[c]]
    | w :: ws => (c :: w) :: ws
theorem spw_ne (l : List Nat) : spw l ≠ [] := by
  cases l with
  | nil => simp [spw]
  | cons c r =>
    unfold spw
    split
    · simp
    · split <;> simp
theorem spw_cons {c : Nat} {r w : List Nat} {ws : List (List Nat)} (hc : c ≠ 32) (h : spw r = w :: ws) : spw (c :: r) = (c :: w) :: ws := by
  show (if c = 32 then [] :: spw r else match spw r with
    | [] => [[c]]
    | w :: ws => (c :: w) :: ws) = _
  rw [if_neg hc, h]
theorem spw_32 (r : List Nat) : spw (32 :: r) = [] :: spw r := if_pos rfl
theorem spl_spw : ∀ (l acc : List Nat) (w : List Nat) (ws : List (List Nat)), spw l = w :: ws → TL.spl [32] 0 acc l = (acc ++ w) :: ws
  | [], acc, w, ws, h => by
    cases h
    rw [TL.spl_nil, List.append_nil]
  | c :: r, acc, w, ws, h => by
    obtain ⟨v, vs, hv⟩ : ∃ v vs, spw r = v :: vs := by
      cases hr : spw r with
      | nil => exact absurd hr (spw_ne r)
      | cons v vs => exact ⟨v, vs, rfl⟩
    by_cases hc : c = 32
    · subst hc
      rw [spw_32] at h
      obtain ⟨h1, h2⟩ := List.cons.inj h
      rw [TL.spl_hit (by rfl), ← h1, ← h2, List.append_nil]
      show acc :: TL.spl [32] 0 [] r = _
      rw [spl_spw r [] v vs hv, hv]
      rfl
    · rw [spw_cons hc hv] at h
      obtain ⟨h1, h2⟩ := List.cons.inj h
      rw [TL.spl_miss (by simp [TL.pre, hc, Ne.symm hc]), spl_spw r (acc ++ [c]) v vs hv, List.append_assoc, ← h1, ← h2]
      rfl
theorem split_spw (l : List Nat) : Txt.split (S l) (S [32]) = (spw l).map S := by
  have h := SX.split_S (a := l) (b := [32]) (by simp) (by decide)
  obtain ⟨v, vs, hv⟩ : ∃ v vs, spw l = v :: vs := by
    cases hr : spw l with
    | nil => exact absurd hr (spw_ne l)
    | cons v vs => exact ⟨v, vs, rfl⟩
  rw [spl_spw l [] v vs hv] at h
  rw [hv]
  exact h
def jw : List (List Nat) → List Nat
  | [] => []
  | [w] => w
  | w :: v :: r => w ++ 32 :: jw (v :: r)
theorem jw_cons (w : List Nat) {ws : List (List Nat)} (h : ws ≠ []) : jw (w :: ws) = w ++ 32 :: jw ws := by
  cases ws with
  | nil => exact absurd rfl h
  | cons v r => rfl
theorem jw_spw : ∀ l : List Nat, jw (spw l) = l
  | [] => rfl
  | c :: r => by
    have ih := jw_spw r
    by_cases hc : c = 32
    · subst hc
      rw [spw_32, jw_cons [] (spw_ne r), ih]
      rfl
    · obtain ⟨v, vs, hv⟩ : ∃ v vs, spw r = v :: vs := by
        cases hr : spw r with
        | nil => exact absurd hr (spw_ne r)
        | cons v vs => exact ⟨v, vs, rfl⟩
      rw [spw_cons hc hv]
      rw [hv] at ih
      cases vs with
      | nil =>
        show c :: v = c :: r
        rw [← ih]
        rfl
      | cons x y =>
        show c :: (v ++ 32 :: jw (x :: y)) = c :: r
        rw [← ih]
        rfl
theorem spw_one : ∀ w : List Nat, 32 ∉ w → spw w = [w]
  | [], _ => rfl
  | c :: r, h => by
    rw [spw_cons (fun z => h (z ▸ List.mem_cons_self ..)) (spw_one r fun z => h (List.mem_cons_of_mem _ z))]
theorem spw_app : ∀ (w l : List Nat), 32 ∉ w → spw (w ++ 32 :: l) = w :: spw l
  | [], l, _ => spw_32 l
  | c :: r, l, h => by
    have e := spw_app r l fun z => h (List.mem_cons_of_mem _ z)
    exact spw_cons (fun z => h (z ▸ List.mem_cons_self ..)) e
theorem spw_jw : ∀ ws : List (List Nat), ws ≠ [] → (∀ w ∈ ws, 32 ∉ w) → spw (jw ws) = ws
  | [], h, _ => absurd rfl h
  | [w], _, h => spw_one w (h w (List.mem_cons_self ..))
  | w :: v :: r, _, h => by
    rw [jw_cons w (by simp), spw_app w _ (h w (List.mem_cons_self ..)), spw_jw (v :: r) (by simp) fun x hx => h x (List.mem_cons_of_mem _ hx)]
theorem spw_len : ∀ l : List Nat, (spw l).length ≤ l.length + 1
  | [] => Nat.le_refl _
  | c :: r => by
    have ih := spw_len r
    by_cases hc : c = 32
    · subst hc
      rw [spw_32]
      simp
      omega
    · obtain ⟨v, vs, hv⟩ : ∃ v vs, spw r = v :: vs := by
        cases hr : spw r with
        | nil => exact absurd hr (spw_ne r)
        | cons v vs => exact ⟨v, vs, rfl⟩
      rw [spw_cons hc hv]
      rw [hv] at ih
      simp at ih ⊢
      omega
theorem spw_mem : ∀ (l w : List Nat), w ∈ spw l → (∀ c ∈ w, c ∈ l) ∧ w.length ≤ l.length
  | [], w, h => by
    rw [List.mem_singleton.mp h]
    exact ⟨fun c hc => hc, Nat.le_refl _⟩
  | c :: r, w, h => by
    by_cases hc : c = 32
    · subst hc
      rw [spw_32] at h
      rcases List.mem_cons.mp h with rfl | h
      · exact ⟨fun c hc => (by cases hc), Nat.zero_le _⟩
      · obtain ⟨h1, h2⟩ := spw_mem r w h
        exact ⟨fun c hc => List.mem_cons_of_mem _ (h1 c hc), by rw [List.length_cons]; omega⟩
    · obtain ⟨v, vs, hv⟩ : ∃ v vs, spw r = v :: vs := by
        cases hr : spw r with
        | nil => exact absurd hr (spw_ne r)
        | cons v vs => exact ⟨v, vs, rfl⟩
      rw [spw_cons hc hv] at h
      rcases List.mem_cons.mp h with rfl | h
      · obtain ⟨h1, h2⟩ := spw_mem r v (by rw [hv]; exact List.mem_cons_self ..)
        exact ⟨fun x hx => by
          rcases List.mem_cons.mp hx with rfl | hx
          · exact List.mem_cons_self ..
          · exact List.mem_cons_of_mem _ (h1 x hx), by rw [List.length_cons, List.length_cons]; omega⟩
      · obtain ⟨h1, h2⟩ := spw_mem r w (by rw [hv]; exact List.mem_cons_of_mem _ h)
        exact ⟨fun x hx => List.mem_cons_of_mem _ (h1 x hx), by rw [List.length_cons]; omega⟩
theorem joinL_jw : ∀ ws : List (List Nat), TL.joinL [32] ws = jw ws
  | [] => rfl
  | [_] => rfl
  | w :: v :: r => by
    rw [jw_cons w (by simp), ← joinL_jw (v :: r)]
    rfl
theorem join_jw (ws : List (List Nat)) : Txt.join (S [32]) (ws.map S) = S (jw ws) := by
  have h := SX.join_S [32] ws
  rw [joinL_jw] at h
  exact h
theorem joinL_flat : ∀ ws : List (List Nat), TL.joinL [] ws = ws.flatten
  | [] => rfl
  | [w] => by
    show w = [w].flatten
    simp
  | w :: v :: r => by
    have ih := joinL_flat (v :: r)
    show w ++ ([] ++ TL.joinL [] (v :: r)) = _
    rw [ih]
    simp
theorem join_flat (ws : List (List Nat)) : Txt.join (S []) (ws.map S) = S ws.flatten := by
  have h := SX.join_S [] ws
  rw [joinL_flat] at h
  exact h
theorem sum_lenS : ∀ ws : List (List Nat), ((ws.map S).map (·.length)).sum = ws.flatten.length
  | [] => rfl
  | w :: r => by
    have ih := sum_lenS r
    rw [List.map_cons, List.map_cons, List.sum_cons, ih, List.flatten_cons, List.length_append]
    rw [S_len]
end Lc
namespace Lc
open PySem PySem.Spec PyProof.Rows L2 Evl
section
variable {K : PySem.W.Frag} {σ : L2.St} {H : Hp} {t1 t2 t3 te : TE}
/-! ### f'..' put together -/
abbrev tJo (ts : List TE) : TE := fun σ H Q => tJs ts Str.empty σ H fun out H1 => Q (.str out) H1
theorem em_app (a : List Nat) : Str.empty ++ S a = S a := S_app [] a
theorem ev_js2 {a b : List Nat} (h1 : Ev t1 σ H (.str (S a))) (h2 : Ev t2 σ H (.str (S b))) (hz : a.length + b.length ≤ 100000) : Ev (tJo [t1, t2]) σ H (.str (S (a ++ b))) := fun H1 e Q q => by
  refine h1 H1 e _ fun H2 e2 => ⟨S a, rfl, ?_, ?_⟩
  · rw [em_app]
    exact sz_of (by rw [S_len]; omega)
  rw [em_app]
  refine h2 H2 (e.trans e2) _ fun H3 e3 => ⟨S b, rfl, ?_, ?_⟩
  · rw [S_app]
    exact sz_of (by rw [S_len, List.length_append]; omega)
  rw [S_app]
  exact q H3 (e2.trans e3)
theorem ev_js3 {a b c : List Nat} (h1 : Ev t1 σ H (.str (S a))) (h2 : Ev t2 σ H (.str (S b))) (h3 : Ev t3 σ H (.str (S c))) (hz : a.length + b.length + c.length ≤ 100000) : Ev (tJo [t1, t2, t3]) σ H (.str (S (a ++ b ++ c))) := fun H1 e Q q => by
  refine h1 H1 e _ fun H2 e2 => ⟨S a, rfl, ?_, ?_⟩
  · rw [em_app]
    exact sz_of (by rw [S_len]; omega)
  rw [em_app]
  refine h2 H2 (e.trans e2) _ fun H3 e3 => ⟨S b, rfl, ?_, ?_⟩
  · rw [S_app]
    exact sz_of (by rw [S_len, List.length_append]; omega)
  rw [S_app]
  refine h3 H3 ((e.trans e2).trans e3) _ fun H4 e4 => ⟨S c, rfl, ?_, ?_⟩
  · rw [S_app]
    exact sz_of (by rw [S_len, List.length_append, List.length_append]; omega)
  rw [S_app]
  exact q H4 ((e2.trans e3).trans e4)
theorem log_small {i : Int} (h : i.natAbs < 2 ^ 100) : i.natAbs.log2 < 1920 := by
  by_cases h0 : i.natAbs = 0
  · rw [h0]
    decide
  · exact Nat.lt_of_lt_of_le ((Nat.log2_lt h0).mpr h) (by decide)
theorem ev_fmtS {a : List Nat} (h : Ev te σ H (.str (S a))) (hz : a.length ≤ 100000) : Ev (tFmt te) σ H (.str (S a)) := fun H1 e Q q => h H1 e _ fun H2 e2 => .inl ⟨S a, rfl, sz_of (by rw [S_len]; exact hz), q H2 e2⟩
theorem ev_fmtI {i : Int} (h : Ev te σ H (.int i)) (hz : i.natAbs < 2 ^ 100) : Ev (tFmt te) σ H (.str (S (dec i))) := fun H1 e Q q => h H1 e _ fun H2 e2 => .inr ⟨i, rfl, log_small hz, by rw [← S_dec]; exact q H2 e2⟩
theorem ev_strI {i : Int} (h : Ev te σ H (.int i)) (hz : i.natAbs < 2 ^ 100) : Ev (tCB (fun xs H Q => ∃ i : Int, xs = [V.int i] ∧ i.natAbs.log2 < 1920 ∧ Q (.str (toString i)) H) (tCons te tNil)) σ H (.str (S (dec i))) := fun H1 e Q q => h H1 e _ fun H2 e2 => ⟨i, rfl, log_small hz, by rw [← S_dec]; exact q H2 e2⟩
theorem small_nat {i : Int} {k : Nat} (h : -(k : Int) ≤ i) (h2 : i ≤ k) (hk : k < 2 ^ 100 := by decide) : i.natAbs < 2 ^ 100 := Nat.lt_of_le_of_lt (show i.natAbs ≤ k by omega) hk
/-! ### comprehensions over zip of a text and a list -/
theorem el_zipS {t : Bool} {z : List Nat} {b : Addr} {ys : List V} {n p q : Nat} {vs : List Nat} {tA : TA} (f : Nat → V) (hA : EvA tA σ H [.str (S z), .ref b]) (hs : Sq K t H b ys) (hn : n = min z.length ys.length) (hz : n ≤ 40000) (hw : ∀ x y, wipe (((wipe σ vs).set p (some x)).set q (some y)) vs = wipe σ vs)
    (he : ∀ (i c : Nat) (y : V) H1, z[i]? = some c → ys[i]? = some y → Ex H H1 → Ev te (((wipe σ vs).set p (some (.str (S [c])))).set q (some y)) H1 (f i)) : EvL (tLc (iZipS K tA) (gTup K 2 (gCons (gName p) (gCons (gName q) gNil))) tYes te vs) σ H ((List.range n).map f) := fun H0 e Q k => hA H0 e _ fun H1 e1 => ⟨t, S z, b, ys, rfl, hs.ex (e.trans e1), fun D hD => by
  have w := walk_zipS (K := K) (n := n) (t := t) (z := S z) (b := b) (ys := ys) (by rw [hn, its_sz])
  refine lc_it w (fun i H' => Cw H1 (fun _ => true) f D i H') ⟨hD, Ex.new hD, upd_same⟩ (fun i H' _ h => hs.ex ((e.trans e1).trans h.2.1)) ?_ ?_
  · rintro i x H2 H3 hi h ⟨T, c, y, rfl, hT, rfl, hc, hy⟩
    have hDT : D ≠ T := fun z => by
      have h3 := h.2.2
      rw [z, hT] at h3
      cases h3
    refine gpair upd_same ⟨hw _ _, ?_⟩
    exact cw_turn ⟨h.1, h.2.1.trans (Ex.new hT), by rw [upd_ne hDT]; exact h.2.2⟩ (by omega) et_yes fun _ => he i c y H1 (its_at hc) hy (e.trans e1)
  · intro H2 h
    have h3 := h.2.2
    rw [given_all] at h3
    exact k D H2 (fresh_back e1 h.1) (e1.trans h.2.1) h3⟩
end
end Lc
namespace K57
open PySem PySem.Spec PyProof.Rows L2 Lc Evl
section
variable {P : Program} {w : World} {K : PySem.W.Frag} {mg : Str → Option Value} {base : Heap}
/-! ### cards: len, ==, mirrored -/
theorem ev_fldC {σ : L2.St} {H : Hp} {te : TE} {j dx : Addr} {fs : List (Str × V)} {f : Str} {v : V} (T : Tx K mg w) (h : Ev te σ H (.ref j)) (hj : H j = some (.ins (cC K) dx fs)) (n : NoAttr K (cC K) f) (l : fs.lookup f = some v) : Ev (tFld K te f) σ H v := fun H1 e Q q =>
  h H1 e _ fun H2 e2 => ⟨j, cC K, dx, fs, v, rfl, (e.trans e2) _ _ hj, c_Card T, n, l, q H2 e2⟩
def RJ (K : PySem.W.Frag) (a b : Addr) (H : Hp) : Prop := ∃ x : Jm, IsJ K H a x.1 x.2.1 x.2.2 ∧ IsJ K H b x.1 x.2.1 x.2.2
theorem mon_RJ : ∀ a b H H', L2.Ext H H' → RJ K a b H → RJ K a b H' := fun a b H H' e h => by
  obtain ⟨x, h1, h2⟩ := h
  exact ⟨x, h1.ex e, h2.ex e⟩
theorem eq_RJ (T : Tx K mg w) : OkD P w K mg base 1 d_Jump_eq ps_Jump_eq (spEq (RJ K)) := FnOk.imp (ok_Jump_eq (P := P) (w := w) (base := base) T) fun vs H Q E h => by
  obtain ⟨a, b, rfl, ⟨x, h1, h2⟩, q⟩ := h
  refine ⟨a, b, _, _, _, _, _, _, rfl, h1, h2, fun H1 e1 => ?_⟩
  have h3 := q H1 e1
  simpa using h3
def sp_Card_eq (K : PySem.W.Frag) : Sp := fun vs H Q _ => ∃ (c d : Addr) (ps : List Int) (G : List Jm), vs = [.ref c, .ref d] ∧ IsC K H c ps G ∧ IsC K H d ps G ∧ RetV (.bl true) H Q
theorem rv_eqTI {H : Hp} {p q : Addr} {l : List Int} (h : SqT K H p (l.map V.int)) (h' : SqT K H q (l.map V.int)) : RV (rEqD K) (.ref p) (.ref q) H (.bl true) := fun H1 e Q k =>
  ⟨.tuple (l.map PyData.int), .tuple (l.map PyData.int), .tup (ex_t e h) (dpAll_of (fun x => .int x) l), .tup (ex_t e h') (dpAll_of (fun x => .int x) l), by
    have h3 := dRT_lay l
    have h4 := dRT_depth l
    unfold SeqAt.shaped
    rw [Bool.and_eq_true]
    exact ⟨h3, decide_eq_true (by unfold dRT at h4; omega)⟩, by
    have h3 := dRT_lay l
    have h4 := dRT_depth l
    unfold SeqAt.shaped
    rw [Bool.and_eq_true]
    exact ⟨h3, decide_eq_true (by unfold dRT at h4; omega)⟩, by
    rw [show PyData.eqv (.tuple (l.map PyData.int)) (.tuple (l.map PyData.int)) = true by
      have h5 := dRT_eqv l l
      unfold dRT at h5
      rw [h5]
      simp]
    exact k H1 (Ex.refl H1)⟩
theorem prs_J {H : Hp} : ∀ (L M : List (Addr × Jm)), (∀ q ∈ L, TI K H q) → (∀ q ∈ M, TI K H q) → L.map (·.2) = M.map (·.2) → Prs (DIns (cU K) (RJ K)) (L.map fun q => V.ref q.1) (M.map fun q => V.ref q.1) H
  | [], [], _, _, _ => Prs.nil
  | q :: L, r :: M, h1, h2, e => by
    obtain ⟨e1, e2⟩ := List.cons.inj e
    dsimp only at e1
    obtain ⟨ha, _⟩ := h1 q (List.mem_cons_self ..)
    obtain ⟨hb, _⟩ := h2 r (List.mem_cons_self ..)
    have ha2 := ha
    have hb2 := hb
    obtain ⟨dx, ha2⟩ := ha2
    obtain ⟨dy, hb2⟩ := hb2
    exact Prs.cons ⟨q.1, r.1, dx, dy, _, _, rfl, rfl, ha2, hb2, q.2, ha, by rw [e1]; exact hb⟩ (prs_J L M (fun x hx => h1 x (List.mem_cons_of_mem _ hx)) (fun x hx => h2 x (List.mem_cons_of_mem _ hx)) e2)
  | [], _ :: _, _, _, e => by simp at e
  | _ :: _, [], _, _, e => by simp at e
theorem rc_isCard {H : Hp} {c : Addr} {ps : List Int} {G : List Jm} (h : IsC K H c ps G) : RC (rIsOwn (cC K)) [.ref c, .ref (cC K)] H (.bl true) := fun H1 e _ q => by
  obtain ⟨dx, wa, ja, pa, L, M, h1, _⟩ := h
  exact ⟨c, dx, _, rfl, e _ _ h1, q H1 (Ex.refl H1)⟩
theorem ok_Card_eq (T : Tx K mg w) : OkD P w K mg base 4 d_Card_eq ps_Card_eq (sp_Card_eq K) := by
  refine (h_Card_eq T).ok sc_Card_eq (fun vs H Q E h => ?_) (fun cdv A outer s H vs Q E hr h => ⟨_,
      (pss_one (ps_ret (pe_and (pe_callB (call_isOwn (C := He.ga K "Card")) (by rfl) (m_isinstance T) (by decide +kernel) (pa_cons (pv 1) (pa_cons (pe_glob (v := .ref (He.ga K "Card")) rfl (m_Card T) rfl) pa_nil))) (pe_and (pe_cmpR (op_eqD hr.units) (pe_fld (pv 0) rfl) (pe_fld (pv 1) rfl) (nomark _)) (pe_one (pe_cmpR (show OpR _ _ (rEqG (DTup K (DIns (cU K) (RJ K)))) from op_eqG (n := 2) (rcG_tup (mon_ins mon_RJ) (eqG_ins (n := 1) (eq_RJ (P := P) (w := w) (base := base) T) (me_Jump_eq T).at_ (me_Jump_eq T).fn (b_Jump_eq T) passN)) (hr.mono (by decide))) (pe_fld (pv 0) rfl) (pe_fld (pv 1) rfl) (nomark _))))))), ?_⟩)
  · obtain ⟨c, d, ps, G, rfl, _⟩ := h
    rfl
  · obtain ⟨c, d, ps, G, rfl, hc, hd, q⟩ := h
    have hdC := rc_isCard hd
    obtain ⟨dx, wa, ja, pa, L, M, h1, h2, h3, h4, _⟩ := hc
    obtain ⟨dy, wb, jb, pb, L', M', g1, g2, g3, g4, _⟩ := hd
    refine s_ret (v := .bl (true && (true && true))) (ev_andV (ev_cb (ea_cons (ev_var rfl) (ea_cons ev_c ea_nil)) hdC) fun _ => ev_andV (ev_op (ev_fldC (te := tVar 0) T (ev_var rfl) h1 (n_Card_worths T) rfl) (ev_fldC (te := tVar 1) T (ev_var rfl) g1 (n_Card_worths T) rfl) (rv_eqTI (st_of h2) (st_of g2))) fun _ => ev_op (ev_fldC (te := tVar 0) T (ev_var rfl) h1 (n_Card_jumps T) rfl) (ev_fldC (te := tVar 1) T (ev_var rfl) g1 (n_Card_jumps T) rfl) ?_) fun H1 e1 => q H1 e1
    exact fun H1 e Q k => ⟨⟨ja, jb, _, _, rfl, rfl, ex_t e (st_of h3.1), ex_t e (st_of g3.1), prs_J L L' (fun q hq => (h3.2 q hq).ex e) (fun q hq => (g3.2 q hq).ex e) (h4.trans g4.symm)⟩, fun H2 e2 => k H2 e2⟩
/-! ### mirrored cards -/
/-- Card(worths, jumps) -/
theorem make_card {H : Hp} {t t2 : Bool} {p r : Addr} {ps : List Int} {L : List (Addr × Jm)} {E : XK} {Q : VK} (hs : H p = some (cT t (ps.map V.int))) (hj : H r = some (cT t2 (L.map fun q => V.ref q.1)) ∧ ∀ q ∈ L, TI K H q) (h1 : ps.length ≤ 1000) (h2 : L.length ≤ 1000)
    (q1 : wrg ps (L.map (·.2)) = "" → ∀ c H', H c = none → Ex H H' → IsC K H' c ps (L.map (·.2)) → Q (.ref c) H') (q2 : wrg ps (L.map (·.2)) ≠ "" → BadC K "InvalidCard" "part" H E (.str (wrg ps (L.map (·.2))))) :
    ∀ x dx, H x = none → H dx = none → dx ≠ x → sp_Card_init K [.ref x, .ref p, .ref r] (upd (upd H dx (.own x)) x (.ins (cC K) dx [])) (fun v H2 => v = .non ∧ Q (.ref x) H2) E := fun x dx hx hd hdx => by
  have e1 : Ex H (upd (upd H dx (.own x)) x (.ins (cC K) dx [])) := (Ex.new hd).trans (Ex.new (by rw [upd_ne (Ne.symm hdx)]; exact hx))
  refine ⟨x, dx, p, r, t, t2, ps, L, rfl, upd_same, e1 _ _ hs, ⟨e1 _ _ hj.1, fun q hq => (hj.2 q hq).ex e1⟩, h1, h2, fun hw H' eb hc => ⟨rfl, q1 hw x H' hx ?_ hc⟩, fun hw => (q2 hw).ex e1⟩
  intro c o ho
  exact eb c o (fun z => by rw [z, hx] at ho; cases ho) (e1 c o ho)
def swp (x : Jm) : Jm := (x.1, x.2.1, oth x.2.2)
theorem vj_swp {x : Jm} (h : VJ x) : VJ (swp x) := isJ_way h (oth_in (vj_parts h).1)
theorem oth_oth {z : Str} (h : z ∈ wys) : oth (oth z) = z := by
  simp only [wys, List.mem_cons, List.not_mem_nil, or_false] at h
  rcases h with rfl | rfl | rfl <;> decide +kernel
theorem swp_inj {x y : Jm} (hx : VJ x) (hy : VJ y) (e : swp x = swp y) : x = y := by
  obtain ⟨b, a, z⟩ := x
  obtain ⟨b2, a2, z2⟩ := y
  unfold swp at e
  injection e with e1 e2
  injection e2 with e2 e3
  dsimp only at e1 e2 e3
  have h := congrArg oth e3
  rw [oth_oth (vj_parts hx).1, oth_oth (vj_parts hy).1] at h
  dsimp only at h
  rw [e1, e2, h]
theorem wrg_ok {ps : List Int} {G : List Jm} (h : wrg ps G = "") : OkP ps ∧ OkG ps G := by
  by_cases hp : OkP ps
  · by_cases hg : OkG ps G
    · exact ⟨hp, hg⟩
    · rw [wrg_g hp hg] at h
      exact absurd h j_ne
  · rw [wrg_p hp] at h
    exact absurd h w_ne
theorem wrg_swp {ps : List Int} {G : List Jm} (hv : ∀ x ∈ G, VJ x) (h : wrg ps G = "") : wrg ps (G.map swp) = "" := by
  obtain ⟨hp, h1, h2, h3⟩ := wrg_ok h
  refine wrg_o hp ⟨by rw [List.length_map]; exact h1, ?_, fun y hy => ?_⟩
  · unfold List.Nodup
    rw [List.pairwise_map]
    exact (List.Pairwise.iff_of_mem fun {a b} ha hb => ⟨fun q z => q (swp_inj (hv a ha) (hv b hb) z), fun q z => q (by rw [z])⟩).mp h2
  · obtain ⟨x, hx, rfl⟩ := List.mem_map.mp hy
    exact h3 x hx
theorem vj_IsC {H : Hp} {c : Addr} {ps : List Int} {G : List Jm} (h : IsC K H c ps G) : ∀ x ∈ G, VJ x := by
  obtain ⟨dx, wa, ja, pa, L, M, h1, h2, h3, rfl, _⟩ := h
  intro x hx
  obtain ⟨q, hq, rfl⟩ := List.mem_map.mp hx
  exact (h3.2 q hq).2
end
end K57
namespace K57
open PySem PySem.Spec PyProof.Rows L2 Lc Evl
section
variable {P : Program} {w : World} {K : PySem.W.Frag} {mg : Str → Option Value} {base : Heap}
/-! ### the errors -/
def sp_InvalidRow_init_W (K : PySem.W.Frag) : Sp := fun vs H Q _ => ∃ (a : Addr) (x : V), vs = [.ref a, x] ∧ KS x ∧ Made K "InvalidRow" "row" H a x Q
def sp_InvalidWeight_init (K : PySem.W.Frag) : Sp := fun vs H Q _ => ∃ (a : Addr) (x : V), vs = [.ref a, x] ∧ KS x ∧ Made K "InvalidWeight" "part" H a x Q
theorem ok_InvalidWeight_init (T : Tx K mg w) : OkD P w K mg base 1 d_InvalidWeight_init ps_InvalidWeight_init (sp_InvalidWeight_init K) := by
  refine (h_InvalidWeight_init T).ok sc_InvalidWeight_init (fun vs H Q E h => ?_) (fun cdv A outer s H vs Q E hr h => ⟨_,
      (pss_cons (ps_expr (pe_ownInit (CL := cL K) (by rfl) (m_LeapError T) (by decide) (x_InvalidWeight T).sp (x_InvalidWeight T).rd (x_InvalidWeight T).vV (pa_cons (pv 0) (pa_cons (pe_joined (.cons pe_str (.cons (pe_fmtR (pv 1)) .nil))) pa_nil))))
      (pss_one (ps_ost (pv 0) (pv 1)))), ?_⟩)
  · obtain ⟨a, x, rfl, _⟩ := h
    rfl
  · obtain ⟨a, x, rfl, ⟨l, rfl, hl, hc⟩, ha, q⟩ := h
    have hrp := reprS_len hl hc
    refine ⟨_, rfl, ?_⟩
    refine ⟨_, rfl, by decide +kernel, ?_⟩
    refine ⟨_, rfl, .inl ⟨_, rfl, sz_of (by omega), ?_⟩⟩
    refine ⟨_, rfl, ?_, ?_⟩
    · rw [len_app, len_app]
      have h1 : (Str.empty).length = 0 := by decide +kernel
      have h2 : (Str.ofString "wrong part of a weight: ").length ≤ 100 := by decide +kernel
      exact sz_of (by omega)
    refine ⟨a, He.ga K "InvalidWeight", _, rfl, by simp, (x_InvalidWeight T).oex, ha, ?_⟩
    exact ⟨_, rfl, _, rfl, a, He.ga K "InvalidWeight", rfl, (x_InvalidWeight T).oex, (x_InvalidWeight T).no, .inl ⟨ha, fun dx hd hda => q dx hd hda⟩⟩
def Bad_W (K : PySem.W.Frag) (c f : Str) (H : Hp) (E : XK) (x : V) : Prop := ∀ d H', H d = none → Ex H H' → H' d = some (.xd [(f, x)]) → E (.ref (He.ga K c)) (some d) H'
theorem Bad_W.ex {c f : Str} {H H' : Hp} {E : XK} {x : V} (h : Bad_W K c f H E x) (e : Ex H H') : Bad_W K c f H' E x := fun d H2 hd e2 hx => h d H2 (fresh_back e hd) (e.trans e2) hx
/-- raise C(x) -/
theorem bad_go_W {c f : Str} {H : Hp} {E : XK} {x : V} {a dx : Addr} {o1 : HO} (q : Bad_W K c f H E x) (ha : H a = none) (hd : upd H a o1 dx = none) (hda : dx ≠ a) (u v : HO) :
    E (.ref (He.ga K c)) (some dx) (upd (del (upd (upd (upd H a o1) dx u) a v) a) dx (.xd [(f, x)])) := by
  rw [upd_ne hda] at hd
  refine q dx _ hd ?_ upd_same
  intro b o hb
  have n1 : b ≠ dx := fun z => by rw [z, hd] at hb; cases hb
  have n2 : b ≠ a := fun z => by rw [z, ha] at hb; cases hb
  rw [upd_ne n1, del_ne n2, upd_ne n2, upd_ne n1, upd_ne n2]
  exact hb
theorem mk_go_W {c f : Str} {H : Hp} {E : XK} {x : V} {a : Addr} (q : Bad_W K c f H E x) (ha : H a = none) :
    Made K c f (upd H a (exo a (He.ga K c) none)) a x fun v H2 => v = .non ∧ ∃ (d : Addr) (fs : List (Str × V)), H2 a = some (exo a (He.ga K c) (some d)) ∧ H2 d = some (exd d fs) ∧ H d = none ∧ E (.ref (He.ga K c)) (some d) (upd (del H2 a) d (.xd fs)) := by
  refine ⟨upd_same, fun dx hd hda => ⟨rfl, dx, _, upd_same, by rw [upd_ne hda, upd_same], ?_, bad_go_W q ha hd hda _ _⟩⟩
  rw [upd_ne hda] at hd
  exact hd
def sp_check_row_W (K : PySem.W.Frag) : Sp := fun vs H Q E => ∃ (l g : List Nat), vs = [.str (S l), .str (S g)] ∧ l.length ≤ 1000 ∧ g.length ≤ 1000 ∧ (∀ c ∈ l, c < 128) ∧ ((∀ c ∈ l, c ∈ g) → RetV .non H Q) ∧ ((¬ ∀ c ∈ l, c ∈ g) → Bad_W K "InvalidRow" "row" H E (.str (S l)))
/-! ### periods, remainders, tables -/
def sp_check_period (K : PySem.W.Frag) : Sp := fun vs H Q E => ∃ p : Int, vs = [.int p] ∧ ((1 ≤ p ∧ p ≤ 12) → RetV .non H Q) ∧ ((¬ (1 ≤ p ∧ p ≤ 12)) → Bad_W K "InvalidWeight" "part" H E (.str "period"))
theorem ks_lit {l : List Nat} (h : l.length ≤ 1000) (hc : ∀ c ∈ l, c < 128) : KS (.str (S l)) := ⟨l, rfl, h, hc⟩
theorem ks_period : KS (.str "period") := ⟨[112, 101, 114, 105, 111, 100], congrArg V.str (by decide +kernel), by decide, by decide⟩
theorem ks_modulus : KS (.str "modulus") := ⟨[109, 111, 100, 117, 108, 117, 115], congrArg V.str (by decide +kernel), by decide, by decide⟩
theorem ks_table : KS (.str "table") := ⟨[116, 97, 98, 108, 101], congrArg V.str (by decide +kernel), by decide, by decide⟩
theorem chain_dec {a b c : Int} : (decide (a ≤ b) && decide (b ≤ c)) = decide (a ≤ b ∧ b ≤ c) := by rw [Bool.decide_and]
theorem ok_check_period (T : Tx K mg w) : OkD P w K mg base 3 d_check_period ps_check_period (sp_check_period K) := by
  refine (h_check_period T).ok sc_check_period (fun vs H Q E h => ?_) (fun cdv A outer s H vs Q E hr h => ⟨_,
      (pss_one (ps_if (pt_not (pt_chain op_le op_le pe_int (pv 0) (pe_glob (v := .int 12) rfl (m_MOST_PERIOD T).choose_spec ⟨_, rfl⟩))) (pss_one (L2N.ps_raise rfl (L2N.takes_of rfl rfl rfl rfl) (pmkN_oex (x_InvalidWeight T).oex (x_InvalidWeight T).iC (x_InvalidWeight T).tI (ok_InvalidWeight_init (P := P) (w := w) (base := base) T) (hr.mono (by decide)) (b_InvalidWeight_init T) .nil passN (by rfl) (m_InvalidWeight T) (pa_cons pe_str pa_nil)))) pss_nil)), ?_⟩)
  · obtain ⟨p, rfl, _⟩ := h
    rfl
  · obtain ⟨p, rfl, q1, q2⟩ := h
    refine s_when (b := !decide (1 ≤ p ∧ p ≤ 12)) (et_not (et_test (by rw [← chain_dec]; exact ev_chain ev_c (ev_var rfl) ev_c rv_I0 fun _ => rv_I0))) (fun hb H1 e1 => ?_) (fun hb H1 e1 => ?_)
    · have hn : ¬ (1 ≤ p ∧ p ≤ 12) := of_decide_eq_false (not_t hb)
      exact ⟨by simp, fun a ha => ⟨a, _, rfl, ks_period, mk_go_W ((q2 hn).ex e1) ha⟩⟩
    · have hn : 1 ≤ p ∧ p ≤ 12 := of_decide_eq_true (not_f hb)
      exact q1 hn H1 e1
def rem (b x : Int) : Int := if b = 0 then x else x % b
def sp_remainder : Sp := fun vs H Q _ => ∃ x b : Int, vs = [.int x, .int b] ∧ 0 ≤ b ∧ RetV (.int (rem b x)) H Q
theorem ok_remainder (T : Tx K mg w) : OkD P w K mg base 1 d_remainder ps_remainder sp_remainder := by
  refine (h_remainder T).ok sc_remainder (fun vs H Q E h => ?_) (fun cdv A outer s H vs Q E hr h => ⟨_,
      (pss_one (ps_ret (pe_ifExp (pt_cmpR op_eq (pv 1) pe_int (nomark _)) (pv 0) (pe_op op_mod (pv 0) (pv 1))))), ?_⟩)
  · obtain ⟨x, b, rfl, _⟩ := h
    rfl
  · obtain ⟨x, b, rfl, hb, q⟩ := h
    refine s_ret (v := .int (rem b x)) (ev_if (b := decide (b = 0)) (by first | ((with_reducible apply et_test); (repeat' (first | ((with_reducible refine ev_pow10 ?_ ?_ ?_) <;> first | rfl | decide) | (with_reducible refine fun (_ : _ = true) => ?_) | (with_reducible refine fun (_ : _ = false) => ?_) | (with_reducible exact ev_c) | ((with_reducible apply ev_var); rfl) | (with_reducible apply ev_op) | (with_reducible apply ev_un) | (with_reducible apply ev_cb) | (with_reducible apply ea_cons) | (with_reducible apply ev_andV) | (with_reducible apply ev_orV) | (with_reducible apply ev_notV) | (with_reducible apply ev_if) | (with_reducible apply eo_some) | (with_reducible apply el_lst) | (with_reducible exact ea_nil) | (with_reducible exact rv_I0) | (with_reducible exact ru_neg) | (with_reducible exact rv_ltS) | (with_reducible exact rv_inC) | (with_reducible exact rv_notInC) | (with_reducible exact rc_intI) | (with_reducible exact rc_intB) | (with_reducible exact rc_min2) | (with_reducible exact rc_isStr) | (with_reducible exact eo_none) | (with_reducible exact rv_inSS) | (with_reducible exact rv_notInSS) | (with_reducible exact rv_ltSS) | (with_reducible exact rv_eqSS) | (with_reducible exact rv_eqII) | (with_reducible exact rv_neII) | (with_reducible exact rv_neSS) | ((with_reducible refine rc_lenSS ?_); (first | assumption | omega | decide | (simp only [S_len] at *; omega))) | ((with_reducible refine rc_lenStr ?_); (first | assumption | omega | decide | (simp only [S_len] at *; omega))) | ((with_reducible refine rv_catSS ?_); (first | assumption | omega | decide | (simp only [S_len] at *; omega))) | (with_reducible exact rv_eq rfl) | (with_reducible exact rv_ne rfl) | ((with_reducible refine rc_lenS ?_); (first | assumption | omega | decide | (simp only [S_len] at *; omega))) | ((with_reducible refine rc_lenL ?_); assumption) | ((with_reducible apply rv_ixL); assumption; rfl) | ((with_reducible refine rv_catS ?_); (first | assumption | omega | decide | (simp only [S_len] at *; omega))) | ((with_reducible refine rv_I ?_); (first | (show (0 : Int) < _; (first | assumption | omega | decide | (simp only [S_len] at *; omega))) | exact .inr ⟨by decide, by decide⟩ | exact .inl ⟨by (first | assumption | omega | decide | (simp only [S_len] at *; omega)), by (first | assumption | omega | decide | (simp only [S_len] at *; omega))⟩ | exact .inr ⟨by (first | assumption | omega | decide | (simp only [S_len] at *; omega)), by (first | assumption | omega | decide | (simp only [S_len] at *; omega))⟩ | exact ⟨by decide, by decide, by decide⟩ | exact wide_div (b := 128) (by (first | assumption | omega | decide | (simp only [S_len] at *; omega))) (by (first | assumption | omega | decide | (simp only [S_len] at *; omega))) (by decide) (by decide)))))) | ((with_reducible apply et_B); (repeat' (first | ((with_reducible refine ev_pow10 ?_ ?_ ?_) <;> first | rfl | decide) | (with_reducible refine fun (_ : _ = true) => ?_) | (with_reducible refine fun (_ : _ = false) => ?_) | (with_reducible exact ev_c) | ((with_reducible apply ev_var); rfl) | (with_reducible apply ev_op) | (with_reducible apply ev_un) | (with_reducible apply ev_cb) | (with_reducible apply ea_cons) | (with_reducible apply ev_andV) | (with_reducible apply ev_orV) | (with_reducible apply ev_notV) | (with_reducible apply ev_if) | (with_reducible apply eo_some) | (with_reducible apply el_lst) | (with_reducible exact ea_nil) | (with_reducible exact rv_I0) | (with_reducible exact ru_neg) | (with_reducible exact rv_ltS) | (with_reducible exact rv_inC) | (with_reducible exact rv_notInC) | (with_reducible exact rc_intI) | (with_reducible exact rc_intB) | (with_reducible exact rc_min2) | (with_reducible exact rc_isStr) | (with_reducible exact eo_none) | (with_reducible exact rv_inSS) | (with_reducible exact rv_notInSS) | (with_reducible exact rv_ltSS) | (with_reducible exact rv_eqSS) | (with_reducible exact rv_eqII) | (with_reducible exact rv_neII) | (with_reducible exact rv_neSS) | ((with_reducible refine rc_lenSS ?_); (first | assumption | omega | decide | (simp only [S_len] at *; omega))) | ((with_reducible refine rc_lenStr ?_); (first | assumption | omega | decide | (simp only [S_len] at *; omega))) | ((with_reducible refine rv_catSS ?_); (first | assumption | omega | decide | (simp only [S_len] at *; omega))) | (with_reducible exact rv_eq rfl) | (with_reducible exact rv_ne rfl) | ((with_reducible refine rc_lenS ?_); (first | assumption | omega | decide | (simp only [S_len] at *; omega))) | ((with_reducible refine rc_lenL ?_); assumption) | ((with_reducible apply rv_ixL); assumption; rfl) | ((with_reducible refine rv_catS ?_); (first | assumption | omega | decide | (simp only [S_len] at *; omega))) | ((with_reducible refine rv_I ?_); (first | (show (0 : Int) < _; (first | assumption | omega | decide | (simp only [S_len] at *; omega))) | exact .inr ⟨by decide, by decide⟩ | exact .inl ⟨by (first | assumption | omega | decide | (simp only [S_len] at *; omega)), by (first | assumption | omega | decide | (simp only [S_len] at *; omega))⟩ | exact .inr ⟨by (first | assumption | omega | decide | (simp only [S_len] at *; omega)), by (first | assumption | omega | decide | (simp only [S_len] at *; omega))⟩ | exact ⟨by decide, by decide, by decide⟩ | exact wide_div (b := 128) (by (first | assumption | omega | decide | (simp only [S_len] at *; omega))) (by (first | assumption | omega | decide | (simp only [S_len] at *; omega))) (by decide) (by decide))))))) (fun hc => ?_) (fun hc => ?_)) fun H1 e1 => q H1 e1
    · have h0 : b = 0 := by simpa using hc
      unfold rem
      rw [if_pos h0]
      exact ev_var rfl
    · have h0 : b ≠ 0 := by simpa using hc
      unfold rem
      rw [if_neg h0]
      exact ev_op (ev_var rfl) (ev_var rfl) (rv_I (show (0 : Int) < b by omega))
theorem rc_isIntB {H : Hp} {i : Int} : RC (rIsi K) [.int i, .ty "bool"] H (.bl false) := fun H1 _ _ q => ⟨.int i, .ty "bool", .type "int", .type "bool", false, rfl, .ty _, .base (.int _), kit_ty (by decide +kernel), q H1 (Ex.refl H1)⟩
theorem rc_isTup {H : Hp} {p : Addr} {xs : List V} (h : H p = some (.tup xs)) : RC (rIsi K) [.ref p, .ty "tuple"] H (.bl true) := fun H1 e _ q => ⟨.ref p, .ty "tuple", .type "tuple", .type "tuple", true, rfl, .ty _, .base (.tup (e _ _ h)), kit_ty (by decide +kernel), q H1 (Ex.refl H1)⟩
theorem rc_isLst {H : Hp} {p : Addr} {xs : List V} (h : H p = some (.lst xs)) : RC (rIsi K) [.ref p, .ty "list"] H (.bl true) := fun H1 e _ q => ⟨.ref p, .ty "list", .type "list", .type "list", true, rfl, .ty _, .base (.lst (e _ _ h)), kit_ty (by decide +kernel), q H1 (Ex.refl H1)⟩
theorem rc_isLstT {H : Hp} {p : Addr} {xs : List V} (h : H p = some (.tup xs)) : RC (rIsi K) [.ref p, .ty "list"] H (.bl false) := fun H1 e _ q => ⟨.ref p, .ty "list", .type "tuple", .type "list", false, rfl, .ty _, .base (.tup (e _ _ h)), kit_ty (by decide +kernel), q H1 (Ex.refl H1)⟩
def sp_law_is_integer : Sp := fun vs H Q _ => ∃ i : Int, vs = [.int i] ∧ RetV (.bl true) H Q
theorem ok_law_is_integer (T : Tx K mg w) : OkD P w K mg base 1 d_law_is_integer ps_law_is_integer sp_law_is_integer := by
  refine (h_law_is_integer T).ok sc_law_is_integer (fun vs H Q E h => ?_) (fun cdv A outer s H vs Q E hr h => ⟨_,
      (pss_one (ps_ret (pe_and (pe_callB call_isi (by rfl) (m_isinstance T) (by decide +kernel) (pa_cons (pv 0) (pa_cons (pe_bltn (v := .ty "int") (u := .type "int") (by rfl) (m_int T) (by decide +kernel) rfl) pa_nil))) (pe_one (pe_not (pe_callB call_isi (by rfl) (m_isinstance T) (by decide +kernel) (pa_cons (pv 0) (pa_cons (pe_bltn (v := .ty "bool") (u := .type "bool") (by rfl) (m_bool T) (by decide +kernel) rfl) pa_nil)))))))), ?_⟩)
  · obtain ⟨i, rfl, _⟩ := h
    rfl
  · obtain ⟨i, rfl, q⟩ := h
    exact s_ret (v := .bl (true && !false)) (ev_andV (ev_cb (ea_cons (by exact ev_var rfl) (ea_cons ev_c ea_nil)) rc_isInt) fun _ => ev_notV (ev_cb (ea_cons (by exact ev_var rfl) (ea_cons ev_c ea_nil)) rc_isIntB)) fun H1 e1 => q H1 e1
end
end K57
namespace K57
open PySem PySem.Spec PyProof.Rows L2 Lc Evl
section
variable {P : Program} {w : World} {K : PySem.W.Frag} {mg : Str → Option Value} {base : Heap}
/-! ### the draws -/
def sp_law_take : Sp := fun vs H Q _ => ∃ (b : Addr) (many : Int), vs = [.ref b, .int many] ∧ Bx H b ∧ 0 < many ∧ many.natAbs < 2 ^ 128 ∧ ∀ d H', 0 ≤ d → d < many → ExB b H H' → Bx H' b → Q (.int d) H'
theorem ok_law_take (T : Tx K mg w) : OkD P w K mg base 1 d_law_take ps_law_take sp_law_take := by
  refine (h_law_take T).ok sc_law_take (fun vs H Q E h => ?_) (fun cdv A outer s H vs Q E hr h => ⟨_,
      (pss_cons (ps_asg (pe_op op_add (pe_ix ix_list (pv 0) pe_int (fun _ _ => rfl)) pe_int) (pg_sub (pv 0) pe_int set_list))
      (pss_cons (ps_if (pt_cmpR op_gt (pe_ix ix_list (pv 0) pe_int (fun _ _ => rfl)) pe_int (nomark _)) (pss_cons (ps_set (i := 4) sc_law_take.nd rfl (Or.inl rfl) (pe_op op_mod (pe_callTy call_int1 (by rfl) (m_int T) (by decide +kernel) (pa_cons (pe_ix ix_list (pv 0) pe_int (fun _ _ => rfl)) pa_nil)) (pv 1)))
      (pss_cons (ps_asg (pe_op op_fdivW (pe_ix ix_list (pv 0) pe_int (fun _ _ => rfl)) (pv 1)) (pg_sub (pv 0) pe_int set_list))
      (pss_one (ps_ret (pv 4))))) pss_nil)
      (pss_cons (ps_set (i := 2) sc_law_take.nd rfl (Or.inl rfl) (pe_op op_mod (pe_callTy call_int1 (by rfl) (m_int T) (by decide +kernel) (pa_cons (pe_op op_add (pe_op op_add (pe_ix ix_list (pv 0) pe_int (fun _ _ => rfl)) (pe_op op_mul (pe_ix ix_list (pv 0) pe_int (fun _ _ => rfl)) pe_int)) pe_int) pa_nil)) pe_int))
      (pss_cons (ps_set (i := 2) sc_law_take.nd rfl (Or.inl rfl) (pe_op op_mod (pe_callTy call_int1 (by rfl) (m_int T) (by decide +kernel) (pa_cons (pe_op op_add (pe_op op_add (pe_op op_mul (pv 2) (pv 2)) (pe_op op_fdivW (pe_ix ix_list (pv 0) pe_int (fun _ _ => rfl)) pe_int)) (pe_op op_mul (pe_ix ix_list (pv 0) pe_int (fun _ _ => rfl)) pe_int)) pa_nil)) pe_int))
      (pss_cons (ps_set (i := 3) sc_law_take.nd rfl (Or.inl rfl) (pe_op op_mod (pe_callTy call_int1 (by rfl) (m_int T) (by decide +kernel) (pa_cons (pe_op op_add (pe_op op_add (pe_op op_mul (pv 2) pe_int) (pe_op op_fdivW (pv 2) pe_int)) (pe_op op_mul (pe_ix ix_list (pv 0) pe_int (fun _ _ => rfl)) pe_int)) pa_nil)) pe_int))
      (pss_cons (ps_set (i := 3) sc_law_take.nd rfl (Or.inl rfl) (pe_op op_mod (pe_callTy call_int1 (by rfl) (m_int T) (by decide +kernel) (pa_cons (pe_op op_add (pe_op op_mul (pv 3) (pv 3)) (pv 2)) pa_nil)) pe_int))
      (pss_one (ps_ret (pe_op op_mod (pe_callTy call_int1 (by rfl) (m_int T) (by decide +kernel) (pa_cons (pe_op op_fdivW (pv 3) pe_int) pa_nil)) (pv 1)))))))))), ?_⟩)
  · obtain ⟨b, many, rfl, _⟩ := h
    rfl
  · obtain ⟨b, many, rfl, ⟨i, j, k, hb⟩, hm, hm2, q⟩ := h
    have hs := SqL.of (K := K) hb
    refine q_setL (j := 2) hb (by repeat' (first | ((with_reducible refine ev_pow10 ?_ ?_ ?_) <;> first | rfl | decide) | (with_reducible refine fun (_ : _ = true) => ?_) | (with_reducible refine fun (_ : _ = false) => ?_) | (with_reducible exact ev_c) | ((with_reducible apply ev_var); rfl) | (with_reducible apply ev_op) | (with_reducible apply ev_un) | (with_reducible apply ev_cb) | (with_reducible apply ea_cons) | (with_reducible apply ev_andV) | (with_reducible apply ev_orV) | (with_reducible apply ev_notV) | (with_reducible apply ev_if) | (with_reducible apply eo_some) | (with_reducible apply el_lst) | (with_reducible exact ea_nil) | (with_reducible exact rv_I0) | (with_reducible exact ru_neg) | (with_reducible exact rv_ltS) | (with_reducible exact rv_inC) | (with_reducible exact rv_notInC) | (with_reducible exact rc_intI) | (with_reducible exact rc_intB) | (with_reducible exact rc_min2) | (with_reducible exact rc_isStr) | (with_reducible exact eo_none) | (with_reducible exact rv_inSS) | (with_reducible exact rv_notInSS) | (with_reducible exact rv_ltSS) | (with_reducible exact rv_eqSS) | (with_reducible exact rv_eqII) | (with_reducible exact rv_neII) | (with_reducible exact rv_neSS) | ((with_reducible refine rc_lenSS ?_); (first | assumption | omega | decide | (simp only [S_len] at *; omega))) | ((with_reducible refine rc_lenStr ?_); (first | assumption | omega | decide | (simp only [S_len] at *; omega))) | ((with_reducible refine rv_catSS ?_); (first | assumption | omega | decide | (simp only [S_len] at *; omega))) | (with_reducible exact rv_eq rfl) | (with_reducible exact rv_ne rfl) | ((with_reducible refine rc_lenS ?_); (first | assumption | omega | decide | (simp only [S_len] at *; omega))) | ((with_reducible refine rc_lenL ?_); assumption) | ((with_reducible apply rv_ixL); assumption; rfl) | ((with_reducible refine rv_catS ?_); (first | assumption | omega | decide | (simp only [S_len] at *; omega))) | ((with_reducible refine rv_I ?_); (first | (show (0 : Int) < _; (first | assumption | omega | decide | (simp only [S_len] at *; omega))) | exact .inr ⟨by decide, by decide⟩ | exact .inl ⟨by (first | assumption | omega | decide | (simp only [S_len] at *; omega)), by (first | assumption | omega | decide | (simp only [S_len] at *; omega))⟩ | exact .inr ⟨by (first | assumption | omega | decide | (simp only [S_len] at *; omega)), by (first | assumption | omega | decide | (simp only [S_len] at *; omega))⟩ | exact ⟨by decide, by decide, by decide⟩ | exact wide_div (b := 128) (by (first | assumption | omega | decide | (simp only [S_len] at *; omega))) (by (first | assumption | omega | decide | (simp only [S_len] at *; omega))) (by decide) (by decide))))) (by repeat' (first | ((with_reducible refine ev_pow10 ?_ ?_ ?_) <;> first | rfl | decide) | (with_reducible refine fun (_ : _ = true) => ?_) | (with_reducible refine fun (_ : _ = false) => ?_) | (with_reducible exact ev_c) | ((with_reducible apply ev_var); rfl) | (with_reducible apply ev_op) | (with_reducible apply ev_un) | (with_reducible apply ev_cb) | (with_reducible apply ea_cons) | (with_reducible apply ev_andV) | (with_reducible apply ev_orV) | (with_reducible apply ev_notV) | (with_reducible apply ev_if) | (with_reducible apply eo_some) | (with_reducible apply el_lst) | (with_reducible exact ea_nil) | (with_reducible exact rv_I0) | (with_reducible exact ru_neg) | (with_reducible exact rv_ltS) | (with_reducible exact rv_inC) | (with_reducible exact rv_notInC) | (with_reducible exact rc_intI) | (with_reducible exact rc_intB) | (with_reducible exact rc_min2) | (with_reducible exact rc_isStr) | (with_reducible exact eo_none) | (with_reducible exact rv_inSS) | (with_reducible exact rv_notInSS) | (with_reducible exact rv_ltSS) | (with_reducible exact rv_eqSS) | (with_reducible exact rv_eqII) | (with_reducible exact rv_neII) | (with_reducible exact rv_neSS) | ((with_reducible refine rc_lenSS ?_); (first | assumption | omega | decide | (simp only [S_len] at *; omega))) | ((with_reducible refine rc_lenStr ?_); (first | assumption | omega | decide | (simp only [S_len] at *; omega))) | ((with_reducible refine rv_catSS ?_); (first | assumption | omega | decide | (simp only [S_len] at *; omega))) | (with_reducible exact rv_eq rfl) | (with_reducible exact rv_ne rfl) | ((with_reducible refine rc_lenS ?_); (first | assumption | omega | decide | (simp only [S_len] at *; omega))) | ((with_reducible refine rc_lenL ?_); assumption) | ((with_reducible apply rv_ixL); assumption; rfl) | ((with_reducible refine rv_catS ?_); (first | assumption | omega | decide | (simp only [S_len] at *; omega))) | ((with_reducible refine rv_I ?_); (first | (show (0 : Int) < _; (first | assumption | omega | decide | (simp only [S_len] at *; omega))) | exact .inr ⟨by decide, by decide⟩ | exact .inl ⟨by (first | assumption | omega | decide | (simp only [S_len] at *; omega)), by (first | assumption | omega | decide | (simp only [S_len] at *; omega))⟩ | exact .inr ⟨by (first | assumption | omega | decide | (simp only [S_len] at *; omega)), by (first | assumption | omega | decide | (simp only [S_len] at *; omega))⟩ | exact ⟨by decide, by decide, by decide⟩ | exact wide_div (b := 128) (by (first | assumption | omega | decide | (simp only [S_len] at *; omega))) (by (first | assumption | omega | decide | (simp only [S_len] at *; omega))) (by decide) (by decide))))) ev_c (by simp) fun H1 e1 => ?_
    have h1 : upd H1 b (.lst (List.set [V.int i, V.int j, V.int k] 2 (V.int (k + 1)))) b = some (.lst [V.int i, V.int j, V.int (k + 1)]) := upd_same
    have x1 : ExB b H (upd H1 b (.lst (List.set [V.int i, V.int j, V.int k] 2 (V.int (k + 1))))) := (ExB.of e1).trans ExB.upd
    generalize upd H1 b (.lst (List.set [V.int i, V.int j, V.int k] 2 (V.int (k + 1)))) = G1 at h1 x1 ⊢
    generalize k + 1 = c at h1
    have hs1 := SqL.of (K := K) h1
    refine q_when (by first | ((with_reducible apply et_test); (repeat' (first | ((with_reducible refine ev_pow10 ?_ ?_ ?_) <;> first | rfl | decide) | (with_reducible refine fun (_ : _ = true) => ?_) | (with_reducible refine fun (_ : _ = false) => ?_) | (with_reducible exact ev_c) | ((with_reducible apply ev_var); rfl) | (with_reducible apply ev_op) | (with_reducible apply ev_un) | (with_reducible apply ev_cb) | (with_reducible apply ea_cons) | (with_reducible apply ev_andV) | (with_reducible apply ev_orV) | (with_reducible apply ev_notV) | (with_reducible apply ev_if) | (with_reducible apply eo_some) | (with_reducible apply el_lst) | (with_reducible exact ea_nil) | (with_reducible exact rv_I0) | (with_reducible exact ru_neg) | (with_reducible exact rv_ltS) | (with_reducible exact rv_inC) | (with_reducible exact rv_notInC) | (with_reducible exact rc_intI) | (with_reducible exact rc_intB) | (with_reducible exact rc_min2) | (with_reducible exact rc_isStr) | (with_reducible exact eo_none) | (with_reducible exact rv_inSS) | (with_reducible exact rv_notInSS) | (with_reducible exact rv_ltSS) | (with_reducible exact rv_eqSS) | (with_reducible exact rv_eqII) | (with_reducible exact rv_neII) | (with_reducible exact rv_neSS) | ((with_reducible refine rc_lenSS ?_); (first | assumption | omega | decide | (simp only [S_len] at *; omega))) | ((with_reducible refine rc_lenStr ?_); (first | assumption | omega | decide | (simp only [S_len] at *; omega))) | ((with_reducible refine rv_catSS ?_); (first | assumption | omega | decide | (simp only [S_len] at *; omega))) | (with_reducible exact rv_eq rfl) | (with_reducible exact rv_ne rfl) | ((with_reducible refine rc_lenS ?_); (first | assumption | omega | decide | (simp only [S_len] at *; omega))) | ((with_reducible refine rc_lenL ?_); assumption) | ((with_reducible apply rv_ixL); assumption; rfl) | ((with_reducible refine rv_catS ?_); (first | assumption | omega | decide | (simp only [S_len] at *; omega))) | ((with_reducible refine rv_I ?_); (first | (show (0 : Int) < _; (first | assumption | omega | decide | (simp only [S_len] at *; omega))) | exact .inr ⟨by decide, by decide⟩ | exact .inl ⟨by (first | assumption | omega | decide | (simp only [S_len] at *; omega)), by (first | assumption | omega | decide | (simp only [S_len] at *; omega))⟩ | exact .inr ⟨by (first | assumption | omega | decide | (simp only [S_len] at *; omega)), by (first | assumption | omega | decide | (simp only [S_len] at *; omega))⟩ | exact ⟨by decide, by decide, by decide⟩ | exact wide_div (b := 128) (by (first | assumption | omega | decide | (simp only [S_len] at *; omega))) (by (first | assumption | omega | decide | (simp only [S_len] at *; omega))) (by decide) (by decide)))))) | ((with_reducible apply et_B); (repeat' (first | ((with_reducible refine ev_pow10 ?_ ?_ ?_) <;> first | rfl | decide) | (with_reducible refine fun (_ : _ = true) => ?_) | (with_reducible refine fun (_ : _ = false) => ?_) | (with_reducible exact ev_c) | ((with_reducible apply ev_var); rfl) | (with_reducible apply ev_op) | (with_reducible apply ev_un) | (with_reducible apply ev_cb) | (with_reducible apply ea_cons) | (with_reducible apply ev_andV) | (with_reducible apply ev_orV) | (with_reducible apply ev_notV) | (with_reducible apply ev_if) | (with_reducible apply eo_some) | (with_reducible apply el_lst) | (with_reducible exact ea_nil) | (with_reducible exact rv_I0) | (with_reducible exact ru_neg) | (with_reducible exact rv_ltS) | (with_reducible exact rv_inC) | (with_reducible exact rv_notInC) | (with_reducible exact rc_intI) | (with_reducible exact rc_intB) | (with_reducible exact rc_min2) | (with_reducible exact rc_isStr) | (with_reducible exact eo_none) | (with_reducible exact rv_inSS) | (with_reducible exact rv_notInSS) | (with_reducible exact rv_ltSS) | (with_reducible exact rv_eqSS) | (with_reducible exact rv_eqII) | (with_reducible exact rv_neII) | (with_reducible exact rv_neSS) | ((with_reducible refine rc_lenSS ?_); (first | assumption | omega | decide | (simp only [S_len] at *; omega))) | ((with_reducible refine rc_lenStr ?_); (first | assumption | omega | decide | (simp only [S_len] at *; omega))) | ((with_reducible refine rv_catSS ?_); (first | assumption | omega | decide | (simp only [S_len] at *; omega))) | (with_reducible exact rv_eq rfl) | (with_reducible exact rv_ne rfl) | ((with_reducible refine rc_lenS ?_); (first | assumption | omega | decide | (simp only [S_len] at *; omega))) | ((with_reducible refine rc_lenL ?_); assumption) | ((with_reducible apply rv_ixL); assumption; rfl) | ((with_reducible refine rv_catS ?_); (first | assumption | omega | decide | (simp only [S_len] at *; omega))) | ((with_reducible refine rv_I ?_); (first | (show (0 : Int) < _; (first | assumption | omega | decide | (simp only [S_len] at *; omega))) | exact .inr ⟨by decide, by decide⟩ | exact .inl ⟨by (first | assumption | omega | decide | (simp only [S_len] at *; omega)), by (first | assumption | omega | decide | (simp only [S_len] at *; omega))⟩ | exact .inr ⟨by (first | assumption | omega | decide | (simp only [S_len] at *; omega)), by (first | assumption | omega | decide | (simp only [S_len] at *; omega))⟩ | exact ⟨by decide, by decide, by decide⟩ | exact wide_div (b := 128) (by (first | assumption | omega | decide | (simp only [S_len] at *; omega))) (by (first | assumption | omega | decide | (simp only [S_len] at *; omega))) (by decide) (by decide))))))) (fun hc H2 e2 => ?_) (fun hc H2 e2 => ?_)
    · have hs2 := SqL.of (K := K) (e2 _ _ h1)
      refine q_asg (by repeat' (first | ((with_reducible refine ev_pow10 ?_ ?_ ?_) <;> first | rfl | decide) | (with_reducible refine fun (_ : _ = true) => ?_) | (with_reducible refine fun (_ : _ = false) => ?_) | (with_reducible exact ev_c) | ((with_reducible apply ev_var); rfl) | (with_reducible apply ev_op) | (with_reducible apply ev_un) | (with_reducible apply ev_cb) | (with_reducible apply ea_cons) | (with_reducible apply ev_andV) | (with_reducible apply ev_orV) | (with_reducible apply ev_notV) | (with_reducible apply ev_if) | (with_reducible apply eo_some) | (with_reducible apply el_lst) | (with_reducible exact ea_nil) | (with_reducible exact rv_I0) | (with_reducible exact ru_neg) | (with_reducible exact rv_ltS) | (with_reducible exact rv_inC) | (with_reducible exact rv_notInC) | (with_reducible exact rc_intI) | (with_reducible exact rc_intB) | (with_reducible exact rc_min2) | (with_reducible exact rc_isStr) | (with_reducible exact eo_none) | (with_reducible exact rv_inSS) | (with_reducible exact rv_notInSS) | (with_reducible exact rv_ltSS) | (with_reducible exact rv_eqSS) | (with_reducible exact rv_eqII) | (with_reducible exact rv_neII) | (with_reducible exact rv_neSS) | ((with_reducible refine rc_lenSS ?_); (first | assumption | omega | decide | (simp only [S_len] at *; omega))) | ((with_reducible refine rc_lenStr ?_); (first | assumption | omega | decide | (simp only [S_len] at *; omega))) | ((with_reducible refine rv_catSS ?_); (first | assumption | omega | decide | (simp only [S_len] at *; omega))) | (with_reducible exact rv_eq rfl) | (with_reducible exact rv_ne rfl) | ((with_reducible refine rc_lenS ?_); (first | assumption | omega | decide | (simp only [S_len] at *; omega))) | ((with_reducible refine rc_lenL ?_); assumption) | ((with_reducible apply rv_ixL); assumption; rfl) | ((with_reducible refine rv_catS ?_); (first | assumption | omega | decide | (simp only [S_len] at *; omega))) | ((with_reducible refine rv_I ?_); (first | (show (0 : Int) < _; (first | assumption | omega | decide | (simp only [S_len] at *; omega))) | exact .inr ⟨by decide, by decide⟩ | exact .inl ⟨by (first | assumption | omega | decide | (simp only [S_len] at *; omega)), by (first | assumption | omega | decide | (simp only [S_len] at *; omega))⟩ | exact .inr ⟨by (first | assumption | omega | decide | (simp only [S_len] at *; omega)), by (first | assumption | omega | decide | (simp only [S_len] at *; omega))⟩ | exact ⟨by decide, by decide, by decide⟩ | exact wide_div (b := 128) (by (first | assumption | omega | decide | (simp only [S_len] at *; omega))) (by (first | assumption | omega | decide | (simp only [S_len] at *; omega))) (by decide) (by decide))))) fun H3 e3 => ?_
      have hs3 := SqL.of (K := K) (e3 _ _ (e2 _ _ h1))
      refine q_setL (j := 0) (e3 _ _ (e2 _ _ h1)) (by repeat' (first | ((with_reducible refine ev_pow10 ?_ ?_ ?_) <;> first | rfl | decide) | (with_reducible refine fun (_ : _ = true) => ?_) | (with_reducible refine fun (_ : _ = false) => ?_) | (with_reducible exact ev_c) | ((with_reducible apply ev_var); rfl) | (with_reducible apply ev_op) | (with_reducible apply ev_un) | (with_reducible apply ev_cb) | (with_reducible apply ea_cons) | (with_reducible apply ev_andV) | (with_reducible apply ev_orV) | (with_reducible apply ev_notV) | (with_reducible apply ev_if) | (with_reducible apply eo_some) | (with_reducible apply el_lst) | (with_reducible exact ea_nil) | (with_reducible exact rv_I0) | (with_reducible exact ru_neg) | (with_reducible exact rv_ltS) | (with_reducible exact rv_inC) | (with_reducible exact rv_notInC) | (with_reducible exact rc_intI) | (with_reducible exact rc_intB) | (with_reducible exact rc_min2) | (with_reducible exact rc_isStr) | (with_reducible exact eo_none) | (with_reducible exact rv_inSS) | (with_reducible exact rv_notInSS) | (with_reducible exact rv_ltSS) | (with_reducible exact rv_eqSS) | (with_reducible exact rv_eqII) | (with_reducible exact rv_neII) | (with_reducible exact rv_neSS) | ((with_reducible refine rc_lenSS ?_); (first | assumption | omega | decide | (simp only [S_len] at *; omega))) | ((with_reducible refine rc_lenStr ?_); (first | assumption | omega | decide | (simp only [S_len] at *; omega))) | ((with_reducible refine rv_catSS ?_); (first | assumption | omega | decide | (simp only [S_len] at *; omega))) | (with_reducible exact rv_eq rfl) | (with_reducible exact rv_ne rfl) | ((with_reducible refine rc_lenS ?_); (first | assumption | omega | decide | (simp only [S_len] at *; omega))) | ((with_reducible refine rc_lenL ?_); assumption) | ((with_reducible apply rv_ixL); assumption; rfl) | ((with_reducible refine rv_catS ?_); (first | assumption | omega | decide | (simp only [S_len] at *; omega))) | ((with_reducible refine rv_I ?_); (first | (show (0 : Int) < _; (first | assumption | omega | decide | (simp only [S_len] at *; omega))) | exact .inr ⟨by decide, by decide⟩ | exact .inl ⟨by (first | assumption | omega | decide | (simp only [S_len] at *; omega)), by (first | assumption | omega | decide | (simp only [S_len] at *; omega))⟩ | exact .inr ⟨by (first | assumption | omega | decide | (simp only [S_len] at *; omega)), by (first | assumption | omega | decide | (simp only [S_len] at *; omega))⟩ | exact ⟨by decide, by decide, by decide⟩ | exact wide_div (b := 128) (by (first | assumption | omega | decide | (simp only [S_len] at *; omega))) (by (first | assumption | omega | decide | (simp only [S_len] at *; omega))) (by decide) (by decide))))) (by repeat' (first | ((with_reducible refine ev_pow10 ?_ ?_ ?_) <;> first | rfl | decide) | (with_reducible refine fun (_ : _ = true) => ?_) | (with_reducible refine fun (_ : _ = false) => ?_) | (with_reducible exact ev_c) | ((with_reducible apply ev_var); rfl) | (with_reducible apply ev_op) | (with_reducible apply ev_un) | (with_reducible apply ev_cb) | (with_reducible apply ea_cons) | (with_reducible apply ev_andV) | (with_reducible apply ev_orV) | (with_reducible apply ev_notV) | (with_reducible apply ev_if) | (with_reducible apply eo_some) | (with_reducible apply el_lst) | (with_reducible exact ea_nil) | (with_reducible exact rv_I0) | (with_reducible exact ru_neg) | (with_reducible exact rv_ltS) | (with_reducible exact rv_inC) | (with_reducible exact rv_notInC) | (with_reducible exact rc_intI) | (with_reducible exact rc_intB) | (with_reducible exact rc_min2) | (with_reducible exact rc_isStr) | (with_reducible exact eo_none) | (with_reducible exact rv_inSS) | (with_reducible exact rv_notInSS) | (with_reducible exact rv_ltSS) | (with_reducible exact rv_eqSS) | (with_reducible exact rv_eqII) | (with_reducible exact rv_neII) | (with_reducible exact rv_neSS) | ((with_reducible refine rc_lenSS ?_); (first | assumption | omega | decide | (simp only [S_len] at *; omega))) | ((with_reducible refine rc_lenStr ?_); (first | assumption | omega | decide | (simp only [S_len] at *; omega))) | ((with_reducible refine rv_catSS ?_); (first | assumption | omega | decide | (simp only [S_len] at *; omega))) | (with_reducible exact rv_eq rfl) | (with_reducible exact rv_ne rfl) | ((with_reducible refine rc_lenS ?_); (first | assumption | omega | decide | (simp only [S_len] at *; omega))) | ((with_reducible refine rc_lenL ?_); assumption) | ((with_reducible apply rv_ixL); assumption; rfl) | ((with_reducible refine rv_catS ?_); (first | assumption | omega | decide | (simp only [S_len] at *; omega))) | ((with_reducible refine rv_I ?_); (first | (show (0 : Int) < _; (first | assumption | omega | decide | (simp only [S_len] at *; omega))) | exact .inr ⟨by decide, by decide⟩ | exact .inl ⟨by (first | assumption | omega | decide | (simp only [S_len] at *; omega)), by (first | assumption | omega | decide | (simp only [S_len] at *; omega))⟩ | exact .inr ⟨by (first | assumption | omega | decide | (simp only [S_len] at *; omega)), by (first | assumption | omega | decide | (simp only [S_len] at *; omega))⟩ | exact ⟨by decide, by decide, by decide⟩ | exact wide_div (b := 128) (by (first | assumption | omega | decide | (simp only [S_len] at *; omega))) (by (first | assumption | omega | decide | (simp only [S_len] at *; omega))) (by decide) (by decide))))) ev_c (by simp) fun H4 e4 => ?_
      refine s_ret (by repeat' (first | ((with_reducible refine ev_pow10 ?_ ?_ ?_) <;> first | rfl | decide) | (with_reducible refine fun (_ : _ = true) => ?_) | (with_reducible refine fun (_ : _ = false) => ?_) | (with_reducible exact ev_c) | ((with_reducible apply ev_var); rfl) | (with_reducible apply ev_op) | (with_reducible apply ev_un) | (with_reducible apply ev_cb) | (with_reducible apply ea_cons) | (with_reducible apply ev_andV) | (with_reducible apply ev_orV) | (with_reducible apply ev_notV) | (with_reducible apply ev_if) | (with_reducible apply eo_some) | (with_reducible apply el_lst) | (with_reducible exact ea_nil) | (with_reducible exact rv_I0) | (with_reducible exact ru_neg) | (with_reducible exact rv_ltS) | (with_reducible exact rv_inC) | (with_reducible exact rv_notInC) | (with_reducible exact rc_intI) | (with_reducible exact rc_intB) | (with_reducible exact rc_min2) | (with_reducible exact rc_isStr) | (with_reducible exact eo_none) | (with_reducible exact rv_inSS) | (with_reducible exact rv_notInSS) | (with_reducible exact rv_ltSS) | (with_reducible exact rv_eqSS) | (with_reducible exact rv_eqII) | (with_reducible exact rv_neII) | (with_reducible exact rv_neSS) | ((with_reducible refine rc_lenSS ?_); (first | assumption | omega | decide | (simp only [S_len] at *; omega))) | ((with_reducible refine rc_lenStr ?_); (first | assumption | omega | decide | (simp only [S_len] at *; omega))) | ((with_reducible refine rv_catSS ?_); (first | assumption | omega | decide | (simp only [S_len] at *; omega))) | (with_reducible exact rv_eq rfl) | (with_reducible exact rv_ne rfl) | ((with_reducible refine rc_lenS ?_); (first | assumption | omega | decide | (simp only [S_len] at *; omega))) | ((with_reducible refine rc_lenL ?_); assumption) | ((with_reducible apply rv_ixL); assumption; rfl) | ((with_reducible refine rv_catS ?_); (first | assumption | omega | decide | (simp only [S_len] at *; omega))) | ((with_reducible refine rv_I ?_); (first | (show (0 : Int) < _; (first | assumption | omega | decide | (simp only [S_len] at *; omega))) | exact .inr ⟨by decide, by decide⟩ | exact .inl ⟨by (first | assumption | omega | decide | (simp only [S_len] at *; omega)), by (first | assumption | omega | decide | (simp only [S_len] at *; omega))⟩ | exact .inr ⟨by (first | assumption | omega | decide | (simp only [S_len] at *; omega)), by (first | assumption | omega | decide | (simp only [S_len] at *; omega))⟩ | exact ⟨by decide, by decide, by decide⟩ | exact wide_div (b := 128) (by (first | assumption | omega | decide | (simp only [S_len] at *; omega))) (by (first | assumption | omega | decide | (simp only [S_len] at *; omega))) (by decide) (by decide))))) fun H5 e5 => ?_
      refine q _ _ (Int.emod_nonneg _ (by omega)) (Int.emod_lt_of_pos _ hm) ?_ ?_
      · exact ((x1.trans (ExB.of ((e2.trans e3).trans e4))).trans ExB.upd).trans (ExB.of e5)
      · exact Bx.ex Bx.put e5
    · have h2 := e2 _ _ h1
      have hs2 := SqL.of (K := K) h2
      refine q_asg (by repeat' (first | ((with_reducible refine ev_pow10 ?_ ?_ ?_) <;> first | rfl | decide) | (with_reducible refine fun (_ : _ = true) => ?_) | (with_reducible refine fun (_ : _ = false) => ?_) | (with_reducible exact ev_c) | ((with_reducible apply ev_var); rfl) | (with_reducible apply ev_op) | (with_reducible apply ev_un) | (with_reducible apply ev_cb) | (with_reducible apply ea_cons) | (with_reducible apply ev_andV) | (with_reducible apply ev_orV) | (with_reducible apply ev_notV) | (with_reducible apply ev_if) | (with_reducible apply eo_some) | (with_reducible apply el_lst) | (with_reducible exact ea_nil) | (with_reducible exact rv_I0) | (with_reducible exact ru_neg) | (with_reducible exact rv_ltS) | (with_reducible exact rv_inC) | (with_reducible exact rv_notInC) | (with_reducible exact rc_intI) | (with_reducible exact rc_intB) | (with_reducible exact rc_min2) | (with_reducible exact rc_isStr) | (with_reducible exact eo_none) | (with_reducible exact rv_inSS) | (with_reducible exact rv_notInSS) | (with_reducible exact rv_ltSS) | (with_reducible exact rv_eqSS) | (with_reducible exact rv_eqII) | (with_reducible exact rv_neII) | (with_reducible exact rv_neSS) | ((with_reducible refine rc_lenSS ?_); (first | assumption | omega | decide | (simp only [S_len] at *; omega))) | ((with_reducible refine rc_lenStr ?_); (first | assumption | omega | decide | (simp only [S_len] at *; omega))) | ((with_reducible refine rv_catSS ?_); (first | assumption | omega | decide | (simp only [S_len] at *; omega))) | (with_reducible exact rv_eq rfl) | (with_reducible exact rv_ne rfl) | ((with_reducible refine rc_lenS ?_); (first | assumption | omega | decide | (simp only [S_len] at *; omega))) | ((with_reducible refine rc_lenL ?_); assumption) | ((with_reducible apply rv_ixL); assumption; rfl) | ((with_reducible refine rv_catS ?_); (first | assumption | omega | decide | (simp only [S_len] at *; omega))) | ((with_reducible refine rv_I ?_); (first | (show (0 : Int) < _; (first | assumption | omega | decide | (simp only [S_len] at *; omega))) | exact .inr ⟨by decide, by decide⟩ | exact .inl ⟨by (first | assumption | omega | decide | (simp only [S_len] at *; omega)), by (first | assumption | omega | decide | (simp only [S_len] at *; omega))⟩ | exact .inr ⟨by (first | assumption | omega | decide | (simp only [S_len] at *; omega)), by (first | assumption | omega | decide | (simp only [S_len] at *; omega))⟩ | exact ⟨by decide, by decide, by decide⟩ | exact wide_div (b := 128) (by (first | assumption | omega | decide | (simp only [S_len] at *; omega))) (by (first | assumption | omega | decide | (simp only [S_len] at *; omega))) (by decide) (by decide))))) fun H3 e3 => ?_
      have hs3 := SqL.of (K := K) (e3 _ _ h2)
      have b1 := Int.emod_nonneg (j + c * 48271 + 11) (show (2147483629 : Int) ≠ 0 by decide)
      have b2 := Int.emod_lt_of_pos (j + c * 48271 + 11) (show (0 : Int) < 2147483629 by decide)
      generalize (j + c * 48271 + 11) % 2147483629 = m1 at b1 b2 ⊢
      refine q_asg (v := .int ((m1 * m1 + j / 3 + c * 69621) % 2147483587)) (by repeat' (first | ((with_reducible refine ev_pow10 ?_ ?_ ?_) <;> first | rfl | decide) | (with_reducible refine fun (_ : _ = true) => ?_) | (with_reducible refine fun (_ : _ = false) => ?_) | (with_reducible exact ev_c) | ((with_reducible apply ev_var); rfl) | (with_reducible apply ev_op) | (with_reducible apply ev_un) | (with_reducible apply ev_cb) | (with_reducible apply ea_cons) | (with_reducible apply ev_andV) | (with_reducible apply ev_orV) | (with_reducible apply ev_notV) | (with_reducible apply ev_if) | (with_reducible apply eo_some) | (with_reducible apply el_lst) | (with_reducible exact ea_nil) | (with_reducible exact rv_I0) | (with_reducible exact ru_neg) | (with_reducible exact rv_ltS) | (with_reducible exact rv_inC) | (with_reducible exact rv_notInC) | (with_reducible exact rc_intI) | (with_reducible exact rc_intB) | (with_reducible exact rc_min2) | (with_reducible exact rc_isStr) | (with_reducible exact eo_none) | (with_reducible exact rv_inSS) | (with_reducible exact rv_notInSS) | (with_reducible exact rv_ltSS) | (with_reducible exact rv_eqSS) | (with_reducible exact rv_eqII) | (with_reducible exact rv_neII) | (with_reducible exact rv_neSS) | ((with_reducible refine rc_lenSS ?_); (first | assumption | omega | decide | (simp only [S_len] at *; omega))) | ((with_reducible refine rc_lenStr ?_); (first | assumption | omega | decide | (simp only [S_len] at *; omega))) | ((with_reducible refine rv_catSS ?_); (first | assumption | omega | decide | (simp only [S_len] at *; omega))) | (with_reducible exact rv_eq rfl) | (with_reducible exact rv_ne rfl) | ((with_reducible refine rc_lenS ?_); (first | assumption | omega | decide | (simp only [S_len] at *; omega))) | ((with_reducible refine rc_lenL ?_); assumption) | ((with_reducible apply rv_ixL); assumption; rfl) | ((with_reducible refine rv_catS ?_); (first | assumption | omega | decide | (simp only [S_len] at *; omega))) | ((with_reducible refine rv_I ?_); (first | (show (0 : Int) < _; (first | assumption | omega | decide | (simp only [S_len] at *; omega))) | exact .inr ⟨by decide, by decide⟩ | exact .inl ⟨by (first | assumption | omega | decide | (simp only [S_len] at *; omega)), by (first | assumption | omega | decide | (simp only [S_len] at *; omega))⟩ | exact .inr ⟨by (first | assumption | omega | decide | (simp only [S_len] at *; omega)), by (first | assumption | omega | decide | (simp only [S_len] at *; omega))⟩ | exact ⟨by decide, by decide, by decide⟩ | exact wide_div (b := 128) (by (first | assumption | omega | decide | (simp only [S_len] at *; omega))) (by (first | assumption | omega | decide | (simp only [S_len] at *; omega))) (by decide) (by decide))))) fun H4 e4 => ?_
      have hs4 := SqL.of (K := K) (e4 _ _ (e3 _ _ h2))
      have c1 := Int.emod_nonneg (m1 * m1 + j / 3 + c * 69621) (show (2147483587 : Int) ≠ 0 by decide)
      have c2 := Int.emod_lt_of_pos (m1 * m1 + j / 3 + c * 69621) (show (0 : Int) < 2147483587 by decide)
      generalize (m1 * m1 + j / 3 + c * 69621) % 2147483587 = m2 at c1 c2 ⊢
      refine q_asg (v := .int ((m2 * 40692 + m2 / 1013 + c * 7919) % 2147483563)) (by repeat' (first | ((with_reducible refine ev_pow10 ?_ ?_ ?_) <;> first | rfl | decide) | (with_reducible refine fun (_ : _ = true) => ?_) | (with_reducible refine fun (_ : _ = false) => ?_) | (with_reducible exact ev_c) | ((with_reducible apply ev_var); rfl) | (with_reducible apply ev_op) | (with_reducible apply ev_un) | (with_reducible apply ev_cb) | (with_reducible apply ea_cons) | (with_reducible apply ev_andV) | (with_reducible apply ev_orV) | (with_reducible apply ev_notV) | (with_reducible apply ev_if) | (with_reducible apply eo_some) | (with_reducible apply el_lst) | (with_reducible exact ea_nil) | (with_reducible exact rv_I0) | (with_reducible exact ru_neg) | (with_reducible exact rv_ltS) | (with_reducible exact rv_inC) | (with_reducible exact rv_notInC) | (with_reducible exact rc_intI) | (with_reducible exact rc_intB) | (with_reducible exact rc_min2) | (with_reducible exact rc_isStr) | (with_reducible exact eo_none) | (with_reducible exact rv_inSS) | (with_reducible exact rv_notInSS) | (with_reducible exact rv_ltSS) | (with_reducible exact rv_eqSS) | (with_reducible exact rv_eqII) | (with_reducible exact rv_neII) | (with_reducible exact rv_neSS) | ((with_reducible refine rc_lenSS ?_); (first | assumption | omega | decide | (simp only [S_len] at *; omega))) | ((with_reducible refine rc_lenStr ?_); (first | assumption | omega | decide | (simp only [S_len] at *; omega))) | ((with_reducible refine rv_catSS ?_); (first | assumption | omega | decide | (simp only [S_len] at *; omega))) | (with_reducible exact rv_eq rfl) | (with_reducible exact rv_ne rfl) | ((with_reducible refine rc_lenS ?_); (first | assumption | omega | decide | (simp only [S_len] at *; omega))) | ((with_reducible refine rc_lenL ?_); assumption) | ((with_reducible apply rv_ixL); assumption; rfl) | ((with_reducible refine rv_catS ?_); (first | assumption | omega | decide | (simp only [S_len] at *; omega))) | ((with_reducible refine rv_I ?_); (first | (show (0 : Int) < _; (first | assumption | omega | decide | (simp only [S_len] at *; omega))) | exact .inr ⟨by decide, by decide⟩ | exact .inl ⟨by (first | assumption | omega | decide | (simp only [S_len] at *; omega)), by (first | assumption | omega | decide | (simp only [S_len] at *; omega))⟩ | exact .inr ⟨by (first | assumption | omega | decide | (simp only [S_len] at *; omega)), by (first | assumption | omega | decide | (simp only [S_len] at *; omega))⟩ | exact ⟨by decide, by decide, by decide⟩ | exact wide_div (b := 128) (by (first | assumption | omega | decide | (simp only [S_len] at *; omega))) (by (first | assumption | omega | decide | (simp only [S_len] at *; omega))) (by decide) (by decide))))) fun H5 e5 => ?_
      have d1 := Int.emod_nonneg (m2 * 40692 + m2 / 1013 + c * 7919) (show (2147483563 : Int) ≠ 0 by decide)
      have d2 := Int.emod_lt_of_pos (m2 * 40692 + m2 / 1013 + c * 7919) (show (0 : Int) < 2147483563 by decide)
      generalize (m2 * 40692 + m2 / 1013 + c * 7919) % 2147483563 = m3 at d1 d2 ⊢
      refine q_asg (v := .int ((m3 * m3 + m2) % 2147483543)) (by repeat' (first | ((with_reducible refine ev_pow10 ?_ ?_ ?_) <;> first | rfl | decide) | (with_reducible refine fun (_ : _ = true) => ?_) | (with_reducible refine fun (_ : _ = false) => ?_) | (with_reducible exact ev_c) | ((with_reducible apply ev_var); rfl) | (with_reducible apply ev_op) | (with_reducible apply ev_un) | (with_reducible apply ev_cb) | (with_reducible apply ea_cons) | (with_reducible apply ev_andV) | (with_reducible apply ev_orV) | (with_reducible apply ev_notV) | (with_reducible apply ev_if) | (with_reducible apply eo_some) | (with_reducible apply el_lst) | (with_reducible exact ea_nil) | (with_reducible exact rv_I0) | (with_reducible exact ru_neg) | (with_reducible exact rv_ltS) | (with_reducible exact rv_inC) | (with_reducible exact rv_notInC) | (with_reducible exact rc_intI) | (with_reducible exact rc_intB) | (with_reducible exact rc_min2) | (with_reducible exact rc_isStr) | (with_reducible exact eo_none) | (with_reducible exact rv_inSS) | (with_reducible exact rv_notInSS) | (with_reducible exact rv_ltSS) | (with_reducible exact rv_eqSS) | (with_reducible exact rv_eqII) | (with_reducible exact rv_neII) | (with_reducible exact rv_neSS) | ((with_reducible refine rc_lenSS ?_); (first | assumption | omega | decide | (simp only [S_len] at *; omega))) | ((with_reducible refine rc_lenStr ?_); (first | assumption | omega | decide | (simp only [S_len] at *; omega))) | ((with_reducible refine rv_catSS ?_); (first | assumption | omega | decide | (simp only [S_len] at *; omega))) | (with_reducible exact rv_eq rfl) | (with_reducible exact rv_ne rfl) | ((with_reducible refine rc_lenS ?_); (first | assumption | omega | decide | (simp only [S_len] at *; omega))) | ((with_reducible refine rc_lenL ?_); assumption) | ((with_reducible apply rv_ixL); assumption; rfl) | ((with_reducible refine rv_catS ?_); (first | assumption | omega | decide | (simp only [S_len] at *; omega))) | ((with_reducible refine rv_I ?_); (first | (show (0 : Int) < _; (first | assumption | omega | decide | (simp only [S_len] at *; omega))) | exact .inr ⟨by decide, by decide⟩ | exact .inl ⟨by (first | assumption | omega | decide | (simp only [S_len] at *; omega)), by (first | assumption | omega | decide | (simp only [S_len] at *; omega))⟩ | exact .inr ⟨by (first | assumption | omega | decide | (simp only [S_len] at *; omega)), by (first | assumption | omega | decide | (simp only [S_len] at *; omega))⟩ | exact ⟨by decide, by decide, by decide⟩ | exact wide_div (b := 128) (by (first | assumption | omega | decide | (simp only [S_len] at *; omega))) (by (first | assumption | omega | decide | (simp only [S_len] at *; omega))) (by decide) (by decide))))) fun H6 e6 => ?_
      refine s_ret (v := .int ((m3 * m3 + m2) % 2147483543 / 5 % many)) (by repeat' (first | ((with_reducible refine ev_pow10 ?_ ?_ ?_) <;> first | rfl | decide) | (with_reducible refine fun (_ : _ = true) => ?_) | (with_reducible refine fun (_ : _ = false) => ?_) | (with_reducible exact ev_c) | ((with_reducible apply ev_var); rfl) | (with_reducible apply ev_op) | (with_reducible apply ev_un) | (with_reducible apply ev_cb) | (with_reducible apply ea_cons) | (with_reducible apply ev_andV) | (with_reducible apply ev_orV) | (with_reducible apply ev_notV) | (with_reducible apply ev_if) | (with_reducible apply eo_some) | (with_reducible apply el_lst) | (with_reducible exact ea_nil) | (with_reducible exact rv_I0) | (with_reducible exact ru_neg) | (with_reducible exact rv_ltS) | (with_reducible exact rv_inC) | (with_reducible exact rv_notInC) | (with_reducible exact rc_intI) | (with_reducible exact rc_intB) | (with_reducible exact rc_min2) | (with_reducible exact rc_isStr) | (with_reducible exact eo_none) | (with_reducible exact rv_inSS) | (with_reducible exact rv_notInSS) | (with_reducible exact rv_ltSS) | (with_reducible exact rv_eqSS) | (with_reducible exact rv_eqII) | (with_reducible exact rv_neII) | (with_reducible exact rv_neSS) | ((with_reducible refine rc_lenSS ?_); (first | assumption | omega | decide | (simp only [S_len] at *; omega))) | ((with_reducible refine rc_lenStr ?_); (first | assumption | omega | decide | (simp only [S_len] at *; omega))) | ((with_reducible refine rv_catSS ?_); (first | assumption | omega | decide | (simp only [S_len] at *; omega))) | (with_reducible exact rv_eq rfl) | (with_reducible exact rv_ne rfl) | ((with_reducible refine rc_lenS ?_); (first | assumption | omega | decide | (simp only [S_len] at *; omega))) | ((with_reducible refine rc_lenL ?_); assumption) | ((with_reducible apply rv_ixL); assumption; rfl) | ((with_reducible refine rv_catS ?_); (first | assumption | omega | decide | (simp only [S_len] at *; omega))) | ((with_reducible refine rv_I ?_); (first | (show (0 : Int) < _; (first | assumption | omega | decide | (simp only [S_len] at *; omega))) | exact .inr ⟨by decide, by decide⟩ | exact .inl ⟨by (first | assumption | omega | decide | (simp only [S_len] at *; omega)), by (first | assumption | omega | decide | (simp only [S_len] at *; omega))⟩ | exact .inr ⟨by (first | assumption | omega | decide | (simp only [S_len] at *; omega)), by (first | assumption | omega | decide | (simp only [S_len] at *; omega))⟩ | exact ⟨by decide, by decide, by decide⟩ | exact wide_div (b := 128) (by (first | assumption | omega | decide | (simp only [S_len] at *; omega))) (by (first | assumption | omega | decide | (simp only [S_len] at *; omega))) (by decide) (by decide))))) fun H7 e7 => ?_
      have e27 := ((((e2.trans e3).trans e4).trans e5).trans e6).trans e7
      exact q _ _ (Int.emod_nonneg _ (by omega)) (Int.emod_lt_of_pos _ hm) (x1.trans (ExB.of e27)) ⟨i, j, c, e27 _ _ h1⟩
theorem sp_take_then {σ : L2.St} {H : Hp} {b : Addr} {i : Nat} {te : TE} {many : Int} {E : XK} {Q : VK} (hv : σ[i]? = some (some (.ref b))) (hb : Bx H b) (he : Ev te σ H (.int many)) (h0 : 0 < many) (h1 : many.natAbs < 2 ^ 128)
    (k : ∀ d H', 0 ≤ d → d < many → ExB b H H' → Bx H' b → Q (.int d) H') : tCall sp_law_take [] E (tCons (tVar i) (tCons te tNil)) σ H Q :=
  ⟨_, hv, he H (Ex.refl H) _ fun H1 e1 => ⟨b, many, rfl, hb.ex e1, h0, h1, fun d H' d0 d1 x y => k d H' d0 d1 ((ExB.of e1).trans x) y⟩⟩
/-! ### cells and boxes -/
def cellV_W (ns : List Int) (at_ : Int) : Int := if at_ < ns.length then ns.getD at_.toNat 0 else (at_ + 3) * 7919 + ns.sum % 1000003
def sp_law_cell (K : PySem.W.Frag) : Sp := fun vs H Q _ => ∃ (a : Addr) (ns : List Int) (at_ : Int), vs = [.ref a, .int at_] ∧ SqL K H a (ns.map V.int) ∧ 0 ≤ at_ ∧ at_ < 1000 ∧ RetV (.int (cellV_W ns at_)) H Q
theorem ok_law_cell (T : Tx K mg w) : OkD P w K mg base 1 d_law_cell ps_law_cell (sp_law_cell K) := by
  refine (h_law_cell T).ok sc_law_cell (fun vs H Q E h => ?_) (fun cdv A outer s H vs Q E hr h => ⟨_,
      (pss_cons (ps_if (pt_cmpR op_lt (pv 1) (pe_callB call_len (by rfl) (m_len T) (by decide +kernel) (pa_cons (pv 0) pa_nil)) (nomark _)) (pss_one (ps_ret (pe_ix ix_list (pv 0) (pv 1) (fun _ _ => rfl)))) pss_nil)
      (pss_one (ps_ret (pe_op op_add (pe_op op_mul (pe_op op_add (pv 1) pe_int) pe_int) (pe_op op_mod (pe_callTy call_int1 (by rfl) (m_int T) (by decide +kernel) (pa_cons (pe_callB (cr_sum rfl) (by rfl) (m_sum T) (by decide +kernel) (pa_cons (pv 0) pa_nil)) pa_nil)) pe_int))))), ?_⟩)
  · obtain ⟨a, ns, at_, rfl, _⟩ := h
    rfl
  · obtain ⟨a, ns, at_, rfl, hs, h0, h1, q⟩ := h
    refine q_when (b := decide (at_ < (ns.length : Int))) ?_ (fun hc H1 e1 => ?_) (fun hc H1 e1 => ?_)
    · have hl := rc_lenL (K := K) hs
      rw [List.length_map] at hl
      exact et_test (ev_op (ev_var rfl) (ev_cb (ea_cons (ev_var rfl) ea_nil) hl) rv_I0)
    · have hlt : at_ < ns.length := of_decide_eq_true hc
      refine s_ret (ev_op (by exact ev_var rfl) (by exact ev_var rfl) (rv_ixL (ex_l e1 hs) (atI_int h0 hlt))) fun H2 e2 => ?_
      have q2 := q H2 (e1.trans e2)
      unfold cellV_W at q2
      rw [if_pos hlt] at q2
      exact q2
    · have hge : ¬ at_ < ns.length := of_decide_eq_false hc
      have hint := ev_cb (ea_cons (ev_cb (ea_cons (ev_var (σ := L2.start ns_law_cell [.ref a, .int at_]) (i := 0) rfl) ea_nil) (rc_sum (K := K) (ex_l e1 hs))) ea_nil) rc_intI
      have hmod := ev_op hint (ev_c (v := .int 1000003)) (rv_I (C := fun _ j => 0 < j) (g := fun i j => .int (i % j)) (by decide))
      have hx : Ev (tOp (rI CMul fun i j => V.int (i * j)) (tOp (rI0 fun i j => V.int (i + j)) (tVar 1) (tC (V.int 3))) (tC (V.int 7919))) (L2.start ns_law_cell [.ref a, .int at_]) H1 (.int ((at_ + 3) * 7919)) := by repeat' (first | ((with_reducible refine ev_pow10 ?_ ?_ ?_) <;> first | rfl | decide) | (with_reducible refine fun (_ : _ = true) => ?_) | (with_reducible refine fun (_ : _ = false) => ?_) | (with_reducible exact ev_c) | ((with_reducible apply ev_var); rfl) | (with_reducible apply ev_op) | (with_reducible apply ev_un) | (with_reducible apply ev_cb) | (with_reducible apply ea_cons) | (with_reducible apply ev_andV) | (with_reducible apply ev_orV) | (with_reducible apply ev_notV) | (with_reducible apply ev_if) | (with_reducible apply eo_some) | (with_reducible apply el_lst) | (with_reducible exact ea_nil) | (with_reducible exact rv_I0) | (with_reducible exact ru_neg) | (with_reducible exact rv_ltS) | (with_reducible exact rv_inC) | (with_reducible exact rv_notInC) | (with_reducible exact rc_intI) | (with_reducible exact rc_intB) | (with_reducible exact rc_min2) | (with_reducible exact rc_isStr) | (with_reducible exact eo_none) | (with_reducible exact rv_inSS) | (with_reducible exact rv_notInSS) | (with_reducible exact rv_ltSS) | (with_reducible exact rv_eqSS) | (with_reducible exact rv_eqII) | (with_reducible exact rv_neII) | (with_reducible exact rv_neSS) | ((with_reducible refine rc_lenSS ?_); (first | assumption | omega | decide | (simp only [S_len] at *; omega))) | ((with_reducible refine rc_lenStr ?_); (first | assumption | omega | decide | (simp only [S_len] at *; omega))) | ((with_reducible refine rv_catSS ?_); (first | assumption | omega | decide | (simp only [S_len] at *; omega))) | (with_reducible exact rv_eq rfl) | (with_reducible exact rv_ne rfl) | ((with_reducible refine rc_lenS ?_); (first | assumption | omega | decide | (simp only [S_len] at *; omega))) | ((with_reducible refine rc_lenL ?_); assumption) | ((with_reducible apply rv_ixL); assumption; rfl) | ((with_reducible refine rv_catS ?_); (first | assumption | omega | decide | (simp only [S_len] at *; omega))) | ((with_reducible refine rv_I ?_); (first | (show (0 : Int) < _; (first | assumption | omega | decide | (simp only [S_len] at *; omega))) | exact .inr ⟨by decide, by decide⟩ | exact .inl ⟨by (first | assumption | omega | decide | (simp only [S_len] at *; omega)), by (first | assumption | omega | decide | (simp only [S_len] at *; omega))⟩ | exact .inr ⟨by (first | assumption | omega | decide | (simp only [S_len] at *; omega)), by (first | assumption | omega | decide | (simp only [S_len] at *; omega))⟩ | exact ⟨by decide, by decide, by decide⟩ | exact wide_div (b := 128) (by (first | assumption | omega | decide | (simp only [S_len] at *; omega))) (by (first | assumption | omega | decide | (simp only [S_len] at *; omega))) (by decide) (by decide))))
      refine s_ret (ev_op hx hmod rv_I0) fun H2 e2 => ?_
      have q2 := q H2 (e1.trans e2)
      unfold cellV_W at q2
      rw [if_neg hge] at q2
      dsimp only
      exact q2
def sp_law_box (K : PySem.W.Frag) : Sp := fun vs H Q _ => ∃ (a : Addr) (ns : List Int) (at_ : Int), vs = [.ref a, .int at_] ∧ SqL K H a (ns.map V.int) ∧ 0 ≤ at_ ∧ at_ < 1000 ∧ ∀ p H', H p = none → Ex H H' → Bx H' p → Q (.ref p) H'
theorem ok_law_box (T : Tx K mg w) : OkD P w K mg base 2 d_law_box ps_law_box (sp_law_box K) := by
  refine (h_law_box T).ok sc_law_box (fun vs H Q E h => ?_) (fun cdv A outer s H vs Q E hr h => ⟨_,
      (pss_cons (ps_set (i := 2) sc_law_box.nd rfl (Or.inl rfl) (pe_call (ok_law_cell (P := P) (w := w) (base := base) T) (hr.mono (by decide)) (by rfl) (m_law_cell T) (k_law_cell T) (b_law_cell T) .nil passN (pa_cons (pv 0) (pa_cons (pv 1) pa_nil))))
      (pss_cons (ps_set (i := 3) sc_law_box.nd rfl (Or.inl rfl) pe_int)
      (pss_cons (ps_if (pt_cmpR op_ge (pv 2) (pe_op op_pow pe_int pe_int) (nomark _)) (pss_one (ps_set (i := 3) sc_law_box.nd rfl (Or.inl rfl) (pv 2))) pss_nil)
      (pss_one (ps_ret (pe_lst (pa_cons (pv 3) (pa_cons (pe_op op_mod (pe_callTy call_int1 (by rfl) (m_int T) (by decide +kernel) (pa_cons (pv 2) pa_nil)) pe_int) (pa_cons pe_int pa_nil))))))))), ?_⟩)
  · obtain ⟨a, ns, at_, rfl, _⟩ := h
    rfl
  · obtain ⟨a, ns, at_, rfl, hs, h0, h1, q⟩ := h
    refine q_asg (v := .int (cellV_W ns at_)) (ev_call (by repeat' (first | ((with_reducible refine ev_pow10 ?_ ?_ ?_) <;> first | rfl | decide) | (with_reducible refine fun (_ : _ = true) => ?_) | (with_reducible refine fun (_ : _ = false) => ?_) | (with_reducible exact ev_c) | ((with_reducible apply ev_var); rfl) | (with_reducible apply ev_op) | (with_reducible apply ev_un) | (with_reducible apply ev_cb) | (with_reducible apply ea_cons) | (with_reducible apply ev_andV) | (with_reducible apply ev_orV) | (with_reducible apply ev_notV) | (with_reducible apply ev_if) | (with_reducible apply eo_some) | (with_reducible apply el_lst) | (with_reducible exact ea_nil) | (with_reducible exact rv_I0) | (with_reducible exact ru_neg) | (with_reducible exact rv_ltS) | (with_reducible exact rv_inC) | (with_reducible exact rv_notInC) | (with_reducible exact rc_intI) | (with_reducible exact rc_intB) | (with_reducible exact rc_min2) | (with_reducible exact rc_isStr) | (with_reducible exact eo_none) | (with_reducible exact rv_inSS) | (with_reducible exact rv_notInSS) | (with_reducible exact rv_ltSS) | (with_reducible exact rv_eqSS) | (with_reducible exact rv_eqII) | (with_reducible exact rv_neII) | (with_reducible exact rv_neSS) | ((with_reducible refine rc_lenSS ?_); (first | assumption | omega | decide | (simp only [S_len] at *; omega))) | ((with_reducible refine rc_lenStr ?_); (first | assumption | omega | decide | (simp only [S_len] at *; omega))) | ((with_reducible refine rv_catSS ?_); (first | assumption | omega | decide | (simp only [S_len] at *; omega))) | (with_reducible exact rv_eq rfl) | (with_reducible exact rv_ne rfl) | ((with_reducible refine rc_lenS ?_); (first | assumption | omega | decide | (simp only [S_len] at *; omega))) | ((with_reducible refine rc_lenL ?_); assumption) | ((with_reducible apply rv_ixL); assumption; rfl) | ((with_reducible refine rv_catS ?_); (first | assumption | omega | decide | (simp only [S_len] at *; omega))) | ((with_reducible refine rv_I ?_); (first | (show (0 : Int) < _; (first | assumption | omega | decide | (simp only [S_len] at *; omega))) | exact .inr ⟨by decide, by decide⟩ | exact .inl ⟨by (first | assumption | omega | decide | (simp only [S_len] at *; omega)), by (first | assumption | omega | decide | (simp only [S_len] at *; omega))⟩ | exact .inr ⟨by (first | assumption | omega | decide | (simp only [S_len] at *; omega)), by (first | assumption | omega | decide | (simp only [S_len] at *; omega))⟩ | exact ⟨by decide, by decide, by decide⟩ | exact wide_div (b := 128) (by (first | assumption | omega | decide | (simp only [S_len] at *; omega))) (by (first | assumption | omega | decide | (simp only [S_len] at *; omega))) (by decide) (by decide))))) fun H1 e1 Q1 q1 E1 => ⟨a, ns, at_, rfl, ex_l e1 hs, h0, h1, q1⟩) fun H1 e1 => ?_
    generalize cellV_W ns at_ = cl
    refine q_asg ev_c fun H2 e2 => ?_
    refine q_when (b := decide ((1000000000000000000 : Int) ≤ cl)) ?_ (fun hc H3 e3 => ?_) (fun hc H3 e3 => ?_)
    · exact et_test (ev_op (ev_var rfl) (ev_pow10 (by decide) (by decide) (by decide)) rv_I0)
    · refine s_asg (by exact ev_var rfl) fun H4 e4 => ?_
      dsimp only
      exact s_retL (el_lst (by repeat' (first | ((with_reducible refine ev_pow10 ?_ ?_ ?_) <;> first | rfl | decide) | (with_reducible refine fun (_ : _ = true) => ?_) | (with_reducible refine fun (_ : _ = false) => ?_) | (with_reducible exact ev_c) | ((with_reducible apply ev_var); rfl) | (with_reducible apply ev_op) | (with_reducible apply ev_un) | (with_reducible apply ev_cb) | (with_reducible apply ea_cons) | (with_reducible apply ev_andV) | (with_reducible apply ev_orV) | (with_reducible apply ev_notV) | (with_reducible apply ev_if) | (with_reducible apply eo_some) | (with_reducible apply el_lst) | (with_reducible exact ea_nil) | (with_reducible exact rv_I0) | (with_reducible exact ru_neg) | (with_reducible exact rv_ltS) | (with_reducible exact rv_inC) | (with_reducible exact rv_notInC) | (with_reducible exact rc_intI) | (with_reducible exact rc_intB) | (with_reducible exact rc_min2) | (with_reducible exact rc_isStr) | (with_reducible exact eo_none) | (with_reducible exact rv_inSS) | (with_reducible exact rv_notInSS) | (with_reducible exact rv_ltSS) | (with_reducible exact rv_eqSS) | (with_reducible exact rv_eqII) | (with_reducible exact rv_neII) | (with_reducible exact rv_neSS) | ((with_reducible refine rc_lenSS ?_); (first | assumption | omega | decide | (simp only [S_len] at *; omega))) | ((with_reducible refine rc_lenStr ?_); (first | assumption | omega | decide | (simp only [S_len] at *; omega))) | ((with_reducible refine rv_catSS ?_); (first | assumption | omega | decide | (simp only [S_len] at *; omega))) | (with_reducible exact rv_eq rfl) | (with_reducible exact rv_ne rfl) | ((with_reducible refine rc_lenS ?_); (first | assumption | omega | decide | (simp only [S_len] at *; omega))) | ((with_reducible refine rc_lenL ?_); assumption) | ((with_reducible apply rv_ixL); assumption; rfl) | ((with_reducible refine rv_catS ?_); (first | assumption | omega | decide | (simp only [S_len] at *; omega))) | ((with_reducible refine rv_I ?_); (first | (show (0 : Int) < _; (first | assumption | omega | decide | (simp only [S_len] at *; omega))) | exact .inr ⟨by decide, by decide⟩ | exact .inl ⟨by (first | assumption | omega | decide | (simp only [S_len] at *; omega)), by (first | assumption | omega | decide | (simp only [S_len] at *; omega))⟩ | exact .inr ⟨by (first | assumption | omega | decide | (simp only [S_len] at *; omega)), by (first | assumption | omega | decide | (simp only [S_len] at *; omega))⟩ | exact ⟨by decide, by decide, by decide⟩ | exact wide_div (b := 128) (by (first | assumption | omega | decide | (simp only [S_len] at *; omega))) (by (first | assumption | omega | decide | (simp only [S_len] at *; omega))) (by decide) (by decide))))) (by simp)) fun p H5 hp e5 h5 => q p H5 (fresh_back (((e1.trans e2).trans e3).trans e4) hp) ((((e1.trans e2).trans e3).trans e4).trans e5) ⟨_, _, _, h5⟩
    · exact s_retL (el_lst (by repeat' (first | ((with_reducible refine ev_pow10 ?_ ?_ ?_) <;> first | rfl | decide) | (with_reducible refine fun (_ : _ = true) => ?_) | (with_reducible refine fun (_ : _ = false) => ?_) | (with_reducible exact ev_c) | ((with_reducible apply ev_var); rfl) | (with_reducible apply ev_op) | (with_reducible apply ev_un) | (with_reducible apply ev_cb) | (with_reducible apply ea_cons) | (with_reducible apply ev_andV) | (with_reducible apply ev_orV) | (with_reducible apply ev_notV) | (with_reducible apply ev_if) | (with_reducible apply eo_some) | (with_reducible apply el_lst) | (with_reducible exact ea_nil) | (with_reducible exact rv_I0) | (with_reducible exact ru_neg) | (with_reducible exact rv_ltS) | (with_reducible exact rv_inC) | (with_reducible exact rv_notInC) | (with_reducible exact rc_intI) | (with_reducible exact rc_intB) | (with_reducible exact rc_min2) | (with_reducible exact rc_isStr) | (with_reducible exact eo_none) | (with_reducible exact rv_inSS) | (with_reducible exact rv_notInSS) | (with_reducible exact rv_ltSS) | (with_reducible exact rv_eqSS) | (with_reducible exact rv_eqII) | (with_reducible exact rv_neII) | (with_reducible exact rv_neSS) | ((with_reducible refine rc_lenSS ?_); (first | assumption | omega | decide | (simp only [S_len] at *; omega))) | ((with_reducible refine rc_lenStr ?_); (first | assumption | omega | decide | (simp only [S_len] at *; omega))) | ((with_reducible refine rv_catSS ?_); (first | assumption | omega | decide | (simp only [S_len] at *; omega))) | (with_reducible exact rv_eq rfl) | (with_reducible exact rv_ne rfl) | ((with_reducible refine rc_lenS ?_); (first | assumption | omega | decide | (simp only [S_len] at *; omega))) | ((with_reducible refine rc_lenL ?_); assumption) | ((with_reducible apply rv_ixL); assumption; rfl) | ((with_reducible refine rv_catS ?_); (first | assumption | omega | decide | (simp only [S_len] at *; omega))) | ((with_reducible refine rv_I ?_); (first | (show (0 : Int) < _; (first | assumption | omega | decide | (simp only [S_len] at *; omega))) | exact .inr ⟨by decide, by decide⟩ | exact .inl ⟨by (first | assumption | omega | decide | (simp only [S_len] at *; omega)), by (first | assumption | omega | decide | (simp only [S_len] at *; omega))⟩ | exact .inr ⟨by (first | assumption | omega | decide | (simp only [S_len] at *; omega)), by (first | assumption | omega | decide | (simp only [S_len] at *; omega))⟩ | exact ⟨by decide, by decide, by decide⟩ | exact wide_div (b := 128) (by (first | assumption | omega | decide | (simp only [S_len] at *; omega))) (by (first | assumption | omega | decide | (simp only [S_len] at *; omega))) (by decide) (by decide))))) (by simp)) fun p H4 hp e4 h4 => q p H4 (fresh_back ((e1.trans e2).trans e3) hp) (((e1.trans e2).trans e3).trans e4) ⟨_, _, _, h4⟩
/-! ### kinds and sums -/
theorem kd_find : ∀ c ∈ SG, (if Txt.find (S [65, 66, 67, 68]) (S [c]) > Txt.find (S [97, 98, 99, 100]) (S [c]) then Txt.find (S [65, 66, 67, 68]) (S [c]) else Txt.find (S [97, 98, 99, 100]) (S [c])) = kd c := by decide +kernel
theorem ev_find {σ : L2.St} {H : Hp} {to te : TE} {a b : List Nat} (h1 : Ev to σ H (.str (S a))) (h2 : Ev te σ H (.str (S b))) : Ev (tM1 (fun x xs H Q => ∃ a b, x = .str a ∧ xs = [.str b] ∧ Q (.int (Txt.find a b)) H) to te) σ H (.int (Txt.find (S a) (S b))) := fun H1 e1 Q q =>
  h1 H1 e1 _ fun H2 e2 => ⟨⟨_, rfl⟩, h2 H2 (e1.trans e2) _ fun H3 e3 => ⟨S a, S b, rfl, rfl, q H3 (e2.trans e3)⟩⟩
def sp_law_kind : Sp := fun vs H Q _ => ∃ c : Nat, vs = [.str (S [c])] ∧ c ∈ SG ∧ RetV (.int (kd c)) H Q
theorem ok_law_kind (T : Tx K mg w) : OkD P w K mg base 1 d_law_kind ps_law_kind sp_law_kind := by
  refine (h_law_kind T).ok sc_law_kind (fun vs H Q E h => ?_) (fun cdv A outer s H vs Q E hr h => ⟨_,
      (pss_one (ps_ret (pe_callB (call_max2 rfl) (by rfl) (m_max T) (by decide +kernel) (pa_cons (pe_m1 PySem.F.slot_str_find PySem.F.type_str_find mt_find pe_str (pv 0)) (pa_cons (pe_m1 PySem.F.slot_str_find PySem.F.type_str_find mt_find pe_str (pv 0)) pa_nil))))), ?_⟩)
  · obtain ⟨c, rfl, _⟩ := h
    rfl
  · obtain ⟨c, rfl, hc, q⟩ := h
    simp only [kc_2, kc_3, kc_8, kc_10, kc_11, kc_12, kc_13, kc_14, kc_15, kc_16, kc_17, kc_18, kc_19, kc_20, kc_21, kc_22, kc_23, kc_24, kc_25, kc_26, kc_27, kc_28, kc_29, kc_30, kc_31, kc_32, kc_33, kc_34]
    rw [← kd_find c hc] at q
    exact s_ret (ev_cb (ea_cons (ev_find ev_c (by exact ev_var rfl)) (ea_cons (ev_find ev_c (by exact ev_var rfl)) ea_nil)) rc_max2) fun H1 e1 => q H1 e1
end
end K57
namespace K57
open PySem PySem.Spec PyProof.Rows L2 Lc Evl
section
variable {P : Program} {w : World} {K : PySem.W.Frag} {mg : Str → Option Value} {base : Heap}
/-! ### tables -/
def Tb (H : Hp) (t : Addr) (G : List (List Int)) : Prop := ∃ rs : List Addr, (H t = some (.lst (rs.map V.ref)) ∨ H t = some (.tup (rs.map V.ref))) ∧ Rw .lst H rs G
theorem Tb.ex {H H' : Hp} {g : Addr} {G : List (List Int)} (h : Tb H g G) (e : Ex H H') : Tb H' g G := by
  obtain ⟨rs, h1, h2⟩ := h
  exact ⟨rs, h1.imp (e _ _) (e _ _), h2.ex e⟩
def Gd (H : Hp) (g : Addr) (G : List (List Int)) : Prop := ∃ rs : List Addr, H g = some (.lst (rs.map V.ref)) ∧ Rw .lst H rs G
theorem Gd.tb {H : Hp} {g : Addr} {G : List (List Int)} (h : Gd H g G) : Tb H g G := by
  obtain ⟨rs, h1, h2⟩ := h
  exact ⟨rs, .inl h1, h2⟩
def Sm (G : List (List Int)) : Prop := G.length ≤ 1000 ∧ ∀ row ∈ G, row.length ≤ 1000
def isTb (G : List (List Int)) (p : Int) : Bool := (decide ((1 : Int) ≤ (G.length : Nat)) && decide (((G.length : Nat) : Int) ≤ 4)) && (G.map fun row => decide (((row.length : Nat) : Int) = p)).all id
def sp_is_table (K : PySem.W.Frag) : Sp := fun vs H Q _ => ∃ (t : Addr) (G : List (List Int)) (p : Int), vs = [.ref t, .int p] ∧ Tb H t G ∧ Sm G ∧ RetV (.bl (isTb G p)) H Q
theorem sq_tb {H : Hp} {t : Addr} {xs : List V} (h : H t = some (.lst xs) ∨ H t = some (.tup xs)) : SqL K H t xs ∨ SqT K H t xs := h.imp sq_of st_of
theorem ok_is_table (T : Tx K mg w) : OkD P w K mg base 1 d_is_table ps_is_table (sp_is_table K) := by
  refine (h_is_table T).ok sc_is_table (fun vs H Q E h => ?_) (fun cdv A outer s H vs Q E hr h => ⟨_,
      (pss_one (ps_ret (pe_and (pe_chain op_le op_le pe_int (pe_callB call_len (by rfl) (m_len T) (by decide +kernel) (pa_cons (pv 0) pa_nil)) (pe_callB call_len_str (by rfl) (m_len T) (by decide +kernel) (pa_cons (pe_glob (v := .str "abcd") rfl (m_KINDS T).choose_spec ⟨_, rfl⟩) pa_nil))) (pe_one (pe_callB (cr_all rfl) (by rfl) (m_all T) (by decide +kernel) (pa_cons (pe_lc (own := [("row", 2)]) (g := gName 2) rfl sc_is_table.nd (pi_seq (pv 0)) (blkOk_by (own := [("row", 2)]) (N := ns_is_table) (sc := (defScope st_is_table)) (by decide +kernel)) (fun _ _ _ _ _ => pg_name (i := 2) sc_is_table.nd rfl (Or.inl rfl)) (fun _ _ _ _ _ => pts_nil) (fun _ _ _ _ _ => (pe_cmpR op_eq (pe_callB (show CallR _ _ (rLen K) from call_len) (by rfl) (m_len T) (by decide +kernel) (pa_cons (pv 2) pa_nil)) (pv 1) (nomark _)))) pa_nil)))))), ?_⟩)
  · obtain ⟨t, G, p, rfl, _⟩ := h
    rfl
  · obtain ⟨t, G, p, rfl, ⟨rs, ht, hr⟩, hz, q⟩ := h
    have hlen := Lc.rc_lenSq (K := K) (sq_tb ht)
    rw [List.length_map, hr.len] at hlen
    have hkl : (V.str "abcd" : V) = V.str (S [97, 98, 99, 100]) := congrArg V.str (by decide +kernel)
    have hel := el_lcSq (K := K) (σ := L2.start ns_is_table [V.ref t, .int p]) (H := H) (tl := tVar 0) (j := 2) (vs := [2]) (t := tYes) (te := tOp rEq (tCB (rLen K) (tCons (tVar 2) tNil)) (tVar 1)) (fun _ => true) (fun i => .bl (decide ((((G.getD i []).length : Nat) : Int) = p))) (ev_var rfl) (sq_tb ht) (by rw [List.length_map, hr.len]; have := hz.1; omega) (fun x => rfl) (fun i x H1 _ _ => et_yes) (fun i x H1 e hi _ => by
      obtain ⟨hk, rfl, hrow⟩ := hr.at_ hi
      have h2 := rc_lenL (K := K) (sq_of (K := K) (e _ _ hrow))
      rw [List.length_map] at h2
      exact ev_op (ev_cb (ea_cons (ev_var rfl) ea_nil) h2) (ev_var rfl) rv_eqII)
    have e1 : given (rs.map V.ref).length (fun _ => true) (fun i => V.bl (decide ((((G.getD i []).length : Nat) : Int) = p))) = (G.map fun row => decide (((row.length : Nat) : Int) = p)).map V.bl := by
      rw [given_all, List.length_map, hr.len]
      apply List.ext_getElem
      · simp
      · intro i h1 h2
        simp only [List.length_map, List.length_range] at h1
        rw [List.getElem_map, List.getElem_range, List.getElem_map, List.getElem_map, List.getD_eq_getElem?_getD, List.getElem?_eq_getElem h1]
        rfl
    rw [e1] at hel
    refine s_ret (v := .bl (isTb G p)) (ev_andV (ev_chain ev_c (ev_cb (ea_cons (ev_var rfl) ea_nil) hlen) (ev_cb (ea_cons (by rw [hkl]; exact ev_c) ea_nil) (rc_lenStr (by decide))) rv_I0 fun _ => rv_I0) fun _ => ev_all hel) fun H1 e1 => q H1 e1
/-! ### weights -/
abbrev cW (K : PySem.W.Frag) : Addr := He.ga K "Weights"
def part (p b : Int) (G : List (List Int)) : Option Str := if ¬ (1 ≤ p ∧ p ≤ 12) then some ("period" : Str) else if ¬ (b = 0 ∨ (2 ≤ b ∧ b ≤ 97)) then some ("modulus" : Str) else if isTb G p = false then some ("table" : Str) else none
def WF (p b : Int) (t : Addr) : List (Str × V) := [("period", .int p), ("modulus", .int b), ("table", .ref t)]
def Wt (K : PySem.W.Frag) (H : Hp) (o : Addr) (p b : Int) (T : List (List Int)) : Prop := part p b T = none ∧ ∃ (dx t : Addr) (rs : List Addr), H o = some (.ins (cW K) dx (WF p b t)) ∧ H t = some (.tup (rs.map V.ref)) ∧ Rw .tup H rs T
theorem Wt.ex {H H' : Hp} {o : Addr} {p b : Int} {T : List (List Int)} (h : Wt K H o p b T) (e : Ex H H') : Wt K H' o p b T := by
  obtain ⟨h0, dx, t, rs, h1, h2, h3⟩ := h
  exact ⟨h0, dx, t, rs, e _ _ h1, e _ _ h2, h3.ex e⟩
def red (b : Int) (G : List (List Int)) : List (List Int) := G.map fun row => row.map (rem b)
theorem part_red {p b c : Int} {G : List (List Int)} : part p b (red c G) = part p b G := by
  have h : isTb (red c G) p = isTb G p := by
    unfold isTb red
    rw [List.length_map, List.map_map]
    congr 2
    refine congrArg (fun l : List Bool => l) (List.map_congr_left fun row _ => ?_)
    show decide ((((row.map (rem c)).length : Nat) : Int) = p) = _
    rw [List.length_map]
  unfold part
  rw [h]
def sp_Weights_init (K : PySem.W.Frag) : Sp := fun vs H Q E => ∃ (o dx t : Addr) (p b : Int) (G : List (List Int)), vs = [.ref o, .int p, .int b, .ref t] ∧ Tb H t G ∧ Sm G ∧ H o = some (.ins (cW K) dx []) ∧
  (part p b G = none → ∀ H', ExB o H H' → Wt K H' o p b (red b G) → Q .non H') ∧ (∀ z, part p b G = some z → Bad_W K "InvalidWeight" "part" H E (.str z))
theorem part_p {p b : Int} {G : List (List Int)} (h : ¬ (1 ≤ p ∧ p ≤ 12)) : part p b G = some ("period" : Str) := if_pos h
theorem part_m {p b : Int} {G : List (List Int)} (h : 1 ≤ p ∧ p ≤ 12) (h2 : ¬ (b = 0 ∨ (2 ≤ b ∧ b ≤ 97))) : part p b G = some ("modulus" : Str) := by
  unfold part
  rw [if_neg (not_not_intro h), if_pos h2]
theorem part_t {p b : Int} {G : List (List Int)} (h : 1 ≤ p ∧ p ≤ 12) (h2 : b = 0 ∨ (2 ≤ b ∧ b ≤ 97)) (h3 : isTb G p = false) : part p b G = some ("table" : Str) := by
  unfold part
  rw [if_neg (not_not_intro h), if_neg (not_not_intro h2), if_pos h3]
theorem part_n {p b : Int} {G : List (List Int)} (h : 1 ≤ p ∧ p ≤ 12) (h2 : b = 0 ∨ (2 ≤ b ∧ b ≤ 97)) (h3 : isTb G p = true) : part p b G = none := by
  unfold part
  rw [if_neg (not_not_intro h), if_neg (not_not_intro h2), if_neg (by rw [h3]; decide)]
theorem part_ok {p b : Int} {G : List (List Int)} (h : part p b G = none) : (1 ≤ p ∧ p ≤ 12) ∧ (b = 0 ∨ (2 ≤ b ∧ b ≤ 97)) ∧ isTb G p = true := by
  unfold part at h
  split at h
  · cases h
  · rename_i h1
    split at h
    · cases h
    · rename_i h2
      split at h
      · cases h
      · rename_i h3
        exact ⟨Classical.not_not.mp h1, Classical.not_not.mp h2, by simpa using h3⟩
theorem ev_isTb {σ : L2.St} {H : Hp} {tt tp : TE} {t : Addr} {p : Int} {G : List (List Int)} (h1 : Ev tt σ H (.ref t)) (h2 : Ev tp σ H (.int p)) (ht : Tb H t G) (hz : Sm G) : Ev (tCall (sp_is_table K) [] E0 (tCons tt (tCons tp tNil))) σ H (.bl (isTb G p)) := ev_call (ea_cons h1 (ea_cons h2 ea_nil)) fun H1 e1 Q q E => ⟨t, G, p, rfl, ht.ex e1, hz, q⟩
theorem ev_rem {σ : L2.St} {H : Hp} {tx tb : TE} {x b : Int} (h1 : Ev tx σ H (.int x)) (h2 : Ev tb σ H (.int b)) (hb : 0 ≤ b) : Ev (tCall sp_remainder [] E0 (tCons tx (tCons tb tNil))) σ H (.int (rem b x)) := ev_call (ea_cons h1 (ea_cons h2 ea_nil)) fun H1 e1 Q q E => ⟨x, b, rfl, hb, q⟩
theorem ok_Weights_init (T : Tx K mg w) : OkD P w K mg base 4 d_Weights_init ps_Weights_init (sp_Weights_init K) := by
  refine (h_Weights_init T).ok sc_Weights_init (fun vs H Q E h => ?_) (fun cdv A outer s H vs Q E hr h => ⟨_,
      (pss_cons (ps_expr (pe_callSD (ok_check_period (P := P) (w := w) (base := base) T) (hr.mono (by decide)) (by rfl) (m_check_period T) (k_check_period T) (b_check_period T) .nil (fun σ => L2N.passAt (L2N.takes_of rfl rfl rfl rfl) σ) (pa_cons (pv 1) pa_nil)))
      (pss_cons (ps_if (PW.pt (pw_and (pt_cmpR op_ne (pv 2) pe_int (nomark _)) (pw_and1 (pt_not (pt_chain op_le op_le pe_int (pv 2) (pe_glob (v := .int 97) rfl (m_MOST_MODULUS T).choose_spec ⟨_, rfl⟩)))))) (pss_one (L2N.ps_raise rfl (L2N.takes_of rfl rfl rfl rfl) (pmkN_oex (x_InvalidWeight T).oex (x_InvalidWeight T).iC (x_InvalidWeight T).tI (ok_InvalidWeight_init (P := P) (w := w) (base := base) T) (hr.mono (by decide)) (b_InvalidWeight_init T) .nil passN (by rfl) (m_InvalidWeight T) (pa_cons pe_str pa_nil)))) pss_nil)
      (pss_cons (ps_if (pt_not (pt_val (pe_call (ok_is_table (P := P) (w := w) (base := base) T) (hr.mono (by decide)) (by rfl) (m_is_table T) (k_is_table T) (b_is_table T) .nil passN (pa_cons (pv 3) (pa_cons (pv 1) pa_nil))))) (pss_one (L2N.ps_raise rfl (L2N.takes_of rfl rfl rfl rfl) (pmkN_oex (x_InvalidWeight T).oex (x_InvalidWeight T).iC (x_InvalidWeight T).tI (ok_InvalidWeight_init (P := P) (w := w) (base := base) T) (hr.mono (by decide)) (b_InvalidWeight_init T) .nil passN (by rfl) (m_InvalidWeight T) (pa_cons pe_str pa_nil)))) pss_nil)
      (pss_cons (ps_fld (pv 0) (pv 1) rfl)
      (pss_cons (ps_fld (pv 0) (pv 2) rfl)
      (pss_one (ps_fld (pv 0) (pe_callTy (show CallR _ (.type "tuple") (rTupOf K) from call_tuple_of) (by rfl) (m_tuple T) (by decide +kernel) (pa_cons (pe_lc (own := [("row", 4)]) (g := gName 4) rfl sc_Weights_init.nd (pi_seq (pv 3)) (blkOk_by (own := [("row", 4)]) (N := ns_Weights_init) (sc := (defScope st_Weights_init)) (by decide +kernel)) (fun _ _ _ _ _ => pg_name (i := 4) sc_Weights_init.nd rfl (Or.inl rfl)) (fun _ _ _ _ _ => pts_nil) (fun _ _ _ _ _ => (pe_callTy (show CallR _ (.type "tuple") (rTupOf K) from call_tuple_of) (by rfl) (m_tuple T) (by decide +kernel) (pa_cons (pe_lc (own := [("number", 5)]) (g := gName 5) rfl sc_Weights_init.nd (pi_listK K rfl (pv 4)) (blkOk_by (own := [("number", 5)]) (N := ns_Weights_init) (sc := (relS _ (defScope st_Weights_init))) (by decide +kernel)) (fun _ _ _ _ _ => pg_name (i := 5) sc_Weights_init.nd rfl (Or.inl rfl)) (fun _ _ _ _ _ => pts_nil) (fun _ _ _ _ _ => (pe_call (ok_remainder (P := P) (w := w) (base := base) T) (hr.mono (by decide)) (by rfl) (m_remainder T) (k_remainder T) (b_remainder T) .nil passN (pa_cons (pv 5) (pa_cons (pv 2) pa_nil))))) pa_nil)))) pa_nil)) rfl))))))), ?_⟩)
  · obtain ⟨o, dx, t, p, b, G, rfl, _⟩ := h
    rfl
  · obtain ⟨o, dx, t, p, b, G, rfl, ht, hz, ho, q1, q2⟩ := h
    refine ⟨_, rfl, p, rfl, fun hp H1 e1 => ?_, fun hn => q2 _ (part_p hn)⟩
    dsimp only
    refine q_when (b := (!decide (b = 0) && !decide (2 ≤ b ∧ b ≤ 97))) (et_and (et_test (ev_op (by exact ev_var rfl) ev_c rv_neII)) fun _ => et_not (et_test (by rw [← chain_dec]; exact ev_chain ev_c (ev_var rfl) ev_c rv_I0 fun _ => rv_I0))) (fun hc H2 e2 => ?_) (fun hc H2 e2 => ?_)
    · have hn : ¬ (b = 0 ∨ (2 ≤ b ∧ b ≤ 97)) := by
        obtain ⟨h1, h2⟩ := Bool.and_eq_true_iff.mp hc
        rintro (h3 | h3)
        · exact of_decide_eq_false (not_t h1) h3
        · exact of_decide_eq_false (not_t h2) h3
      exact ⟨by simp, fun a ha => ⟨a, _, rfl, ks_modulus, mk_go_W ((q2 _ (part_m hp hn)).ex (e1.trans e2)) ha⟩⟩
    have hm : b = 0 ∨ (2 ≤ b ∧ b ≤ 97) := by
      rcases Bool.and_eq_false_iff.mp hc with h1 | h1
      · exact .inl (of_decide_eq_true (not_f h1))
      · exact .inr (of_decide_eq_true (not_f h1))
    refine q_when (b := !isTb G p) (et_not (et_B (ev_isTb (by exact ev_var rfl) (by exact ev_var rfl) (ht.ex (e1.trans e2)) hz))) (fun hc H3 e3 => ?_) (fun hc H3 e3 => ?_)
    · exact ⟨by simp, fun a ha => ⟨a, _, rfl, ks_table, mk_go_W ((q2 _ (part_t hp hm (not_t hc))).ex ((e1.trans e2).trans e3)) ha⟩⟩
    have htb := not_f hc
    have e13 := (e1.trans e2).trans e3
    clear e1 e2 e3
    obtain ⟨rs, htr, hr⟩ := ht
    refine ⟨_, rfl, _, rfl, o, cW K, dx, _, rfl, e13 _ _ ho, c_Weights T, n_Weights_period T, by decide, ?_⟩
    refine ⟨_, rfl, _, rfl, o, cW K, dx, _, rfl, upd_same, c_Weights T, n_Weights_modulus T, by simp [putF], ?_⟩
    have hto : t ≠ o := fun z => by
      rw [z, ho] at htr
      rcases htr with h | h <;> cases h
    have hro : ∀ k, k < G.length → rs.getD k 0 ≠ o := fun k hk z => by
      have := hr.row k hk
      rw [z, ho] at this
      cases this
    generalize hH4 : upd (upd H3 o _) o _ = H4
    have x4 : ExB o H H4 := by
      rw [← hH4]
      exact ((ExB.of e13).trans ExB.upd).trans ExB.upd
    have ho4 : H4 o = some (.ins (cW K) dx [("period", .int p), ("modulus", .int b)]) := by
      rw [← hH4, upd_same]
      rfl
    have htr4 : H4 t = some (.lst (rs.map V.ref)) ∨ H4 t = some (.tup (rs.map V.ref)) := htr.imp (x4 _ _ hto) (x4 _ _ hto)
    have hr4 : Rw .lst H4 rs G := ⟨hr.len, fun k hk => x4 _ _ (hro k hk) (hr.row k hk)⟩
    clear hH4
    have hb0 : 0 ≤ b := by omega
    unfold sFld
    dsimp only
    refine eg_tup (K := K) (c := .tup) (G := red b G) (eg_S (c := .tup) (xs := rs.map V.ref) (by exact ev_var rfl) (sq_tb htr4) (by unfold red; rw [List.length_map, List.length_map, hr.len]) (by unfold red; rw [List.length_map]; have := hz.1; omega) (fun x => rfl) fun i x H1 e hi => ?_) H4 (Ex.refl H4) _ fun p1 rs1 H5 hp1 e5 h5 hr5 _ => ?_
    · obtain ⟨hk, rfl, hrow⟩ := hr4.at_ hi
      have h2 := el_lcL (K := K) (a := rs.getD i 0) (xs := (G.getD i []).map V.int) (σ := (wipe (L2.start ns_Weights_init [V.ref o, .int p, .int b, .ref t]) [4]).set 4 (some (.ref (rs.getD i 0)))) (H := H1) (tl := tVar 4) (j := 5) (vs := [5]) (t := tYes) (te := tCall sp_remainder [] E0 (tCons (tVar 5) (tCons (tVar 2) tNil))) (fun _ => true) (fun k => .int (rem b ((G.getD i []).getD k 0))) (ev_var rfl) (sq_of (e _ _ hrow)) (by rw [List.length_map]; have := hz.2 _ (row_mem hk); omega) (fun x => rfl) (fun k x H2 _ _ => et_yes) (fun k x H2 e2 hk2 _ => by
        obtain ⟨_, rfl⟩ := int_at hk2
        exact ev_rem (ev_var rfl) (ev_var rfl) hb0)
      rw [List.length_map, given_map (G.getD i []) (rem b) _ (fun i _ => rfl)] at h2
      unfold red
      rw [row_map hk]
      exact eu_tupOf h2
    · refine ⟨_, rfl, o, cW K, dx, _, rfl, e5 _ _ ho4, c_Weights T, n_Weights_table T, by simp, ?_⟩
      refine q1 (part_n hp hm htb) _ ((x4.trans (ExB.of e5)).trans ExB.upd) ⟨by rw [part_red]; exact part_n hp hm htb, dx, p1, rs1, ?_, ?_, ⟨hr5.len, fun k hk => ?_⟩⟩
      · rw [upd_same]
        rfl
      · rw [upd_ne (fun z => by rw [z, ho4] at hp1; cases hp1)]
        exact h5
      · have h6 := hr5.row k hk
        rw [upd_ne (fun z => by rw [z, e5 _ _ ho4] at h6; cases h6)]
        exact h6
end
end K57
namespace Lc
open PySem PySem.Spec PyProof.Rows L2 Evl
section
variable {K : PySem.W.Frag} {H : Hp}
/-! ### tuples of plain values, beside each other -/
def dat : V → PyData
  | .bl b => .bool b
  | .int i => .int i
  | .str s => .str s
  | _ => .none
def Atm (v : V) : Prop := (∃ b, v = .bl b) ∨ (∃ i, v = .int i) ∨ ∃ l : List Nat, v = .str (S l) ∧ ∀ c ∈ l, c < 128
theorem atm_bl {b : Bool} : Atm (.bl b) := .inl ⟨b, rfl⟩
theorem atm_int {i : Int} : Atm (.int i) := .inr (.inl ⟨i, rfl⟩)
theorem atm_str {l : List Nat} (h : ∀ c ∈ l, c < 128) : Atm (.str (S l)) := .inr (.inr ⟨l, rfl, h⟩)
theorem dp_dat {v : V} (h : Atm v) : Dp K H v (dat v) := by
  rcases h with ⟨b, rfl⟩ | ⟨i, rfl⟩ | ⟨l, rfl, _⟩
  · exact .bl b
  · exact .int i
  · exact .str _
theorem dp_dats : ∀ {vs : List V}, (∀ v ∈ vs, Atm v) → DpAll K H vs (vs.map dat)
  | [], _ => .nil
  | v :: vs, h => .cons (dp_dat (h v List.mem_cons_self)) (dp_dats fun x hx => h x (List.mem_cons_of_mem _ hx))
theorem lay_S {l : List Nat} (h : ∀ c ∈ l, c < 128) : PyData.strOk (S l) = true := by
  show l.toArray.all (fun x => decide (x < 1114112)) = true
  rw [List.all_toArray, List.all_eq_true]
  intro c hc
  have := h c hc
  exact decide_eq_true (by omega)
theorem lay_dat {v : V} (h : Atm v) : (dat v).canLay0 = true ∧ (dat v).depth = 0 ∧ PyData.eqv (dat v) (dat v) = true := by
  rcases h with ⟨b, rfl⟩ | ⟨i, rfl⟩ | ⟨l, rfl, hl⟩
  · exact ⟨rfl, by simp [dat, PyData.depth], by simp [dat, PyData.eqv]⟩
  · exact ⟨rfl, by simp [dat, PyData.depth], by simp [dat, PyData.eqv]⟩
  · exact ⟨by simp [dat, PyData.canLay0, lay_S hl], by simp [dat, PyData.depth], by simp [dat, PyData.eqv]⟩
theorem lay_all : ∀ {ds : List PyData} {n : Nat}, (∀ d ∈ ds, d.canLay0 = true ∧ d.depth ≤ n ∧ PyData.eqv d d = true) → PyData.canLayAll0 ds = true ∧ PyData.depthAll ds ≤ n ∧ PyData.eqvAll ds ds = true
  | [], _, _ => ⟨rfl, by simp [PyData.depthAll], by simp [PyData.eqvAll]⟩
  | d :: ds, n, h => by
    obtain ⟨a1, a2, a3⟩ := h d List.mem_cons_self
    obtain ⟨b1, b2, b3⟩ := lay_all (ds := ds) fun x hx => h x (List.mem_cons_of_mem _ hx)
    refine ⟨?_, ?_, ?_⟩
    · show (PyData.canLay0 d && PyData.canLayAll0 ds) = true
      rw [a1, b1]
      rfl
    · simp only [PyData.depthAll]
      omega
    · simp [PyData.eqvAll, a3, b3]
theorem shpT {ds : List PyData} {n : Nat} (hn : n ≤ 60) (h : ∀ d ∈ ds, d.canLay0 = true ∧ d.depth ≤ n ∧ PyData.eqv d d = true) : SeqAt.shaped (.tuple ds) = true ∧ PyData.eqv (.tuple ds) (.tuple ds) = true := by
  obtain ⟨b1, b2, b3⟩ := lay_all h
  unfold SeqAt.shaped
  rw [Bool.and_eq_true]
  refine ⟨⟨b1, decide_eq_true ?_⟩, ?_⟩
  · simp only [PyData.depth]
    omega
  · simp [PyData.eqv, b3]
theorem dats_ok {vs : List V} (h : ∀ v ∈ vs, Atm v) : ∀ d ∈ vs.map dat, d.canLay0 = true ∧ d.depth ≤ 0 ∧ PyData.eqv d d = true := by
  intro d hd
  obtain ⟨v, hv, rfl⟩ := List.mem_map.mp hd
  obtain ⟨a, b, c⟩ := lay_dat (h v hv)
  exact ⟨a, by omega, c⟩
section
variable {σ : L2.St} {tc tt : TE} {vs : List V}
theorem ne_tup (h1 : EvU tc σ H vs) (h2 : ∀ H1, Ex H H1 → EvU tt σ H1 vs) (ha : ∀ v ∈ vs, Atm v) : Ev (tOp (rNeD K) tc tt) σ H (.bl false) := fun H1 e1 Q q =>
  h1 H1 e1 _ fun t H2 ht e2 g2 => h2 H2 (e1.trans e2) H2 (Ex.refl H2) _ fun t2 H3 ht2 e3 g3 => ⟨_, _, .tup (st_of (e3 _ _ g2)) (dp_dats ha), .tup (st_of g3) (dp_dats ha), (shpT (by decide) (dats_ok ha)).1, (shpT (by decide) (dats_ok ha)).1, by
    rw [(shpT (by decide) (dats_ok ha)).2]
    exact q H3 (e2.trans e3)⟩
theorem eq_tup (h1 : EvU tc σ H vs) (h2 : ∀ H1, Ex H H1 → EvU tt σ H1 vs) (ha : ∀ v ∈ vs, Atm v) : Ev (tOp (rEqD K) tc tt) σ H (.bl true) := fun H1 e1 Q q =>
  h1 H1 e1 _ fun t H2 ht e2 g2 => h2 H2 (e1.trans e2) H2 (Ex.refl H2) _ fun t2 H3 ht2 e3 g3 => ⟨_, _, .tup (st_of (e3 _ _ g2)) (dp_dats ha), .tup (st_of g3) (dp_dats ha), (shpT (by decide) (dats_ok ha)).1, (shpT (by decide) (dats_ok ha)).1, by
    rw [(shpT (by decide) (dats_ok ha)).2]
    exact q H3 (e2.trans e3)⟩
end
end
end Lc
namespace Lc
open PySem PySem.Spec PyProof.Rows L2 Evl
/-! ### zip of two, each a list or a tuple -/
def Itzq (K : PySem.W.Frag) (t u : Bool) (a b : Addr) : It :=
  ⟨fun i H => ∃ (xs ys : List V) (x y : V), Sq K t H a xs ∧ Sq K u H b ys ∧ xs[i]? = some x ∧ ys[i]? = some y,
    fun i H v H' => ∃ T x y, v = .ref T ∧ H T = none ∧ H' = upd H T (.tup [x, y]) ∧ (∀ xs, Sq K t H a xs → xs[i]? = some x) ∧ ∀ ys, Sq K u H b ys → ys[i]? = some y,
    fun i H => ∃ xs ys : List V, Sq K t H a xs ∧ Sq K u H b ys ∧ i ≤ xs.length ∧ i ≤ ys.length ∧ (i = xs.length ∨ i = ys.length)⟩
theorem sq_obj {X : Cx} {pins : List (Addr × Obj)} {σ : L2.St} {H : Hp} {s : Shared} {t : Bool} {b : Addr} {ys : List V} (I : Inv X pins σ H s) (h : Sq X.K t H b ys) : ∃ its, Vals ys its ∧ SqO t b its.toArray s.heap := by
  cases t
  · obtain ⟨its, rv, p, _⟩ := I.list h
    exact ⟨its, rv, p.isList⟩
  · obtain ⟨its, rv, p, _⟩ := I.tuple h
    exact ⟨its, rv, p⟩
theorem sqo_lt {t : Bool} {b : Addr} {its : Array Value} {h : Heap} (p : SqO t b its h) : b < h.objs.size := by
  cases t
  · obtain ⟨o, ho, _⟩ := (show h.IsList b its from p)
    exact Heap.lt_size ho
  · obtain ⟨o, ho, _⟩ := (show h.IsTuple b its from p)
    exact Heap.lt_size ho
theorem sqo_begins (t : Bool) (b : Addr) (its : Array Value) : Begins (.ref b) { cls := .type (if t then "tuple_iterator" else "list_iterator"), data := .fields #[.ref b, .int 0 0] } (SqO t b its) := by
  cases t
  · exact begins_list b its
  · exact begins_tuple b its
theorem its_start {t : Bool} {it b : Addr} {h : Heap} (e : h.get? it = some { cls := .type (if t then "tuple_iterator" else "list_iterator"), data := .fields #[.ref b, .int 0 0] }) : ItS t it b 0 h := by
  cases t
  · exact ⟨_, e, rfl, rfl⟩
  · exact ⟨_, e, rfl, rfl⟩
theorem turn_zipq {P : Program} {w : World} {K : PySem.W.Frag} {elts : List Expr} {kk : Nat} {tpos : Pos} {t u : Bool} {a b z TI TO i1 i2 : Addr} (S : ZipSep2 z TI TO i1 i2 [i1, a] [i2, b]) (ha1 : a ≠ i1) (hb2 : b ≠ i2) :
    Turn P w K (.Tuple elts kk tpos) (Itzq K t u a b) [z, TI, TO, i1, i2] z (fun i h => IsZip h z TI TO .none ∧ IsTupOf2 h TI (.ref i1) (.ref i2) ∧ (∃ a1 a2, IsTupOf2 h TO a1 a2) ∧ ItS t i1 a i h ∧ ItS u i2 b i h) where
  mem := by simp
  obj := fun i h st c hc => by
    obtain ⟨hz, hTI, ⟨a1, a2, hTO⟩, h1, h2⟩ := st
    obtain ⟨o1, e1, v1, k1, d1⟩ := h1.live
    obtain ⟨o2, e2, v2, k2, d2⟩ := h2.live
    have e' : c = z ∨ c = TI ∨ c = TO ∨ c = i1 ∨ c = i2 := by simpa using hc
    rcases e' with q | q | q | q | q
    · rw [q]; exact ⟨_, hz, fun v q => nomatch q⟩
    · rw [q]; exact ⟨_, hTI, fun v q => nomatch q⟩
    · rw [q]; exact ⟨_, hTO, fun v q => nomatch q⟩
    · rw [q]; exact ⟨o1, e1, fun v q => by rw [d1] at q; cases q⟩
    · rw [q]; exact ⟨o2, e2, fun v q => by rw [d2] at q; cases q⟩
  keep := fun i h h' st k => by
    obtain ⟨hz, hTI, ⟨x, y, hTO⟩, h1, h2⟩ := st
    exact ⟨k z (by simp) _ hz, k TI (by simp) _ hTI, ⟨x, y, k TO (by simp) _ hTO⟩, h1.at fun o q => k i1 (by simp) o q, h2.at fun o q => k i2 (by simp) o q⟩
  item := by
    intro X hP hw hK hc i pins s σ H E I hf st hg
    subst hP hw hK
    obtain ⟨hz, hTI, ⟨x0, y0, hTO⟩, h1, h2⟩ := st
    obtain ⟨xs, ys, x, y, hqx, hqy, hx, hy⟩ := hg
    obtain ⟨its1, rv1, p1⟩ := sq_obj I hqx
    obtain ⟨its, rv, p⟩ := sq_obj I hqy
    have hzl : z < s.heap.objs.size := Heap.lt_size hz
    have hxl : i < its1.toArray.size := by
      have h := List.getElem?_eq_some_iff.mp hx
      rw [List.size_toArray, ← rv1.length]
      exact h.1
    have hyl : i < its.toArray.size := by
      have h := List.getElem?_eq_some_iff.mp hy
      rw [List.size_toArray, ← rv.length]
      exact h.1
    have D1 := drawsS (prog := X.prog) (w := X.w) (A := X.A.in1) (I.ok.hd hc) t i1 a ha1 its1.toArray
    have D2 := drawsS (prog := X.prog) (w := X.w) (A := X.A.in1) (I.ok.hd hc) u i2 b hb2 its.toArray
    refine wpAny_pyNext_zipD2_item S D1 D2 hz hTI hTO ⟨h1, p1⟩ ⟨h2, p⟩ hxl hyl fun v1 v2 h' tk y1 y2 z' TO' st1 st2 hT hsz hk => ?_
    obtain ⟨u1, hu1, ru1⟩ := rv1.get hx
    have y1' : its1[i]? = some v1 := by simpa using y1
    have y3' := hu1.symm.trans y1'
    cases y3'
    obtain ⟨u2, hu2, ru2⟩ := rv.get hy
    have y2' : its[i]? = some v2 := by simpa using y2
    have y3 := hu2.symm.trans y2'
    cases y3
    refine ⟨_, rfl, wpAny_letOwnedTupleGo_zip (s := { s with heap := h', toks := tk }) z' fun h'' z'' sb => ?_⟩
    have hT2 : h''.get? s.heap.objs.size = some { cls := .type "tuple", data := .seq #[v1, v2] } := (sb.2 _ (Nat.ne_of_gt hzl)).trans hT
    have new : ObjOk X.prog X.w (upd H s.heap.objs.size (.tup [x, y])) h'' s.heap.objs.size (.tup [x, y]) :=
      ⟨by show 2 ≤ sizeLine; decide, [v1, v2], .cons ru1 (.cons ru2 .nil), ⟨_, hT2, rfl, _, rfl⟩⟩
    have I1 : Inv X pins σ (upd H s.heap.objs.size (.tup [x, y])) { s with heap := h'', toks := tk } :=
      I.turnedNew (t' := tk) (ch := [z, TI, TO, i1, i2]) (fun c o hb q => (sb.2 c (fun q' => hb (by simp [q']))).trans (hk c o (fun q' => hb (by simp [q'])) (fun q' => hb (by simp [q'])) (fun q' => hb (by simp [q'])) (fun q' => hb (by simp [q'])) q)) hf (Nat.le_refl _) new
    refine ⟨.ref s.heap.objs.size, _, I1, rfl, ⟨_, x, y, rfl, I.hok.fresh (Nat.le_refl _), rfl, fun l hl => by rw [Sq.inj I hl hqx]; exact hx, fun l hl => by rw [Sq.inj I hl hqy]; exact hy⟩, ⟨z'', ?_, ⟨v1, v2, ?_⟩, ?_, ?_⟩, fun c hcm => ?_⟩
    · exact (sb.2 _ S.TIz).trans (hk _ _ S.TIz S.TITO S.TIi1 S.TIi2 hTI)
    · exact (sb.2 _ S.TOz).trans TO'
    · exact st1.1.at fun o q => (sb.2 _ S.zi1.symm).trans q
    · exact st2.1.at fun o q => (sb.2 _ S.zi2.symm).trans q
    · have hlt : c < s.heap.objs.size := by
        have e' : c = z ∨ c = TI ∨ c = TO ∨ c = i1 ∨ c = i2 := by simpa using hcm
        rcases e' with q | q | q | q | q
        · rw [q]; exact hzl
        · rw [q]; exact Heap.lt_size hTI
        · rw [q]; exact Heap.lt_size hTO
        · rw [q]; obtain ⟨_, e1, _⟩ := h1.live; exact Heap.lt_size e1
        · rw [q]; obtain ⟨_, e2, _⟩ := h2.live; exact Heap.lt_size e2
      rw [upd_ne (Nat.ne_of_lt hlt)]
      exact (hf c hcm).1
  done := by
    intro X hP hw hK hc i pins s σ H E I hf st hg
    subst hP hw hK
    obtain ⟨hz, hTI, ⟨x0, y0, hTO⟩, h1, h2⟩ := st
    obtain ⟨xs, ys, hqx, hqy, l1, l2, hend⟩ := hg
    obtain ⟨its1, rv1, p1⟩ := sq_obj I hqx
    obtain ⟨its, rv, p⟩ := sq_obj I hqy
    have hl1 := rv1.length
    have hl := rv.length
    have D1 := drawsS (prog := X.prog) (w := X.w) (A := X.A.in1) (I.ok.hd hc) t i1 a ha1 its1.toArray
    have D2 := drawsS (prog := X.prog) (w := X.w) (A := X.A.in1) (I.ok.hd hc) u i2 b hb2 its.toArray
    exact wpAny_pyNext_zipD2_end S D1 D2 hz hTI hTO ⟨h1, p1⟩ ⟨h2, p⟩ (by rw [List.size_toArray]; omega) (by rw [List.size_toArray]; omega) (hend.imp (fun q => by rw [List.size_toArray]; omega) fun q => by rw [List.size_toArray]; omega) fun h' tk hk => ⟨rfl, I.turnedL (t' := tk) (ch := [z, TI, TO, i1, i2]) (fun c o hb q =>
      hk c o (fun q' => hb (by simp [q'])) (fun q' => hb (by simp [q'])) (fun q' => hb (by simp [q'])) (fun q' => hb (by simp [q'])) q) hf⟩
  self := fun A i s Q E st h => wpAny_pyIter_zip st.1 h
def iZipQ (K : PySem.W.Frag) (ta : TA) : TI := fun σ H R => ta σ H fun vs H1 => ∃ (t u : Bool) (a b : Addr) (xs ys : List V), vs = [.ref a, .ref b] ∧ Sq K t H1 a xs ∧ Sq K u H1 b ys ∧ R (Itzq K t u a b) H1
theorem pi_zipQ (K : PySem.W.Frag) {X : Cx} {e e2 : Expr} {ta : TA} {p pos tpos : Pos} {elts : List Expr} {kk : Nat} (hK : X.K = K) (hg : Gl X "zip") (hm : X.mg "zip" = none) (ha : PA X [e, e2] ta)
    (hs : starEach [e, e2] X.env = (false, eval e X.env) :: starEach [e2] X.env := by rfl) (hpl : (backTo pos (starEach [e2] X.env)).any (·.1) = false := by rfl) :
    PI X (.Tuple elts kk tpos) (.Call (.Name "zip" p) [e, e2] [] pos) (iZipQ K ta) := by
  subst hK
  refine ⟨fun pins s σ H R I h => ?_⟩
  refine Call_ (ld_blt I hg hm PyProof.Rows.boot_zip (PyProof.Rows.callWith_type1 (thn (ha.run pos pins s σ H _ I h) fun us s1 ⟨vs, H1, I1, r1, q1⟩ => ?_) hs hpl))
  obtain ⟨t, u, a, b, xs, ys, ex, hqx, hq, q⟩ := q1
  subst ex
  cases r1 with
  | cons r rr =>
    cases rr with
    | cons r' rr =>
      cases rr
      cases r
      cases r'
      have fresh5 : ∀ c, c ∈ [s1.heap.objs.size + 4, s1.heap.objs.size + 2, s1.heap.objs.size + 3, s1.heap.objs.size, s1.heap.objs.size + 1] → FpOk X pins H1 c := fun c hcm => by
        have e' : c = s1.heap.objs.size + 4 ∨ c = s1.heap.objs.size + 2 ∨ c = s1.heap.objs.size + 3 ∨ c = s1.heap.objs.size ∨ c = s1.heap.objs.size + 1 := by simpa using hcm
        have hle : s1.heap.objs.size ≤ c := by
          rcases e' with z | z | z | z | z
          · rw [z]; exact Nat.le_add_right _ _
          · rw [z]; exact Nat.le_add_right _ _
          · rw [z]; exact Nat.le_add_right _ _
          · rw [z]; exact Nat.le_refl _
          · rw [z]; exact Nat.le_add_right _ _
        exact I1.fpOk hle (I1.hok.fresh hle)
      obtain ⟨its1, rv1, p1⟩ := sq_obj I1 hqx
      obtain ⟨its, rv, p⟩ := sq_obj I1 hq
      have hal := sqo_lt p1
      have hbl := sqo_lt p
      refine zip_begins2 (sqo_begins t a its1.toArray) (sqo_begins u b its.toArray) p1 p fun h' hz hTI hTO h1 h2 hsz hk => wpAny_pyIter_zip hz ?_
      have I2 : Inv X pins σ H1 { s1 with heap := h' } := I1.kept (t' := s1.toks) hk
      have S2 : ZipSep2 (s1.heap.objs.size + 4) (s1.heap.objs.size + 2) (s1.heap.objs.size + 3) s1.heap.objs.size (s1.heap.objs.size + 1) [s1.heap.objs.size, a] [s1.heap.objs.size + 1, b] :=
        ⟨aN _ (by decide : 2 ≠ 4), aN _ (by decide : 3 ≠ 4), aN _ (by decide : 2 ≠ 3), aN _ (by decide : 2 ≠ 0), by simp, fun h => (List.mem_cons.mp h).elim (aN _ (by decide : 4 ≠ 0)) fun h => bN 4 hal (List.mem_singleton.mp h).symm, fun h => (List.mem_cons.mp h).elim (aN _ (by decide : 3 ≠ 0)) fun h => bN 3 hal (List.mem_singleton.mp h).symm, aN _ (by decide : 2 ≠ 1), by simp,
          fun h => (List.mem_cons.mp h).elim (aN _ (by decide : 4 ≠ 1)) fun h => bN 4 hbl (List.mem_singleton.mp h).symm, fun h => (List.mem_cons.mp h).elim (aN _ (by decide : 3 ≠ 1)) fun h => bN 3 hbl (List.mem_singleton.mp h).symm, fun h => (List.mem_cons.mp h).elim (aN _ (by decide : 0 ≠ 1)) fun h => bN 0 hbl (List.mem_singleton.mp h).symm, fun h => (List.mem_cons.mp h).elim (aN _ (by decide : 1 ≠ 0)) fun h => bN 1 hal (List.mem_singleton.mp h).symm⟩
      exact ⟨s1.heap.objs.size + 4, [s1.heap.objs.size + 4, s1.heap.objs.size + 2, s1.heap.objs.size + 3, s1.heap.objs.size, s1.heap.objs.size + 1], _, _, H1, rfl, I2, turn_zipq S2 (bN 0 hal) (bN 1 hbl), ⟨hz, hTI, ⟨_, _, hTO⟩, its_start h1, its_start h2⟩, fresh5, q⟩
theorem walk_zipq {K : PySem.W.Frag} {t u : Bool} {a b : Addr} {xs ys : List V} {n : Nat} (hn : n = min xs.length ys.length) :
    Walk (Itzq K t u a b) n (fun H => Sq K t H a xs ∧ Sq K u H b ys) (fun i H v H' => ∃ T x y, v = .ref T ∧ H T = none ∧ H' = upd H T (.tup [x, y]) ∧ xs[i]? = some x ∧ ys[i]? = some y) := by
  subst hn
  refine ⟨fun i H hi h => ?_, fun H h => ⟨xs, ys, h.1, h.2, by omega, by omega, by omega⟩, fun i H v H' hi h y => ?_⟩
  · have h1 : i < xs.length := by omega
    have h2 : i < ys.length := by omega
    exact ⟨xs, ys, xs[i], ys[i], h.1, h.2, by simp [h1], by simp [h2]⟩
  · obtain ⟨T, x, y, e1, e2, e3, e4, e5⟩ := y
    exact ⟨T, x, y, e1, e2, e3, e4 xs h.1, e5 ys h.2⟩
/-! ### enumerate of a list or a tuple -/
theorem meets_enumerate_newQ {v : Value} {o : Obj} {H : Heap → Prop} (B : Begins v o H) :
    Meets (Builtin.«enumerate.__new__» ⟨[.type "enumerate", v], []⟩) (fun _ R s => H s.heap ∧
      R (.ok (.ret (.ref (s.heap.push o).objs.size))) { s with heap := (s.heap.push o).push { cls := .type "enumerate", data := .fields #[.none, .bool false, .ref s.heap.objs.size, rawInt 0, .none, .none] } }) :=
  .of_wp fun prog w A R s h => by
    obtain ⟨hp, g, d, tk, os⟩ := s; obtain ⟨h1, h⟩ := h
    have hsub := sub_enumerate
    have q1 : ∀ {A' : Around} {E : Value → Shared → Prop} {Q : Value → Shared → Prop}, Q (.ref hp.objs.size) ⟨hp.push o, g, d, tk, os⟩ → wpAny (model prog w) A' (pyIter v) Q E ⟨hp, g, d, tk, os⟩ :=
      fun q => B.iter prog w _ _ ⟨hp, g, d, tk, os⟩ _ h1 q
    wp_walk using q1
    refine wpAny_stack_any fun st => wpAny_pure ?_
    split
    · rename_i c _ _ _ _ _
      cases (c == Value.type "enumerate")
      · wp_walk using q1
        exact ⟨_, rfl, h⟩
      · wp_walk using q1
        exact ⟨_, rfl, h⟩
    · wp_walk using q1
      exact ⟨_, rfl, h⟩
theorem enum_begins1 {prog : Program} {w : World} {A : Around} {E : Value → Shared → Prop} {s : Shared} {v : Value} {o : Obj} {H : Heap → Prop} {Q : Value → Shared → Prop} (B : Begins v o H) (h1 : H s.heap)
    (h : ∀ h', IsEnum h' (s.heap.objs.size + 1) s.heap.objs.size 0 .none → h'.get? s.heap.objs.size = some o → h'.objs.size = s.heap.objs.size + 2 →
      (∀ b o, s.heap.get? b = some o → h'.get? b = some o) → Q (.ref (s.heap.objs.size + 1)) { s with heap := h' }) :
    wpAny (model prog w) A (call (.type "enumerate") [v]) Q E s := by
  refine callType_new F.called_enumerate (by decide) (F.typeCall_enumerate_1 _) (F.newCall_enumerate_1 _) (fun obj => F.args_object_init_2 obj _) F.entry_enumerate_new
    (meets_enumerate_newQ B) ⟨h1, ?_⟩
  have hz : (s.heap.push o).objs.size = s.heap.objs.size + 1 := Heap.size_push ..
  show _ ∧ _
  rw [hz]
  have he : IsEnum ((s.heap.push o).push { cls := .type "enumerate", data := .fields #[.none, .bool false, .ref s.heap.objs.size, rawInt 0, .none, .none] }) (s.heap.objs.size + 1) s.heap.objs.size 0 .none := by
    have := Heap.get?_push_size (s.heap.push o) (o := { cls := .type "enumerate", data := .fields #[.none, .bool false, .ref s.heap.objs.size, rawInt 0, .none, .none] }) rfl
    rw [hz] at this; exact this
  refine ⟨⟨_, he, rfl⟩, h _ he (Heap.get?_push_of_some _ (Heap.get?_push_size _ B.free)) (by rw [Heap.size_push, hz]) fun b o x => Heap.get?_push_of_some _ (Heap.get?_push_of_some _ x)⟩
def Iteq (K : PySem.W.Frag) (t : Bool) (a : Addr) : It :=
  ⟨fun i H => ∃ (xs : List V) (x : V), Sq K t H a xs ∧ xs[i]? = some x, fun i H v H' => ∃ T x, v = .ref T ∧ H T = none ∧ H' = upd H T (.tup [.int (i : Nat), x]) ∧ ∀ xs, Sq K t H a xs → xs[i]? = some x, fun i H => ∃ xs : List V, Sq K t H a xs ∧ i = xs.length⟩
theorem turn_enumq {P : Program} {w : World} {K : PySem.W.Frag} {elts : List Expr} {kk : Nat} {tpos : Pos} {t : Bool} (a e it : Addr) (ha : a ≠ it) (hae : e ≠ a) :
    Turn P w K (.Tuple elts kk tpos) (Iteq K t a) [e, it] e (fun i h => (∃ old, IsEnum h e it ((i : Nat) : Int) old) ∧ ItS t it a i h ∧ e ≠ it) where
  mem := by simp
  obj := fun i h st b hb => by
    obtain ⟨⟨old, he⟩, h1, _⟩ := st
    obtain ⟨o, ho, v, k, hd⟩ := h1.live
    have e' : b = e ∨ b = it := by simpa using hb
    rcases e' with z | z
    · rw [z]; exact ⟨_, he, fun v q => nomatch q⟩
    · rw [z]; exact ⟨o, ho, fun v q => by rw [hd] at q; cases q⟩
  keep := fun i h h' st k => let ⟨⟨old, he⟩, hi, hne⟩ := st; ⟨⟨old, k e (by simp) _ he⟩, hi.at fun o q => k it (by simp) o q, hne⟩
  item := by
    intro X hP hw hK hc i pins s σ H E I hf st hg
    subst hP hw hK
    obtain ⟨⟨old, he⟩, hit, hne⟩ := st
    obtain ⟨xs, x, hq, hx⟩ := hg
    obtain ⟨its, rv, p⟩ := sq_obj I hq
    have hel : e < s.heap.objs.size := Heap.lt_size he
    have hil : it < s.heap.objs.size := by obtain ⟨_, q, _⟩ := hit.live; exact Heap.lt_size q
    have hxl : i < its.toArray.size := by
      have h := List.getElem?_eq_some_iff.mp hx
      rw [List.size_toArray, ← rv.length]
      exact h.1
    have D := drawsS (prog := X.prog) (w := X.w) (A := X.A.in1) (I.ok.hd hc) t it a ha its.toArray
    refine wpAny_pyNext_enum_itemD D he ⟨hit, p⟩ hxl hne (by simp only [List.mem_cons, List.not_mem_nil, or_false]; exact fun q => q.elim hne hae) fun u h' tk hu0 ho hit' hT hsz hk => ?_
    obtain ⟨u1, hu1, ru⟩ := rv.get hx
    have y1' : its[i]? = some u := by simpa using hu0
    have y3' := hu1.symm.trans y1'
    cases y3'
    refine ⟨_, rfl, wpAny_letOwnedTupleGo_enum (s := { s with heap := h', toks := tk + 1 }) ho fun h'' he' sb => ?_⟩
    have hT2 : h''.get? s.heap.objs.size = some { cls := .type "tuple", data := .seq #[.int i tk, u] } := (sb.2 _ (Nat.ne_of_gt hel)).trans hT
    have new : ObjOk X.prog X.w (upd H s.heap.objs.size (.tup [.int (i : Nat), x])) h'' s.heap.objs.size (.tup [.int (i : Nat), x]) :=
      ⟨by show 2 ≤ sizeLine; decide, [.int i tk, u], .cons ⟨_, rfl⟩ (.cons ru .nil), ⟨_, hT2, rfl, _, rfl⟩⟩
    have I1 : Inv X pins σ (upd H s.heap.objs.size (.tup [.int (i : Nat), x])) { s with heap := h'', toks := tk + 1 } :=
      I.turnedNew (ch := [e, it]) (fun b ob hb q => (sb.2 b (fun z => hb (by simp [z]))).trans (hk b ob (fun z => hb (by simp [z])) (fun z => hb (by simp [z])) q)) hf (Nat.le_refl _) new
    refine ⟨.ref s.heap.objs.size, _, I1, rfl, ⟨_, x, rfl, I.hok.fresh (Nat.le_refl _), rfl, fun ys hy => by rw [Sq.inj I hy hq]; exact hx⟩, ⟨⟨u, ?_⟩, hit'.1.at fun o q => (sb.2 it (Ne.symm hne)).trans q, hne⟩, fun b hb => ?_⟩
    · have e1 : ((i + 1 : Nat) : Int) = (i : Int) + 1 := by omega
      rw [e1]; exact he'
    · have hb' : b < s.heap.objs.size := by
        have e' : b = e ∨ b = it := by simpa using hb
        rcases e' with z | z
        · rw [z]; exact hel
        · rw [z]; exact hil
      rw [upd_ne (Nat.ne_of_lt hb')]
      exact (hf b hb).1
  done := by
    intro X hP hw hK hc i pins s σ H E I hf st hg
    subst hP hw hK
    obtain ⟨⟨old, he⟩, hit, hne⟩ := st
    obtain ⟨xs, hq, hx⟩ := hg
    obtain ⟨its, rv, p⟩ := sq_obj I hq
    obtain ⟨f0, f1, f2, f3, f4, f5⟩ := hf it (by simp)
    have hl := rv.length
    have D := drawsS (prog := X.prog) (w := X.w) (A := X.A.in1) (I.ok.hd hc) t it a ha its.toArray
    exact wpAny_pyNext_enum_endD D he (by rw [List.size_toArray, ← hl, ← hx]; exact ⟨hit, p⟩) fun h' eb => ⟨rfl, I.turned (t' := s.toks) (fun b o hb q => eb b o hb q) f0 f1 f3 f4 f5⟩
  self := fun A i s Q E st h => let ⟨⟨_, he⟩, _⟩ := st; wpAny_pyIter_enum he h
def iEnumQ (K : PySem.W.Frag) (ta : TA) : TI := fun σ H R => ta σ H fun vs H1 => ∃ t a xs, vs = [.ref a] ∧ Sq K t H1 a xs ∧ R (Iteq K t a) H1
theorem pi_enumQ (K : PySem.W.Frag) {X : Cx} {e : Expr} {ta : TA} {p pos tpos : Pos} {elts : List Expr} {kk : Nat} (hK : X.K = K) (hg : Gl X "enumerate") (hm : X.mg "enumerate" = none) (ha : PA X [e] ta) (hs : starEach [e] X.env = [(false, eval e X.env)] := by rfl) :
    PI X (.Tuple elts kk tpos) (.Call (.Name "enumerate" p) [e] [] pos) (iEnumQ K ta) := by
  subst hK
  refine ⟨fun pins s σ H R I h => ?_⟩
  refine Call_ (ld_blt I hg hm boot_enumerate (PyProof.Rows.callWith_type1 (thn (ha.run pos pins s σ H _ I h) fun us s1 ⟨vs, H1, I1, r1, q1⟩ => ?_) hs rfl))
  obtain ⟨t, a, xs, ex, hq, q⟩ := q1
  subst ex
  cases r1 with
  | cons r rr =>
    cases rr
    cases r
    obtain ⟨its, rv, p'⟩ := sq_obj I1 hq
    have hal := sqo_lt p'
    refine enum_begins1 (sqo_begins t a its.toArray) p' fun h' he hit hsz hk => wpAny_pyIter_enum he ?_
    have I2 : Inv X pins σ H1 { s1 with heap := h' } := I1.kept (t' := s1.toks) hk
    refine ⟨s1.heap.objs.size + 1, [s1.heap.objs.size + 1, s1.heap.objs.size], _, _, H1, rfl, I2, turn_enumq a (s1.heap.objs.size + 1) s1.heap.objs.size (bN 0 hal) (bN 1 hal).symm, ⟨⟨.none, he⟩, its_start hit, Nat.succ_ne_self _⟩, fun b hb => ?_, q⟩
    have e' : b = s1.heap.objs.size + 1 ∨ b = s1.heap.objs.size := by simpa using hb
    have hle : s1.heap.objs.size ≤ b := by
      rcases e' with z | z
      · rw [z]; exact Nat.le_add_right _ _
      · rw [z]; exact Nat.le_refl _
    exact I1.fpOk hle (I1.hok.fresh hle)
theorem walk_enumq {K : PySem.W.Frag} {t : Bool} {a : Addr} {xs : List V} : Walk (Iteq K t a) xs.length (fun H => Sq K t H a xs) (fun i H v H' => ∃ T x, v = .ref T ∧ H T = none ∧ H' = upd H T (.tup [.int (i : Nat), x]) ∧ xs[i]? = some x) := by
  refine ⟨fun i H hi h => ⟨xs, xs[i], h, by simp [hi]⟩, fun H h => ⟨xs, h, rfl⟩, fun i H v H' hi h y => ?_⟩
  obtain ⟨T, x, e1, e2, e3, e4⟩ := y
  exact ⟨T, x, e1, e2, e3, e4 xs h⟩
end Lc
namespace Lc
open PySem PySem.Spec PyProof.Rows L2 Evl
/-! ### what a window changes, place by place -/
/-- the place in a flat table of the i-th sign c of a window that begins at st -/
def plc (m st i c : Nat) : Nat := (c - 97) * m + (st + i) % m
def bmp (m st : Nat) (d : Int) (v : List Int) (i c : Nat) : List Int := if c = 46 then v else v.set (plc m st i c) (v.getD (plc m st i c) 0 + d)
def wv (m st : Nat) (d : Int) (l : List Nat) (v : List Int) : Nat → List Int
  | 0 => v
  | i + 1 => bmp m st d (wv m st d l v i) i (l.getD i 46)
def chg (k m st : Nat) (p : List Nat × List Nat) : List Int := wv m st 1 p.2 (wv m st (-1) p.1 (List.replicate (k * m) 0) p.1.length) p.2.length
def dot (v F : List Int) : Int := (List.zipWith (· * ·) v F).sum
def wt (m st : Nat) (F : List Int) (l : List Nat) : Nat → Int
  | 0 => 0
  | i + 1 => wt m st F l i + (if l.getD i 46 = 46 then 0 else F.getD (plc m st i (l.getD i 46)) 0)
/-- signs of k kinds, and the free place -/
def KnW (k : Nat) (l : List Nat) : Prop := ∀ c ∈ l, c = 46 ∨ (97 ≤ c ∧ c < 97 + k)
theorem plc_lt {k m st i c : Nat} (hm : 0 < m) (hc : 97 ≤ c ∧ c < 97 + k) : plc m st i c < k * m := by
  unfold plc
  have h1 := Nat.mod_lt (st + i) hm
  have h2 : c - 97 + 1 ≤ k := by omega
  have h3 := Nat.mul_le_mul_right m h2
  rw [Nat.add_mul, Nat.one_mul] at h3
  omega
theorem KnW.at_ {k : Nat} {l : List Nat} (h : KnW k l) {i : Nat} (hi : i < l.length) : l.getD i 46 = 46 ∨ (97 ≤ l.getD i 46 ∧ l.getD i 46 < 97 + k) := by
  rw [List.getD_eq_getElem?_getD, List.getElem?_eq_getElem hi]
  exact h _ (List.getElem_mem hi)
theorem bmp_len (m st : Nat) (d : Int) (v : List Int) (i c : Nat) : (bmp m st d v i c).length = v.length := by
  unfold bmp
  split
  · rfl
  · exact List.length_set
theorem wv_len (m st : Nat) (d : Int) (l : List Nat) (v : List Int) : ∀ n, (wv m st d l v n).length = v.length
  | 0 => rfl
  | n + 1 => by
    show (bmp m st d (wv m st d l v n) n (l.getD n 46)).length = v.length
    rw [bmp_len, wv_len m st d l v n]
theorem chg_len (k m st : Nat) (p : List Nat × List Nat) : (chg k m st p).length = k * m := by
  unfold chg
  rw [wv_len, wv_len, List.length_replicate]
theorem dot_set (d : Int) : ∀ (v F : List Int) (a : Nat), a < v.length → dot (v.set a (v.getD a 0 + d)) F = dot v F + d * F.getD a 0
  | [], F, a, h => absurd h (Nat.not_lt_zero _)
  | x :: v, [], a, h => by
    unfold dot
    rw [List.zipWith_nil_right, List.zipWith_nil_right]
    simp
  | x :: v, y :: F, 0, h => by
    show ((x + d) * y) + (List.zipWith (· * ·) v F).sum = (x * y + (List.zipWith (· * ·) v F).sum) + d * y
    rw [Int.add_mul]
    omega
  | x :: v, y :: F, a + 1, h => by
    have ih := dot_set d v F a (Nat.lt_of_succ_lt_succ h)
    unfold dot at ih
    show x * y + (List.zipWith (· * ·) (v.set a (v.getD a 0 + d)) F).sum = (x * y + (List.zipWith (· * ·) v F).sum) + d * F.getD a 0
    rw [ih]
    omega
theorem dot_wv {k m st : Nat} {d : Int} {l : List Nat} {v F : List Int} (hm : 0 < m) (hl : KnW k l) (hv : v.length = k * m) : ∀ n, n ≤ l.length → dot (wv m st d l v n) F = dot v F + d * wt m st F l n
  | 0, _ => by
    show dot v F = dot v F + d * 0
    rw [Int.mul_zero, Int.add_zero]
  | n + 1, h => by
    have ih := dot_wv (st := st) (d := d) (F := F) hm hl hv n (by omega)
    show dot (bmp m st d (wv m st d l v n) n (l.getD n 46)) F = dot v F + d * (wt m st F l n + (if l.getD n 46 = 46 then 0 else F.getD (plc m st n (l.getD n 46)) 0))
    unfold bmp
    by_cases hc : l.getD n 46 = 46
    · rw [if_pos hc, if_pos hc, ih, Int.add_zero]
    · rw [if_neg hc, if_neg hc]
      rcases hl.at_ (i := n) (by omega) with h1 | h1
      · exact absurd h1 hc
      · rw [dot_set _ _ _ _ (by rw [wv_len, hv]; exact plc_lt hm h1), ih, Int.mul_add]
        omega
theorem dot_zero (F : List Int) : ∀ n, dot (List.replicate n 0) F = 0
  | 0 => rfl
  | n + 1 => by
    match F with
    | [] => rfl
    | y :: F =>
      have ih := dot_zero F n
      unfold dot at ih ⊢
      show (0 * y) + (List.zipWith (· * ·) (List.replicate n 0) F).sum = 0
      rw [ih, Int.zero_mul]
      rfl
theorem dot_chg {k m st : Nat} {p : List Nat × List Nat} {F : List Int} (hm : 0 < m) (h1 : KnW k p.1) (h2 : KnW k p.2) : dot (chg k m st p) F = wt m st F p.2 p.2.length - wt m st F p.1 p.1.length := by
  unfold chg
  rw [dot_wv hm h2 (by rw [wv_len, List.length_replicate]) _ (Nat.le_refl _), dot_wv hm h1 (by rw [List.length_replicate]) _ (Nat.le_refl _), dot_zero]
  omega
/-- the sum over the places -/
theorem dot_range : ∀ (v F : List Int), v.length = F.length → ((List.range F.length).map fun i => v.getD i 0 * F.getD i 0).sum = dot v F
  | [], [], _ => rfl
  | [], y :: F, h => absurd h (by simp)
  | x :: v, [], h => absurd h (by simp)
  | x :: v, y :: F, h => by
    have ih := dot_range v F (by simpa using h)
    unfold dot at ih ⊢
    rw [List.length_cons, List.range_succ_eq_map, List.map_cons, List.sum_cons, List.map_map]
    show x * y + _ = x * y + (List.zipWith (· * ·) v F).sum
    rw [← ih]
    rfl
end Lc
namespace Lc
open PySem PySem.Spec PyProof.Rows L2 Evl
open PySem.StrLaws PySem.Builtin PySem.Builtin.Str
/-! ### where a sign stands in a text -/
theorem occ_full (s sub : PySem.Str) (hi : Nat) : ∀ (l : List Nat) (st : Array Nat × Nat), 1 ≤ st.fst.size → (forIn l st (occBody s sub hi 1)).run.fst = st.fst
  | [], st, h => rfl
  | a :: l, st, h => by
    rw [List.forIn_cons]
    unfold occBody
    have c2 : ¬ (((st.fst.size < 1 ∧ st.snd ≤ a) ∧ a + sub.length ≤ hi) ∧ subAt s sub a = true) := fun h' => by have := h'.1.1.1; omega
    rw [if_neg c2]
    exact occ_full s sub hi l st h
theorem occ_one (s sub : PySem.Str) (hi : Nat) : ∀ (a : List Nat) (free k : Nat) (b : List Nat), (∀ i ∈ a ++ k :: b, free ≤ i) → (∀ i ∈ a, ¬ (i + sub.length ≤ hi ∧ subAt s sub i = true)) → (k + sub.length ≤ hi ∧ subAt s sub k = true) → (forIn (a ++ k :: b) ((#[] : Array Nat), free) (occBody s sub hi 1)).run.fst = #[k]
  | [], free, k, b, hf, _, hk => by
    rw [List.nil_append, List.forIn_cons]
    unfold occBody
    have c1 : ((((#[] : Array Nat), free).fst.size < 1 ∧ ((#[] : Array Nat), free).snd ≤ k) ∧ k + sub.length ≤ hi) ∧ subAt s sub k = true := ⟨⟨⟨by simp, hf k (by simp)⟩, hk.1⟩, hk.2⟩
    rw [if_pos c1]
    exact occ_full s sub hi b _ (by simp)
  | x :: a, free, k, b, hf, hn, hk => by
    rw [List.cons_append, List.forIn_cons]
    unfold occBody
    have c2 : ¬ (((((#[] : Array Nat), free).fst.size < 1 ∧ ((#[] : Array Nat), free).snd ≤ x) ∧ x + sub.length ≤ hi) ∧ subAt s sub x = true) := fun h => hn x List.mem_cons_self ⟨h.1.2, h.2⟩
    rw [if_neg c2]
    exact occ_one s sub hi a free k b (fun i hi' => hf i (List.mem_cons_of_mem _ hi')) (fun i hi' => hn i (List.mem_cons_of_mem _ hi')) hk
theorem find1 {l : List Nat} {c : Nat} (h : c ∈ l) : Txt.find (S l) (S [c]) = ((l.idxOf c : Nat) : Int) := by
  have hi := List.idxOf_lt_length_of_mem h
  have hL : (S l).length = l.length := S_len l
  have e : List.range' 0 ((S l).length + 1 - 0) = List.range' 0 (l.idxOf c) ++ l.idxOf c :: List.range' (l.idxOf c + 1) ((S l).length - l.idxOf c) := by
    rw [hL, show l.length + 1 - 0 = l.idxOf c + ((l.length - l.idxOf c) + 1) by omega, ← List.range'_append_1, List.range'_succ, Nat.zero_add]
  unfold Txt.find
  have key : occurrences (S l) (S [c]) 0 (S l).length 1 = [l.idxOf c] := by
    rw [occ_eq, e, occ_one (S l) (S [c]) (S l).length (List.range' 0 (l.idxOf c)) 0 (l.idxOf c) _ (fun _ _ => Nat.zero_le _) ?_ ?_]
    · intro i him hc
      have hlt : i < l.idxOf c := by
        have := List.mem_range'.mp him
        obtain ⟨j, hj, rfl⟩ := this
        omega
      have h2 := (subAt_one (S l) c i).mp hc
      have h3 : l[i]? = some c := h2
      have h4 := List.not_of_lt_findIdx (xs := l) (p := (· == c)) (i := i) hlt
      obtain ⟨h5, h6⟩ := List.getElem?_eq_some_iff.mp h3
      rw [h6] at h4
      simp at h4
    · refine (subAt_one (S l) c (l.idxOf c)).mpr ?_
      show l[l.idxOf c]? = some c
      rw [List.getElem?_eq_getElem hi, List.getElem_idxOf hi]
  rw [key]
end Lc
namespace K57
open PySem PySem.Spec PyProof.Rows L2 Lc Evl
section
variable {P : Program} {w : World} {K : PySem.W.Frag} {mg : Str → Option Value} {base : Heap}
theorem q_forE {σ : L2.St} {H : Hp} {D : Ends} {tA : TA} {tu tz : TS} {l : List Nat} {p q : Nat} (h : EvA tA σ H [.str (S l)]) (Pv : Nat → L2.St → Hp → Prop) (h0 : ∀ H1, Ex H H1 → Pv 0 σ H1) (hx : ∀ i σ' H1 H2, Pv i σ' H1 → Ex H1 H2 → Pv i σ' H2)
    (hs : ∀ i c σ' H', l[i]? = some c → Pv i σ' H' → tu { D with nx := Pv (i + 1), ct := Pv (i + 1), bk := tz D } ((σ'.set p (some (.int (i : Nat)))).set q (some (.str (S [c])))) H') (hd : ∀ σ' H', Pv l.length σ' H' → tz D σ' H') :
    tSeq (tFor (iEnumS tA) (gTup K 2 (gCons (gName p) (gCons (gName q) gNil))) tu) tz D σ H := s_forE (D := { D with nx := tz D }) h Pv h0 hx hs hd
theorem s_forTI {σ : L2.St} {H : Hp} {tl : TE} {g : TG} {tu : TS} {D : Ends} (h : tl σ H fun x H1 => ∃ a, x = V.ref a ∧ (∃ xs, SqT K H1 a xs) ∧ ∃ W : Nat → Nat → L2.St → Hp → Prop, (∃ m, W 0 m σ H1) ∧ ∀ (i m : Nat) (σ : L2.St) (H : Hp), W i m σ H → (Itt K a).stop i H ∧ D.nx σ H ∨ (Itt K a).go i H ∧ ∃ N : L2.St → Hp → Prop, (∀ (σ' : L2.St) (H' : Hp), N σ' H' → ∃ m', m' < m ∧ W (i + 1) m' σ' H') ∧ ∀ (x : V) (H' : Hp), (Itt K a).yld i H x H' → g x σ H' fun σ2 H2 => tu { nx := N, rt := D.rt, bk := D.nx, ct := N } σ2 H2) : tFor (iTup K tl) g tu D σ H := h
theorem q_forTI {σ : L2.St} {H : Hp} {ti : L2.TI} {g : TG} {tu tz : TS} {D D' : Ends} (hD : D' = { D with nx := tz D }) (h : tFor ti g tu D' σ H) : tSeq (tFor ti g tu) tz D σ H := by
  subst hD
  exact h
theorem tup_fst {σ : L2.St} {H : Hp} {ta : TA} {Q : VK} (h : ta σ H fun xs H1 => xs.length ≤ sizeLine ∧ ∀ p, H1 p = none → Q (.ref p) (upd H1 p (.tup xs))) : tTup ta σ H Q := h
theorem s_setAt {σ : L2.St} {H : Hp} {D : Ends} {te ta tb : TE} {l : Addr} {xs : List V} {i : Nat} {v : V} (hl : H l = some (.lst xs)) (h : Ev te σ H v) (ho : Ev ta σ H (.ref l)) (hi : Ev tb σ H (.int (i : Int))) (hi2 : i < xs.length) (k : ∀ H1, Ex H H1 → D.nx σ (upd H1 l (.lst (xs.set i v)))) : tAsg te (gSub ta tb rSetL) D σ H := h H (Ex.refl H) _ fun H1 e1 => ho H1 e1 _ fun H2 e2 => hi H2 (e1.trans e2) _ fun H3 e3 =>
  ⟨l, xs, (i : Int), i, rfl, rfl, ((e1.trans e2).trans e3) l _ hl, by unfold ixN; rw [if_pos (by omega)]; rw [if_pos (by omega)]; rfl, k H3 ((e1.trans e2).trans e3)⟩
theorem el_mapR {σ : L2.St} {H : Hp} {ta : TA} {te : TE} {j n : Nat} {vs : List Nat} (f : Nat → V) (h : EvA ta σ H [.int (n : Int)]) (hn : n ≤ 10000) (hw : ∀ x, wipe ((wipe σ vs).set j (some x)) vs = wipe σ vs) (he : ∀ i H1, i < n → Ex H H1 → Ev te ((wipe σ vs).set j (some (.int ((i : Nat) : Int)))) H1 (f i)) : EvL (tLc (iRng1 ta) (gName j) tYes te vs) σ H ((List.range n).map f) := by
  have h3 := el_lcR1 (σ := σ) (H := H) (t := tYes) (te := te) (j := j) (vs := vs) (fun _ => true) f h (by omega) hw (fun i H1 _ _ => et_yes) (fun i H1 e hi _ => he i H1 (by omega) e)
  rw [given_all, Int.toNat_natCast] at h3
  exact h3
theorem q_seq2 {σ : L2.St} {H : Hp} {ts tz : TS} {D : Ends} (h : ts { D with nx := tz D } σ H) : tSeq ts tz D σ H := h
/-! ### the errors of too many -/
def KI (x : V) : Prop := ∃ i : Int, x = .int i ∧ i.natAbs.log2 < 1900
theorem int_len {i : Int} (h : i.natAbs.log2 < 1900) : (Str.ofString (toString i)).length ≤ 1901 := by
  have e := PySem.int_text_length_le (k := 1900) (by decide) h
  rw [PySem.ofString_length]
  exact e
def sp_TooMany_init (K : PySem.W.Frag) : Sp := fun vs H Q _ => ∃ (a : Addr) (x : V), vs = [.ref a, x] ∧ KI x ∧ Made K "TooMany" "limit" H a x Q
theorem ok_TooMany_init (T : Tx K mg w) : OkD P w K mg base 1 d_TooMany_init ps_TooMany_init (sp_TooMany_init K) := by
  refine (h_TooMany_init T).ok sc_TooMany_init (fun vs H Q E h => ?_) (fun cdv A outer s H vs Q E hr h => ⟨_,
      (pss_cons (ps_expr (pe_ownInit (CL := cL K) (by rfl) (m_LeapError T) (by decide) (x_TooMany T).sp (x_TooMany T).rd (x_TooMany T).vV (pa_cons (pv 0) (pa_cons (pe_joined (.cons pe_str (.cons (pe_fmtR (pv 1)) .nil))) pa_nil))))
      (pss_one (ps_ost (pv 0) (pv 1)))), ?_⟩)
  · obtain ⟨a, x, rfl, _⟩ := h
    rfl
  · obtain ⟨a, x, rfl, ⟨i, rfl, hi⟩, ha, q⟩ := h
    refine ⟨_, rfl, ?_⟩
    refine ⟨_, rfl, by decide +kernel, ?_⟩
    refine ⟨_, rfl, .inr ⟨_, rfl, Nat.lt_trans hi (by decide), ?_⟩⟩
    refine ⟨_, rfl, ?_, ?_⟩
    · rw [len_app, len_app]
      have h1 : (Str.empty).length = 0 := by decide +kernel
      have h2 : (Str.ofString "more than the limit: ").length ≤ 100 := by decide +kernel
      have h3 := int_len hi
      exact sz_of (by omega)
    refine ⟨a, He.ga K "TooMany", _, rfl, by simp, (x_TooMany T).oex, ha, ?_⟩
    exact ⟨_, rfl, _, rfl, a, He.ga K "TooMany", rfl, (x_TooMany T).oex, (x_TooMany T).no, .inl ⟨ha, fun dx hd hda => q dx hd hda⟩⟩
/-! ### what the windows of a card change -/
def ent (v : List Int) : List Key × V := (v.map Sum.inl, .bl true)
theorem ent_inj {u v : List Int} (h : (ent u).1 = (ent v).1) : u = v := by
  have : u.map Sum.inl = v.map (Sum.inl : Int → Key) := h
  exact (List.map_inj_right fun a b e => Sum.inl.inj e).mp this
def addC (CH : List (List Int)) (v : List Int) : List (List Int) := if v ∈ CH then CH else CH ++ [v]
theorem putK_ent (CH : List (List Int)) (v : List Int) : putK (CH.map ent) (ent v).1 (.bl true) = (addC CH v).map ent := by
  unfold putK addC
  by_cases h : v ∈ CH
  · rw [if_pos (by
      rw [List.any_eq_true]
      exact ⟨ent v, List.mem_map_of_mem h, decide_eq_true rfl⟩), if_pos h, List.map_map]
    refine List.map_congr_left fun u _ => ?_
    show (if (ent u).1 = (ent v).1 then ((ent u).1, V.bl true) else ent u) = ent u
    split
    · rfl
    · rfl
  · rw [if_neg (by
      rw [List.any_eq_true]
      rintro ⟨x, hx, hd⟩
      obtain ⟨u, hu, rfl⟩ := List.mem_map.mp hx
      exact h (by rw [← ent_inj (of_decide_eq_true hd)]; exact hu)), if_neg h, List.map_append]
    rfl
theorem mem_addC {CH : List (List Int)} {v x : List Int} : x ∈ addC CH v ↔ x ∈ CH ∨ x = v := by
  unfold addC
  split
  · rename_i h
    exact ⟨.inl, fun q => q.elim id fun e => by rw [e]; exact h⟩
  · rw [List.mem_append, List.mem_singleton]
theorem addC_len (CH : List (List Int)) (v : List Int) : (addC CH v).length ≤ CH.length + 1 := by
  unfold addC
  split
  · omega
  · rw [List.length_append]
    simp
theorem find_kL : ∀ c ∈ kL, Txt.find (S [97, 98, 99, 100]) (S [c]) = ((c - 97 : Nat) : Int) := by decide +kernel
theorem kL_of {k c : Nat} (hk : k ≤ 4) (h : 97 ≤ c ∧ c < 97 + k) : c ∈ kL := by
  have : c = 97 ∨ c = 98 ∨ c = 99 ∨ c = 100 := by omega
  rcases this with rfl | rfl | rfl | rfl <;> decide
theorem keys_rw {H : Hp} : ∀ {CH : List (List Int)} {bs : List Addr}, IsKeys H (CH.map ent) bs → Rw .tup H bs CH
  | [], [], _ => ⟨rfl, fun k hk => absurd hk (Nat.not_lt_zero _)⟩
  | [], b :: bs, h => by cases h
  | v :: CH, [], h => by cases h
  | v :: CH, b :: bs, h => by
    have h1 : H b = some (.tup ((ent v).1.map kV)) ∧ IsKeys H (CH.map ent) bs := by
      cases h with
      | cons a t => exact ⟨a, t⟩
    have ih := keys_rw h1.2
    refine ⟨by rw [List.length_cons, List.length_cons, ih.len], fun k hk => ?_⟩
    cases k with
    | zero =>
      show H b = some (.tup (v.map V.int))
      rw [h1.1]
      show some (HO.tup ((v.map Sum.inl).map kV)) = _
      rw [List.map_map]
      rfl
    | succ k => exact ih.row k (by simpa using hk)

end
end K57
namespace K57
open PySem PySem.Spec PyProof.Rows L2 Lc Evl
section
variable {P : Program} {w : World} {K : PySem.W.Frag} {mg : Str → Option Value} {base : Heap}
/-! ### what the windows of a card change: the program's list -/
def PvK (k : Nat) (PV : List Pr2) : Prop := ∀ q ∈ PV, (KnW k q.1 ∧ KnW k q.2) ∧ q.1.length ≤ 4 ∧ q.2.length ≤ 4
def InC (k m : Nat) (PV : List Pr2) (v : List Int) : Prop := ∃ q ∈ PV, ∃ st, st < m ∧ v = chg k m st q
theorem zeros (n : Nat) : (List.range n).map (fun _ => V.int 0) = (List.replicate n (0 : Int)).map V.int := by
  apply List.ext_getElem
  · simp
  · intro i h1 h2
    simp
theorem wv_at {m st : Nat} {d : Int} {l : List Nat} {v : List Int} {n : Nat} {a : Nat} (h : a < v.length) : atI ((wv m st d l v n).map V.int) (a : Int) = some (.int ((wv m st d l v n).getD a 0)) := by
  have := atI_int (row := wv m st d l v n) (i := (a : Int)) (by omega) (by rw [wv_len]; omega)
  rwa [Int.toNat_natCast] at this
/-- one window, sign by sign -/
theorem win_loop {k m st : Nat} {d : Int} {l : List Nat} {v : List Int} {cA : Addr} {H : Hp} {D : Ends} {s0 s2 s3 s4 s5 s10 s11 s12 s13 : Option V} (hm : 0 < m) (hk : k ≤ 4) (hl : KnW k l) (hz : l.length ≤ 100) (hv : v.length = k * m) (hc : H cA = some (.lst (v.map V.int)))
    (q : ∀ H' w11 w12 w13, ExB cA H H' → H' cA = some (.lst ((wv m st d l v l.length).map V.int)) → D.nx [s0, some (.int (m : Int)), s2, s3, s4, s5, some (.int (st : Int)), some (.ref cA), some (.str (S l)), some (.int d), s10, w11, w12, w13] H') :
    tFor (iEnumS (tCons (tVar 8) tNil)) (gTup K 2 (gCons (gName 11) (gCons (gName 12) gNil))) (tIfS (tTest (tOp rNe (tVar 12) (tC (.str (S [46]))))) (tSeq (tAsg (tOp (rI0 fun i j => V.int (i + j)) (tOp (rI CMul fun i j => V.int (i * j)) (tM1 (fun x xs H Q => ∃ a b, x = .str a ∧ xs = [.str b] ∧ Q (.int (Txt.find a b)) H) (tC (.str (S [97, 98, 99, 100]))) (tVar 12)) (tVar 1)) (tOp (rI (fun _ j => 0 < j) fun i j => V.int (i % j)) (tOp (rI0 fun i j => V.int (i + j)) (tVar 6) (tVar 11)) (tVar 1))) (gName 13)) (tAsg (tOp (rI0 fun i j => V.int (i + j)) (tOp (rIxL K) (tVar 7) (tVar 13)) (tVar 9)) (gSub (tVar 7) (tVar 13) rSetL))) tNext) D [s0, some (.int (m : Int)), s2, s3, s4, s5, some (.int (st : Int)), some (.ref cA), some (.str (S l)), some (.int d), s10, s11, s12, s13] H := by
  refine s_forE (l := l) (ea_cons (by exact ev_var rfl) ea_nil) (fun i σ' H' => ExB cA H H' ∧ H' cA = some (.lst ((wv m st d l v i).map V.int)) ∧ ∃ w11 w12 w13, σ' = [s0, some (.int (m : Int)), s2, s3, s4, s5, some (.int (st : Int)), some (.ref cA), some (.str (S l)), some (.int d), s10, w11, w12, w13])
    (fun H1 e1 => ⟨ExB.of e1, e1 _ _ hc, _, _, _, rfl⟩) (fun i σ' H1 H2 h e => ⟨h.1.trans (ExB.of e), e _ _ h.2.1, h.2.2⟩) ?_ ?_
  · rintro i c σ' H1 hi ⟨x1, h1, w11, w12, w13, rfl⟩
    obtain ⟨hgc, hcl, hil⟩ := getD_lt hi
    have hg46 : l.getD i 46 = c := by
      rw [List.getD_eq_getElem?_getD, hi]
      rfl
    dsimp only [List.set]
    refine s_if (b := !decide ([c] = [46])) (et_test (ev_op (by exact ev_var rfl) ev_c rv_neSS)) (fun hb H2 e2 => ?_) fun hb H2 e2 => ?_
    · have hc46 : c ≠ 46 := fun e => by rw [e] at hb; simp at hb
      have hcr : 97 ≤ c ∧ c < 97 + k := (hl c hcl).resolve_left hc46
      have hp := plc_lt (st := st) (i := i) hm hcr
      refine q_asg (v := .int ((plc m st i c : Nat) : Int)) (ev_is (ev_op (x := .int (((c - 97 : Nat) : Int) * (m : Int))) (y := .int (((st : Int) + (i : Int)) % (m : Int))) (ev_op (x := .int ((c - 97 : Nat) : Int)) (ev_is (ev_find ev_c (by exact ev_var rfl)) (by rw [find_kL c (kL_of hk hcr)])) (by exact ev_var rfl) (rv_I (.inl ⟨by omega, by omega⟩))) (ev_op (ev_op (by exact ev_var rfl) (by exact ev_var rfl) rv_I0) (by exact ev_var rfl) (rv_I (show (0 : Int) < (m : Int) by omega))) rv_I0) (by
        unfold plc
        rw [Int.natCast_add, Int.natCast_mul, Int.natCast_emod, Int.natCast_add])) fun H3 e3 => ?_
      dsimp only [List.set]
      have h3 := e3 _ _ (e2 _ _ h1)
      refine s_setAt (i := plc m st i c) (v := .int ((wv m st d l v i).getD (plc m st i c) 0 + d)) h3 (ev_op (ev_op (by exact ev_var rfl) (by exact ev_var rfl) (rv_ixL (sq_of h3) (wv_at (by rw [hv]; exact hp)))) (by exact ev_var rfl) rv_I0) (by exact ev_var rfl) (by exact ev_var rfl) (by rw [List.length_map, wv_len, hv]; exact hp) fun H4 e4 => ?_
      refine ⟨((x1.trans (ExB.of (e2.trans e3))).trans (ExB.of e4)).trans ExB.upd, ?_, _, _, _, rfl⟩
      rw [upd_same]
      show some (HO.lst (((wv m st d l v i).map V.int).set _ _)) = some (HO.lst ((bmp m st d (wv m st d l v i) i (l.getD i 46)).map V.int))
      rw [hg46]
      unfold bmp
      rw [if_neg hc46, List.map_set]
    · have hc46 : c = 46 := by simpa using hb
      refine ⟨x1.trans (ExB.of e2), ?_, _, _, _, rfl⟩
      show _ = some (HO.lst ((bmp m st d (wv m st d l v i) i (l.getD i 46)).map V.int))
      rw [hg46]
      unfold bmp
      rw [if_pos hc46]
      exact e2 _ _ h1
  · rintro σ' H1 ⟨x1, h1, w11, w12, w13, rfl⟩
    exact q H1 w11 w12 w13 x1 h1

end
end K57
namespace K57
open PySem PySem.Spec PyProof.Rows L2 Lc Evl
section
variable {P : Program} {w : World} {K : PySem.W.Frag} {mg : Str → Option Value} {base : Heap}
theorem cb_on {σ : L2.St} {H : Hp} {r : List V → Hp → VK → Prop} {ta : TA} {Q : VK} (h : ta σ H fun xs H1 => r xs H1 Q) : tCB r ta σ H Q := h
def sp_changes_of (K : PySem.W.Frag) : Sp := fun vs H Q _ => ∃ (c : Addr) (m k : Nat) (ps : List Int) (G : List Jm), vs = [.ref c, .int (m : Int), .int (k : Int)] ∧ IsC K H c ps G ∧ 0 < m ∧ m ≤ 12 ∧ k ≤ 4 ∧ PvK k (pairsV G) ∧
  ∀ p rs CH H', H p = none → Ex H H' → H' p = some (.lst (rs.map V.ref)) → Rw .tup H' rs CH → (∀ v, v ∈ CH ↔ InC k m (pairsV G) v) → CH.length ≤ 2000 → Q (.ref p) H'
theorem dT_start {σ : L2.St} {H : Hp} {tz : TS} {D : Ends} {i : Nat} (h : ∀ d, H d = none → tz D (σ.set i (some (.ref d))) (upd H d (.dT []))) : tSeq (tAsg tDNewT (gName i)) tz D σ H := h
theorem s_put {σ : L2.St} {H : Hp} {D : Ends} {i j : Nat} {d cA : Addr} {v : List Int} {CH : List (List Int)} (hd : σ[i]? = some (some (.ref d))) (hc : σ[j]? = some (some (.ref cA))) (h1 : H d = some (.dT (CH.map ent))) (h2 : H cA = some (.lst (v.map V.int))) (hz : CH.length < 90000)
    (q : ∀ H', ExB d H H' → H' d = some (.dT ((addC CH v).map ent)) → D.nx σ H') : sDPut (tVar i) (tCB (rTupOf K) (tCons (tVar j) tNil)) (tC (.bl true)) D σ H := by
  refine ⟨_, hd, ?_⟩
  refine eu_tupL (ev_var hc) (sq_of h2) H (Ex.refl H) _ fun b H1 hb e1 g1 => ⟨d, _, rfl, DPut.t (kvs := CH.map ent) (k := (ent v).1) (e1 _ _ h1) (by rw [g1]; show some (HO.tup (v.map V.int)) = some (HO.tup ((v.map Sum.inl).map kV)); rw [List.map_map]; rfl) (by rw [List.length_map]; exact sz_lt (by omega)), ?_⟩
  refine q _ ((ExB.of e1).trans ExB.upd) ?_
  rw [upd_same, putK_ent]
theorem ok_changes_of (T : Tx K mg w) : OkD P w K mg base 1 d_changes_of ps_changes_of (sp_changes_of K) := by
  refine (h_changes_of T).ok sc_changes_of (fun vs H Q E h => ?_) (fun cdv A outer s H vs Q E hr h => ⟨_,
      (pss_cons (ps_set (i := 3) sc_changes_of.nd rfl (Or.inl rfl) pe_dnewT)
      (pss_cons (ps_for (passes_of rfl) rfl (pi_tup (pe_fld (pv 0) rfl)) (pg_tup rfl (pgs_cons (pg_name (i := 4) sc_changes_of.nd rfl (Or.inl rfl)) (pgs_cons (pg_name (i := 5) sc_changes_of.nd rfl (Or.inl rfl)) pgs_nil))) (pss_one (ps_for (passes_of rfl) rfl (pi_range1 rfl (m_range T) (pa_cons (pv 1) pa_nil)) (pg_name (i := 6) sc_changes_of.nd rfl (Or.inl rfl)) (pss_cons (ps_setLc (i := 7) (own := [("_", 10)]) (g := gName 10) rfl sc_changes_of.nd rfl rfl (sw_true rfl rfl rfl (by decide +kernel)) (pi_range1 rfl (m_range T) (pa_cons (pe_op op_mul (pv 2) (pv 1)) pa_nil)) (blkOk_by (own := [("_", 10)]) (N := ns_changes_of) (sc := (defScope st_changes_of)) (by decide +kernel)) (fun _ _ _ _ _ => pg_name (i := 10) sc_changes_of.nd rfl (Or.inl rfl)) (fun _ _ _ _ _ => pts_nil) (fun _ _ _ _ _ => pe_int))
      (pss_cons (ps_for (passes_of rfl) rfl (pi_tup (pe_tup (pa_cons (pe_tup (pa_cons (pv 4) (pa_cons (pe_un un_neg pe_int) pa_nil))) (pa_cons (pe_tup (pa_cons (pv 5) (pa_cons pe_int pa_nil))) pa_nil)))) (pg_tup rfl (pgs_cons (pg_name (i := 8) sc_changes_of.nd rfl (Or.inl rfl)) (pgs_cons (pg_name (i := 9) sc_changes_of.nd rfl (Or.inl rfl)) pgs_nil))) (pss_one (ps_for (passes_of rfl) rfl (pi_enumS (by rfl) (m_enumerate T) (pa_cons (pv 8) pa_nil)) (pg_tup rfl (pgs_cons (pg_name (i := 11) sc_changes_of.nd rfl (Or.inl rfl)) (pgs_cons (pg_name (i := 12) sc_changes_of.nd rfl (Or.inl rfl)) pgs_nil))) (pss_one (ps_if (pt_cmpR op_ne (pv 12) pe_str (nomark _)) (pss_cons (ps_set (i := 13) sc_changes_of.nd rfl (Or.inl rfl) (pe_op op_add (pe_op op_mul (pe_m1 PySem.F.slot_str_find PySem.F.type_str_find mt_find (pe_glob (v := .str "abcd") rfl (m_KINDS T).choose_spec ⟨_, rfl⟩) (pv 12)) (pv 1)) (pe_op op_mod (pe_op op_add (pv 6) (pv 11)) (pv 1))))
      (pss_one (ps_asg (pe_op op_add (pe_ix ix_list (pv 7) (pv 13) (fun _ _ => rfl)) (pv 9)) (pg_sub (pv 7) (pv 13) set_list)))) pss_nil)))))
      (pss_one (ps_dput (hu_of hr) (pv 3) (pe_callTy (show CallR _ (.type "tuple") (rTupOf K) from call_tuple_of) (by rfl) (m_tuple T) (by decide +kernel) (pa_cons (pv 7) pa_nil)) pe_bl rfl)))))))
      (pss_one (ps_ret (pe_callTy (call_list_dT rfl) (by rfl) (m_list T) (by decide +kernel) (pa_cons (pv 3) pa_nil)))))), ?_⟩)
  · obtain ⟨c, m, k, ps, G, rfl, _⟩ := h
    rfl
  · obtain ⟨c, m, k, ps, G, rfl, hC, hm, hm12, hk, hPv, q⟩ := h
    have k1 : Str.ofString "." = S [46] := by decide +kernel
    have k2 : Str.ofString "abcd" = S [97, 98, 99, 100] := by decide +kernel
    simp only [k1, k2]
    obtain ⟨dx, wa, ja, pa, L, M, h1, h2, h3, h4, h5, h6, h7, h8⟩ := id hC
    refine dT_start fun d hd => ?_
    have g0 : upd H d (.dT []) d = some (.dT (([] : List (List Int)).map ent)) := upd_same
    have e0 : Ex H (upd H d (.dT [])) := Ex.new hd
    generalize upd H d (.dT []) = H1 at g0 e0 ⊢
    try dsimp only [List.set]
    refine q_forT (ev_fldC T (by exact ev_var rfl) (e0 _ _ h1) (n_Card_pairs T) rfl) (st_of (e0 _ _ h5)) (fun i σ' H' => Ex H H' ∧ ∃ CH, H' d = some (.dT (CH.map ent)) ∧ (∀ v, v ∈ CH ↔ InC k m ((pairsV G).take i) v) ∧ CH.length ≤ 20 * i ∧ ∃ v4 v5 v6 v7 v8 v9 v10 v11 v12 v13, σ' = [some (.ref c), some (.int (m : Int)), some (.int (k : Int)), some (.ref d), v4, v5, v6, v7, v8, v9, v10, v11, v12, v13])
      (fun H2 e2 => ⟨e0.trans e2, [], e2 _ _ g0, (fun v => ⟨fun h => (by cases h), fun ⟨q, hq, _⟩ => (by cases hq)⟩), Nat.le_refl _, _, _, _, _, _, _, _, _, _, _, rfl⟩) (fun i σ' H' _ h => st_of (h.1 _ _ h5)) ?_ ?_
    · rintro i x σ' H2 hi ⟨e2, CH, g2, hCH, hlen, v4, v5, v6, v7, v8, v9, v10, v11, v12, v13, rfl⟩
      obtain ⟨⟨m1, pq⟩, hq1, hq2, rfl⟩ := ref_at hi
      have iM : i < M.length := (List.getElem?_eq_some_iff.mp hq1).1
      have tq := (h6 _ hq2).1
      have hpi : (pairsV G)[i]? = some pq := by rw [← h7, List.getElem?_map, hq1]; rfl
      obtain ⟨⟨kn1, kn2⟩, l1, l2⟩ := hPv pq (List.mem_of_getElem? hpi)
      refine gpair (e2 _ _ tq) ?_
      try dsimp only [List.set]
      refine s_forR1 (n := (m : Int)) (ea_cons (by exact ev_var rfl) ea_nil) (by omega) (fun j σ' H' => Ex H H' ∧ ∃ CH, H' d = some (.dT (CH.map ent)) ∧ (∀ v, v ∈ CH ↔ InC k m ((pairsV G).take i) v ∨ ∃ st, st < j ∧ v = chg k m st pq) ∧ CH.length ≤ 20 * i + j ∧ ∃ v6 v7 v8 v9 v10 v11 v12 v13, σ' = [some (.ref c), some (.int (m : Int)), some (.int (k : Int)), some (.ref d), some (.str (S pq.1)), some (.str (S pq.2)), v6, v7, v8, v9, v10, v11, v12, v13])
        (fun H3 e3 => ⟨e2.trans e3, CH, e3 _ _ g2, (fun v => by rw [hCH]; exact ⟨.inl, fun h => h.elim id fun ⟨st, h, _⟩ => absurd h (Nat.not_lt_zero _)⟩), by omega, _, _, _, _, _, _, _, _, rfl⟩) ?_ ?_
      · rintro j σ' H3 hj ⟨e3, CH, g3, hCH, hlen, v6, v7, v8, v9, v10, v11, v12, v13, rfl⟩
        try dsimp only [List.set]
        have hkm : k * m ≤ 48 := Nat.mul_le_mul hk hm12
        refine q_asgL (xs := (List.replicate (k * m) (0 : Int)).map V.int) ?_ fun cA H4 hcA e4 h4 => ?_
        · rw [← zeros]
          exact el_mapR (n := k * m) (fun _ => V.int 0) (ea_cons (ev_is (ev_op (x := .int (k : Int)) (y := .int (m : Int)) (by exact ev_var rfl) (by exact ev_var rfl) (rv_I (.inl ⟨by omega, by omega⟩))) (by rw [Int.natCast_mul])) ea_nil) (by omega) (fun x => rfl) fun i H5 hi e5 => ev_c
        try dsimp only [List.set]
        have g4 := e4 _ _ g3
        have hdc : d ≠ cA := fun z => by rw [z, hcA] at g3; cases g3
        have cA0 : H cA = none := fresh_back e3 hcA
        have E4 : Ex H H4 := e3.trans e4
        refine q_forTI rfl (s_forTI (tup_fst (Lc.cons_fst (eu_tup (vs := [.str (S pq.1), .int (-1)]) (ea_cons (by exact ev_var rfl) (ea_cons (ev_un ev_c ru_neg) ea_nil)) (by simp) H4 (Ex.refl H4) _ fun t1 H5 ht1 e5 h5' => Lc.cons_fst (eu_tup (vs := [.str (S pq.2), .int 1]) (ea_cons (by exact ev_var rfl) (ea_cons ev_c ea_nil)) (by simp) H5 (Ex.refl H5) _ fun t2 H6 ht2 e6 h6' => ⟨sz_of (by simp), fun tt htt => ⟨tt, rfl, ⟨_, st_of upd_same⟩, ?_⟩⟩)))))
        have eT : Ex H6 (upd H6 tt (.tup [.ref t1, .ref t2])) := Ex.new htt
        have f1 := (e6.trans eT) _ _ h5'
        have f2 := eT _ _ h6'
        have f3 : upd H6 tt (.tup [.ref t1, .ref t2]) tt = some (.tup [.ref t1, .ref t2]) := upd_same
        have f4 := ((e5.trans e6).trans eT) _ _ h4
        have f5 := ((e5.trans e6).trans eT) _ _ g4
        have E7 : Ex H (upd H6 tt (.tup [.ref t1, .ref t2])) := E4.trans ((e5.trans e6).trans eT)
        have n1 : t1 ≠ cA := fun z => by rw [z, h4] at ht1; cases ht1
        have n2 : t2 ≠ cA := fun z => by rw [z, e5 _ _ h4] at ht2; cases ht2
        have n3 : tt ≠ cA := fun z => by rw [z, (e5.trans e6) _ _ h4] at htt; cases htt
        clear eT
        generalize upd H6 tt (.tup [.ref t1, .ref t2]) = H7 at f1 f2 f3 f4 f5 E7 ⊢
        refine for_tup (xs := [.ref t1, .ref t2]) (fun a σ' H' => ExB cA H7 H' ∧ H' cA = some (.lst ((if a = 0 then List.replicate (k * m) 0 else if a = 1 then wv m j (-1) pq.1 (List.replicate (k * m) 0) pq.1.length else chg k m j pq).map V.int)) ∧ ∃ v8 v9 v10 v11 v12 v13, σ' = [some (.ref c), some (.int (m : Int)), some (.int (k : Int)), some (.ref d), some (.str (S pq.1)), some (.str (S pq.2)), some (.int (j : Int)), some (.ref cA), v8, v9, v10, v11, v12, v13])
          ⟨ExB.refl H7, f4, _, _, _, _, _, _, rfl⟩ (fun a σ' H' _ h => st_of (h.1 _ _ n3 f3)) ?_ ?_
        · rintro a x σ' H8 ha ⟨x8, g8, v8, v9, v10, v11, v12, v13, rfl⟩
          match a, ha with
          | 0, ha =>
            cases Option.some.inj ha
            refine gpair (x8 _ _ n1 f1) ?_
            try dsimp only [List.set]
            refine win_loop (k := k) (m := m) (st := j) (d := -1) (l := pq.1) (v := List.replicate (k * m) 0) hm hk kn1 (by omega) (by rw [List.length_replicate]) g8 fun H9 w11 w12 w13 x9 g9 => ⟨x8.trans x9, g9, _, _, _, _, _, _, rfl⟩
          | 1, ha =>
            cases Option.some.inj ha
            refine gpair (x8 _ _ n2 f2) ?_
            try dsimp only [List.set]
            refine win_loop (k := k) (m := m) (st := j) (d := 1) (l := pq.2) (v := wv m j (-1) pq.1 (List.replicate (k * m) 0) pq.1.length) hm hk kn2 (by omega) (by rw [wv_len, List.length_replicate]) g8 fun H9 w11 w12 w13 x9 g9 => ⟨x8.trans x9, g9, _, _, _, _, _, _, rfl⟩
          | n + 2, ha => simp at ha
        · rintro σ' H8 ⟨x8, g8, v8, v9, v10, v11, v12, v13, rfl⟩
          have g8' : H8 cA = some (.lst ((chg k m j pq).map V.int)) := g8
          have E8 : Ex H H8 := fun b o hb => x8 b o (fun z => by rw [z, cA0] at hb; cases hb) (E7 b o hb)
          refine s_put (i := 3) (j := 7) rfl rfl (x8 _ _ hdc f5) g8' (by omega) fun H9 x9 g9 => ?_
          refine ⟨fun b o hb => x9 b o (fun z => by rw [z, hd] at hb; cases hb) (E8 b o hb), addC CH (chg k m j pq), g9, fun v => ?_, by have := addC_len CH (chg k m j pq); omega, _, _, _, _, _, _, _, _, rfl⟩
          rw [mem_addC, hCH]
          constructor
          · rintro ((h | ⟨st, h, e⟩) | e)
            · exact .inl h
            · exact .inr ⟨st, by omega, e⟩
            · exact .inr ⟨j, by omega, e⟩
          · rintro (h | ⟨st, h, e⟩)
            · exact .inl (.inl h)
            · by_cases hs : st < j
              · exact .inl (.inr ⟨st, hs, e⟩)
              · have : st = j := by omega
                rw [this] at e
                exact .inr e
      · rintro σ' H3 ⟨e3, CH, g3, hCH, hlen, v6, v7, v8, v9, v10, v11, v12, v13, rfl⟩
        rw [Int.toNat_natCast] at hCH hlen
        refine ⟨e3, CH, g3, fun v => ?_, by omega, _, _, _, _, _, _, _, _, _, _, rfl⟩
        rw [hCH, List.take_add_one, hpi]
        unfold InC
        constructor
        · rintro (⟨q, hq, st, h, e⟩ | ⟨st, h, e⟩)
          · exact ⟨q, List.mem_append_left _ hq, st, h, e⟩
          · exact ⟨pq, List.mem_append_right _ (by simp), st, h, e⟩
        · rintro ⟨q, hq, st, h, e⟩
          rcases List.mem_append.mp hq with hq | hq
          · exact .inl ⟨q, hq, st, h, e⟩
          · have : q = pq := by simpa using hq
            rw [this] at e
            exact .inr ⟨st, h, e⟩
    · rintro σ' H2 ⟨e2, CH, g2, hCH, hlen, v4, v5, v6, v7, v8, v9, v10, v11, v12, v13, rfl⟩
      rw [List.length_map] at hCH hlen
      have hM : (pairsV G).take M.length = pairsV G := by
        rw [← h7]
        exact List.take_of_length_le (by simp)
      rw [hM] at hCH
      refine ret_fst (cb_on (Lc.cons_fst ⟨_, rfl, ⟨d, CH.map ent, rfl, .inl g2, fun p bs hp hks => ?_⟩⟩))
      exact q p bs CH _ (fresh_back e2 hp) (e2.trans (Ex.new hp)) upd_same ((keys_rw hks).ex (Ex.new hp)) hCH (by omega)

end
end K57
namespace Lc
open PySem PySem.Spec PyProof.Rows L2 Evl
section
variable {K : PySem.W.Frag} {σ : L2.St} {H : Hp} {tl te : TE}
/-! ### [x for row in table for x in row] -/
theorem flat_take {G : List (List Int)} {i : Nat} {row : List Int} (h : G[i]? = some row) : (G.take (i + 1)).flatten = (G.take i).flatten ++ row := by
  rw [List.take_add_one, h, List.flatten_append]
  simp
theorem take_flat_le (G : List (List Int)) (i : Nat) : (G.take i).flatten.length ≤ G.flatten.length := by
  have h : G.flatten = (G.take i).flatten ++ (G.drop i).flatten := by rw [← List.flatten_append, List.take_append_drop]
  rw [h, List.length_append]
  omega
theorem el_flatT {t : Addr} {rs : List Addr} {G : List (List Int)} {i j : Nat} {vs vs1 : List Nat} (h : Ev tl σ H (.ref t)) (ht : H t = some (.tup (rs.map V.ref))) (hr : Rw .tup H rs G) (hz : G.flatten.length ≤ 40000)
    (hw : ∀ x, wipe ((wipe σ vs).set i (some x)) vs = wipe σ vs) (hw1 : ∀ x y, wipe ((wipe ((wipe σ vs).set i (some x)) vs1).set j (some y)) vs1 = wipe ((wipe σ vs).set i (some x)) vs1)
    (hi : ∀ x, ((wipe σ vs).set i (some x))[i]? = some (some x)) (hj : ∀ x y, ((wipe ((wipe σ vs).set i (some x)) vs1).set j (some y))[j]? = some (some y)) :
    EvL (tLc2 (iTup K tl) (gName i) tYes (iTup K (tVar i)) (gName j) tYes (tVar j) vs vs1) σ H (G.flatten.map V.int) := fun H0 e0 Q q => h H0 e0 _ fun H1 e1 => ⟨t, rfl, ⟨_, st_of ((e0.trans e1) _ _ ht)⟩, fun D hD => by
  have hr1 := hr.ex (e0.trans e1)
  have ht1 := (e0.trans e1) _ _ ht
  refine ⟨fun k m H' => m = rs.length - k ∧ k ≤ rs.length ∧ Ex H1 H' ∧ H' D = some (.lst ((G.take k).flatten.map V.int)), ⟨_, rfl, Nat.zero_le _, Ex.new hD, by rw [upd_same]; rfl⟩, ?_⟩
  rintro k m H' ⟨rfl, hk, e, g⟩
  by_cases hkl : k = rs.length
  · refine .inl ⟨⟨_, st_of (e _ _ ht1), by rw [List.length_map]; omega⟩, ?_⟩
    rw [hkl, hr1.len, List.take_length] at g
    exact q D H' (fresh_back e1 hD) (e1.trans e) g
  · have hk2 : k < rs.length := by omega
    have hkG : k < G.length := by rw [← hr1.len]; exact hk2
    refine .inr ⟨⟨_, .ref (rs.getD k 0), st_of (e _ _ ht1), by rw [List.getElem?_map, List.getD_eq_getElem?_getD, List.getElem?_eq_getElem hk2]; rfl⟩, fun H2 => ∃ m', m' < rs.length - k ∧ (m' = rs.length - (k + 1) ∧ k + 1 ≤ rs.length ∧ Ex H1 H2 ∧ H2 D = some (.lst ((G.take (k + 1)).flatten.map V.int))), fun H2 h => h, ?_⟩
    rintro x H2 ⟨rfl, hx⟩
    have hxe : x = .ref (rs.getD k 0) := by
      have h1 := hx _ (st_of (e _ _ ht1))
      rw [List.getElem?_map, List.getElem?_eq_getElem hk2] at h1
      rw [List.getD_eq_getElem?_getD, List.getElem?_eq_getElem hk2]
      exact (Option.some.inj h1).symm
    subst hxe
    have hrow := hr1.row k hkG
    have hGk : G[k]? = some (G.getD k []) := by rw [List.getD_eq_getElem?_getD, List.getElem?_eq_getElem hkG]; rfl
    have hft := flat_take hGk
    have hfl := take_flat_le G (k + 1)
    rw [hft, List.length_append] at hfl
    refine ⟨hw _, ?_⟩
    unfold tYes
    dsimp only
    rw [if_pos rfl]
    refine ⟨_, hi _, rs.getD k 0, rfl, ⟨_, st_of (e _ _ hrow)⟩, fun a m H' => m = (G.getD k []).length - a ∧ a ≤ (G.getD k []).length ∧ Ex H1 H' ∧ H' D = some (.lst (((G.take k).flatten ++ (G.getD k []).take a).map V.int)), ⟨_, rfl, Nat.zero_le _, e, by rw [List.take_zero, List.append_nil]; exact g⟩, ?_⟩
    rintro a m H' ⟨rfl, ha, e', g'⟩
    by_cases hal : a = (G.getD k []).length
    · refine .inl ⟨⟨_, st_of (e' _ _ hrow), by rw [List.length_map]; omega⟩, rs.length - (k + 1), by omega, rfl, by omega, e', ?_⟩
      rw [hal, List.take_length] at g'
      rw [hft]
      exact g'
    · have ha2 : a < (G.getD k []).length := by omega
      have hga : (G.getD k [])[a]? = some ((G.getD k []).getD a 0) := by
        rw [List.getD_eq_getElem?_getD (l := G.getD k []), List.getElem?_eq_getElem ha2]
        rfl
      refine .inr ⟨⟨_, .int ((G.getD k []).getD a 0), st_of (e' _ _ hrow), by rw [List.getElem?_map, hga]; rfl⟩, fun H3 => ∃ m', m' < (G.getD k []).length - a ∧ (m' = (G.getD k []).length - (a + 1) ∧ a + 1 ≤ (G.getD k []).length ∧ Ex H1 H3 ∧ H3 D = some (.lst (((G.take k).flatten ++ (G.getD k []).take (a + 1)).map V.int))), fun H3 h => h, ?_⟩
      rintro y H3 ⟨rfl, hy⟩
      have hye : y = .int ((G.getD k []).getD a 0) := by
        have h1 := hy _ (st_of (e' _ _ hrow))
        rw [List.getElem?_map, hga] at h1
        exact (Option.some.inj h1).symm
      subst hye
      refine ⟨hw1 _ _, ?_⟩
      dsimp only
      rw [if_pos rfl]
      refine ⟨_, hj _ _, _, g', sz_lt (by rw [List.length_map, List.length_append, List.length_take]; omega), (G.getD k []).length - (a + 1), by omega, rfl, by omega, Ex.mut e' hD, ?_⟩
      rw [upd_same, List.take_add_one, hga, ← List.append_assoc, List.map_append (l₂ := (some ((G.getD k []).getD a 0)).toList)]
      rfl⟩
/-! ### comprehensions over zip and enumerate of lists and tuples -/
theorem el_lcZQ {tA : TA} {t : TT} {tq uq : Bool} {a b : Addr} {xs ys : List V} {p q n : Nat} {vs : List Nat} (f : Nat → Bool) (v : Nat → V) (hn : n = min xs.length ys.length) (h : EvA tA σ H [.ref a, .ref b]) (hx : Sq K tq H a xs) (hy : Sq K uq H b ys) (hz : n ≤ 40000) (hw : ∀ x y, wipe (((wipe σ vs).set p (some x)).set q (some y)) vs = wipe σ vs)
    (ht : ∀ (i : Nat) (x y : V) H1, Ex H H1 → xs[i]? = some x → ys[i]? = some y → EvT t (((wipe σ vs).set p (some x)).set q (some y)) H1 (f i))
    (he : ∀ (i : Nat) (x y : V) H1, Ex H H1 → xs[i]? = some x → ys[i]? = some y → f i = true → Ev te (((wipe σ vs).set p (some x)).set q (some y)) H1 (v i)) :
    EvL (tLc (iZipQ K tA) (gTup K 2 (gCons (gName p) (gCons (gName q) gNil))) t te vs) σ H (given n f v) := fun H0 e Q qq => h H0 e _ fun H1 e1 => ⟨tq, uq, a, b, xs, ys, rfl, hx.ex (e.trans e1), hy.ex (e.trans e1), fun Dl hD => by
  refine lc_it (walk_zipq (K := K) (n := n) hn) (Cw H1 f v Dl) ⟨hD, Ex.new hD, upd_same⟩ (fun _ _ _ pc => ⟨hx.ex ((e.trans e1).trans pc.2.1), hy.ex ((e.trans e1).trans pc.2.1)⟩) ?_ (fun H' pc => qq Dl H' (fresh_back e1 pc.1) (e1.trans pc.2.1) pc.2.2)
  rintro i x H2 H3 hi pc ⟨T, c, d, rfl, hT, rfl, hc, hd⟩
  refine gpair upd_same ⟨hw _ _, ?_⟩
  have pc2 : Cw H1 f v Dl i (upd H2 T (.tup [c, d])) := ⟨pc.1, pc.2.1.trans (Ex.new hT), (Ex.new hT) _ _ pc.2.2⟩
  exact cw_turn pc2 (by omega) (ht i c d H1 (e.trans e1) hc hd) (fun hf => he i c d H1 (e.trans e1) hc hd hf)⟩
theorem el_lcEQ {tA : TA} {t : TT} {tq : Bool} {a : Addr} {xs : List V} {p q : Nat} {vs : List Nat} (f : Nat → Bool) (v : Nat → V) (h : EvA tA σ H [.ref a]) (hx : Sq K tq H a xs) (hz : xs.length ≤ 40000) (hw : ∀ x y, wipe (((wipe σ vs).set p (some x)).set q (some y)) vs = wipe σ vs)
    (ht : ∀ (i : Nat) (x : V) H1, Ex H H1 → xs[i]? = some x → EvT t (((wipe σ vs).set p (some (.int (i : Nat)))).set q (some x)) H1 (f i))
    (he : ∀ (i : Nat) (x : V) H1, Ex H H1 → xs[i]? = some x → f i = true → Ev te (((wipe σ vs).set p (some (.int (i : Nat)))).set q (some x)) H1 (v i)) :
    EvL (tLc (iEnumQ K tA) (gTup K 2 (gCons (gName p) (gCons (gName q) gNil))) t te vs) σ H (given xs.length f v) := fun H0 e Q qq => h H0 e _ fun H1 e1 => ⟨tq, a, xs, rfl, hx.ex (e.trans e1), fun Dl hD => by
  refine lc_it (walk_enumq (K := K)) (Cw H1 f v Dl) ⟨hD, Ex.new hD, upd_same⟩ (fun _ _ _ pc => hx.ex ((e.trans e1).trans pc.2.1)) ?_ (fun H' pc => qq Dl H' (fresh_back e1 pc.1) (e1.trans pc.2.1) pc.2.2)
  rintro i x H2 H3 hi pc ⟨T, c, rfl, hT, rfl, hc⟩
  refine gpair upd_same ⟨hw _ _, ?_⟩
  have pc2 : Cw H1 f v Dl i (upd H2 T (.tup [.int (i : Nat), c])) := ⟨pc.1, pc.2.1.trans (Ex.new hT), (Ex.new hT) _ _ pc.2.2⟩
  exact cw_turn pc2 (by omega) (ht i c H1 (e.trans e1) hc) (fun hf => he i c H1 (e.trans e1) hc hf)⟩
/-- the sum of the products of two rows -/
theorem zip_range : ∀ (v F : List Int), (List.range (min v.length F.length)).map (fun i => V.int (v.getD i 0 * F.getD i 0)) = (List.zipWith (· * ·) v F).map V.int
  | [], F => by simp
  | x :: v, [] => by simp
  | x :: v, y :: F => by
    have ih := zip_range v F
    have e : min (x :: v).length (y :: F).length = min v.length F.length + 1 := by simp only [List.length_cons]; omega
    rw [e, List.range_succ_eq_map, List.map_cons, List.map_map, List.zipWith_cons_cons, List.map_cons, ← ih]
    rfl
theorem int_atq {row : List Int} {i : Nat} {x : V} (h : (row.map V.int)[i]? = some x) : x = .int (row.getD i 0) ∧ row.getD i 0 ∈ row := by
  obtain ⟨hi, rfl⟩ := int_at h
  refine ⟨rfl, ?_⟩
  rw [List.getD_eq_getElem?_getD, List.getElem?_eq_getElem hi]
  exact List.getElem_mem hi
theorem ev_dot {tA : TA} {tq uq : Bool} {a b : Addr} {v F : List Int} {p q : Nat} {vs : List Nat} (h : EvA tA σ H [.ref a, .ref b]) (hx : Sq K tq H a (v.map V.int)) (hy : Sq K uq H b (F.map V.int)) (hz : v.length ≤ 40000) (hF : ∀ x ∈ F, -(2 ^ 64) < x ∧ x < 2 ^ 64) (hw : ∀ x y, wipe (((wipe σ vs).set p (some x)).set q (some y)) vs = wipe σ vs)
    (hp : ∀ x y, (((wipe σ vs).set p (some x)).set q (some y))[p]? = some (some x)) (hq : ∀ x y, (((wipe σ vs).set p (some x)).set q (some y))[q]? = some (some y)) :
    Ev (tCB (rSum K) (tCons (tLc (iZipQ K tA) (gTup K 2 (gCons (gName p) (gCons (gName q) gNil))) tYes (tOp (rI CMul fun i j => V.int (i * j)) (tVar p) (tVar q)) vs) tNil)) σ H (.int (dot v F)) := by
  have h2 := el_lcZQ (σ := σ) (tA := tA) (te := tOp (rI CMul fun i j => V.int (i * j)) (tVar p) (tVar q)) (t := tYes) (p := p) (q := q) (vs := vs) (n := min v.length F.length) (fun _ => true) (fun i => V.int (v.getD i 0 * F.getD i 0)) (by simp) h hx hy (by omega) hw (fun _ _ _ _ _ _ _ => et_yes) fun i x y H1 e hxi hyi _ => by
    obtain ⟨rfl, _⟩ := int_atq hxi
    obtain ⟨rfl, hm⟩ := int_atq hyi
    exact ev_op (ev_var (hp _ _)) (ev_var (hq _ _)) (rv_I (.inr (hF _ hm)))
  rw [given_all, zip_range] at h2
  exact ev_cbL h2 fun p H1 hp e => rc_sum (sq_of hp)
end
end Lc
namespace K57
open PySem PySem.Spec PyProof.Rows L2 Lc Evl
section
variable {P : Program} {w : World} {K : PySem.W.Frag} {mg : Str → Option Value} {base : Heap}
/-! ### what a table gains or loses at the moves -/
def Rise (m : Nat) (F : List Int) (PV : List Pr2) (x : Int) : Prop := ∃ q ∈ PV, ∃ st, st < m ∧ x = wt m st F q.2 q.2.length - wt m st F q.1 q.1.length
theorem ev_fldW {σ : L2.St} {H : Hp} {te : TE} {o dx : Addr} {fs : List (Str × V)} {f : Str} {v : V} (T : Tx K mg w) (h : Ev te σ H (.ref o)) (hj : H o = some (.ins (cW K) dx fs)) (n : NoAttr K (cW K) f) (l : fs.lookup f = some v) : Ev (tFld K te f) σ H v := fun H1 e Q q =>
  h H1 e _ fun H2 e2 => ⟨o, cW K, dx, fs, v, rfl, (e.trans e2) _ _ hj, c_Weights T, n, l, q H2 e2⟩
theorem isTb_width {G : List (List Int)} {p : Int} (h : isTb G p = true) : 1 ≤ G.length ∧ G.length ≤ 4 ∧ ∀ row ∈ G, (row.length : Int) = p := by
  unfold isTb at h
  simp only [Bool.and_eq_true, decide_eq_true_eq] at h
  obtain ⟨⟨h1, h2⟩, h3⟩ := h
  refine ⟨by omega, by omega, fun row hr => ?_⟩
  rw [List.all_eq_true] at h3
  have := h3 _ (List.mem_map_of_mem hr)
  simpa using this
theorem flat_len {G : List (List Int)} {m : Nat} (h : ∀ row ∈ G, row.length = m) : G.flatten.length = G.length * m := by
  induction G with
  | nil => simp
  | cons r G ih =>
    rw [List.flatten_cons, List.length_append, h r List.mem_cons_self, ih fun row hr => h row (List.mem_cons_of_mem _ hr), List.length_cons, Nat.add_mul, Nat.one_mul]
    omega
def Sml (F : List Int) : Prop := ∀ x ∈ F, -(2 ^ 64) < x ∧ x < 2 ^ 64
def sp_rises (K : PySem.W.Frag) : Sp := fun vs H Q E => ∃ (o c : Addr) (p b : Int) (Tt : List (List Int)) (ps : List Int) (G : List Jm), vs = [.ref o, .ref c] ∧ Wt K H o p b Tt ∧ IsC K H c ps G ∧ ps.length ≤ 1000 ∧ (ps.length ≤ Tt.length → PvK Tt.length (pairsV G)) ∧ Sml Tt.flatten ∧
  (ps.length ≤ Tt.length → ∀ (r : Addr) (ns : List Int) (H' : Hp), H r = none → Ex H H' → H' r = some (.lst (ns.map V.int)) → (∀ x, x ∈ ns ↔ Rise p.toNat Tt.flatten (pairsV G) x) → ns.length ≤ 2000 → Q (.ref r) H') ∧
  (¬ ps.length ≤ Tt.length → Bad_W K "InvalidWeight" "part" H E (.str "table"))
theorem ok_rises (T : Tx K mg w) : OkD P w K mg base 3 d_rises ps_rises (sp_rises K) := by
  refine (h_rises T).ok sc_rises (fun vs H Q E h => ?_) (fun cdv A outer s H vs Q E hr h => ⟨_,
      (pss_cons (ps_if (pt_cmpR op_gt (pe_callB call_len (by rfl) (m_len T) (by decide +kernel) (pa_cons (pe_fld (pv 1) rfl) pa_nil)) (pe_callB call_len (by rfl) (m_len T) (by decide +kernel) (pa_cons (pe_fld (pv 0) rfl) pa_nil)) (nomark _)) (pss_one (L2N.ps_raise rfl (L2N.takes_of rfl rfl rfl rfl) (pmkN_oex (x_InvalidWeight T).oex (x_InvalidWeight T).iC (x_InvalidWeight T).tI (ok_InvalidWeight_init (P := P) (w := w) (base := base) T) (hr.mono (by decide)) (b_InvalidWeight_init T) .nil passN (by rfl) (m_InvalidWeight T) (pa_cons pe_str pa_nil)))) pss_nil)
      (pss_cons (ps_set (i := 2) sc_rises.nd rfl (Or.inr rfl) (pe_lc2 (own := [("row", 4), ("number", 5)]) (vs1 := [5]) (g := gName 4) (g1 := gName 5) rfl sc_rises.nd (pi_tup (pe_fld (pv 0) rfl)) (blkOk_by (own := [("row", 4), ("number", 5)]) (N := ns_rises) (sc := (defScope st_rises)) (by decide +kernel)) (by simp) (fun _ _ _ _ _ => pg_name (i := 4) sc_rises.nd rfl (Or.inl rfl)) (fun _ _ _ _ _ => pts_nil) (fun _ _ _ _ _ => (pi_tupK K rfl (pv 4))) (fun _ _ _ _ _ => pg_name (i := 5) sc_rises.nd rfl (Or.inl rfl)) (fun _ _ _ _ _ => pts_nil) (fun _ _ _ _ _ => (pv 5))))
      (pss_cons (ps_set (i := 3) sc_rises.nd rfl (Or.inl rfl) (pe_call (ok_changes_of (P := P) (w := w) (base := base) T) (hr.mono (by decide)) (by rfl) (m_changes_of T) (k_changes_of T) (b_changes_of T) .nil passN (pa_cons (pv 1) (pa_cons (pe_fld (pv 0) rfl) (pa_cons (pe_callB call_len (by rfl) (m_len T) (by decide +kernel) (pa_cons (pe_fld (pv 0) rfl) pa_nil)) pa_nil)))))
      (pss_one (ps_ret (pe_lc (own := [("change", 6)]) (g := gName 6) rfl sc_rises.nd (pi_list (pv 3)) (blkOk_by (own := [("change", 6)]) (N := ns_rises) (sc := (defScope st_rises)) (by decide +kernel)) (fun _ _ _ _ _ => pg_name (i := 6) sc_rises.nd rfl (Or.inl rfl)) (fun _ _ _ _ _ => pts_nil) (fun _ _ _ _ _ => (pe_callB (show CallR _ (.builtin "sum") (rSum K) from cr_sum rfl) (by rfl) (m_sum T) (by decide +kernel) (pa_cons (pe_lc (own := [("count", 7), ("number", 5)]) (g := gTup K 2 (gCons (gName 7) (gCons (gName 5) gNil))) rfl sc_rises.nd (pi_zipQ K rfl (by rfl) (m_zip T) (pa_cons (pv 6) (pa_cons (pv 2) pa_nil))) (blkOk_by (own := [("count", 7), ("number", 5)]) (N := ns_rises) (sc := (relS _ (defScope st_rises))) (by decide +kernel)) (fun _ _ _ _ _ => (pg_tup rfl (pgs_cons (pg_name (i := 7) sc_rises.nd rfl (Or.inl rfl)) (pgs_cons (pg_name (i := 5) sc_rises.nd rfl (Or.inl rfl)) pgs_nil)))) (fun _ _ _ _ _ => pts_nil) (fun _ _ _ _ _ => (pe_op op_mul (pv 7) (pv 5)))) pa_nil))))))))), ?_⟩)
  · obtain ⟨o, c, p, b, Tt, ps, G, rfl, _⟩ := h
    rfl
  · obtain ⟨o, c, p, b, Tt, ps, G, rfl, hW, hC, hps, hPv, hF, q1, q2⟩ := h
    obtain ⟨hpt, dx, t, rs, w1, w2, w3⟩ := id hW
    obtain ⟨dx', wa, ja, pa, L, M, h1, h2, h3, h4, h5, h6, h7, h8⟩ := id hC
    obtain ⟨hp12, _, hTb⟩ := part_ok hpt
    obtain ⟨t1, t4, tw⟩ := isTb_width hTb
    obtain ⟨m, rfl⟩ : ∃ m : Nat, p = (m : Int) := ⟨p.toNat, by omega⟩
    have hlw : ∀ {σ : L2.St} {H1 : Hp}, Ex H H1 → σ[1]? = some (some (.ref c)) → Ev (tCB (fun xs H Q => ∃ x n, xs = [x] ∧ LenV K x H n ∧ Q (.int n) H) (tCons (tFld K (tVar 1) "worths") tNil)) σ H1 (.int (ps.length : Nat)) := fun e h0 => by
      have h9 := rc_lenT (K := K) (st_of (K := K) (e _ _ h2))
      rw [List.length_map] at h9
      exact ev_cb (ea_cons (ev_fldC T (ev_var h0) (e _ _ h1) (n_Card_worths T) rfl) ea_nil) h9
    have hlt : ∀ {σ : L2.St} {H1 : Hp}, Ex H H1 → σ[0]? = some (some (.ref o)) → Ev (tCB (fun xs H Q => ∃ x n, xs = [x] ∧ LenV K x H n ∧ Q (.int n) H) (tCons (tFld K (tVar 0) "table") tNil)) σ H1 (.int (Tt.length : Nat)) := fun e h0 => by
      have h9 := rc_lenT (K := K) (st_of (K := K) (e _ _ w2))
      rw [List.length_map, w3.len] at h9
      exact ev_cb (ea_cons (ev_fldW T (ev_var h0) (e _ _ w1) (n_Weights_table T) rfl) ea_nil) h9
    refine q_when (b := decide ((ps.length : Int) > (Tt.length : Int))) (et_test (ev_op (hlw (Ex.refl H) rfl) (hlt (Ex.refl H) rfl) rv_I0)) (fun hb H1 e1 => ?_) fun hb H1 e1 => ?_
    · have hn : ¬ ps.length ≤ Tt.length := by
        have := of_decide_eq_true hb
        omega
      exact ⟨by simp, fun a ha => ⟨a, _, rfl, ks_table, mk_go_W ((q2 hn).ex e1) ha⟩⟩
    have hle : ps.length ≤ Tt.length := by
      have := of_decide_eq_false hb
      omega
    have hPv := hPv hle
    have hfl : Tt.flatten.length = Tt.length * m := flat_len fun row hr => by have := tw row hr; omega
    have hfl2 : Tt.length * m ≤ 4 * 12 := Nat.mul_le_mul t4 (show m ≤ 12 by omega)
    refine q_asgL (xs := Tt.flatten.map V.int) (el_flatT (K := K) (i := 4) (j := 5) (ev_fldW T (by exact ev_var rfl) (e1 _ _ w1) (n_Weights_table T) rfl) (e1 _ _ w2) (w3.ex e1) (by omega) (fun x => rfl) (fun x y => rfl) (fun x => rfl) (fun x y => rfl)) fun f H2 hf e2 h2f => ?_
    try dsimp only [List.set]
    have e12 := e1.trans e2
    refine Lc.q_first (call_fst ?_)
    refine (ea_cons (by exact ev_var rfl) (ea_cons (ev_fldW T (by exact ev_var rfl) (e12 _ _ w1) (n_Weights_period T) rfl) (ea_cons (hlt e12 rfl) ea_nil))) H2 (Ex.refl H2) _ fun H3 e3 => ⟨c, m, Tt.length, ps, G, rfl, hC.ex (e12.trans e3), by omega, by omega, t4, hPv, fun a rs' CH H4 ha e4 h4a hR hCH hlen => ?_⟩
    try dsimp only [List.set]
    have e34 := e3.trans e4
    have hz : ∀ k, k < CH.length → (CH.getD k []).length = Tt.length * m := fun k hk => by
      have : CH.getD k [] ∈ CH := by
        rw [List.getD_eq_getElem?_getD, List.getElem?_eq_getElem hk]
        exact List.getElem_mem hk
      obtain ⟨q, _, st, _, e⟩ := (hCH _).mp this
      rw [e, chg_len]
    refine s_retL (xs := (CH.map fun v => dot v Tt.flatten).map V.int) ?_ fun r H5 hr e5 h5 => ?_
    · have h6 := el_lcL (K := K) (σ := [some (.ref o), some (.ref c), some (.ref f), some (.ref a), none, none, none, none]) (H := H4) (tl := tVar 3) (j := 6) (vs := [6]) (t := tYes) (te := tCB (rSum K) (tCons (tLc (iZipQ K (tCons (tVar 6) (tCons (tVar 2) tNil))) (gTup K 2 (gCons (gName 7) (gCons (gName 5) gNil))) tYes (tOp (rI CMul fun i j => V.int (i * j)) (tVar 7) (tVar 5)) [7, 5]) tNil)) (a := a) (xs := rs'.map V.ref) (fun _ => true) (fun i => V.int (dot (CH.getD i []) Tt.flatten)) (by exact ev_var rfl) (sq_of h4a) (by rw [List.length_map, hR.len]; omega) (fun x => rfl) (fun i v H5 e5 hi => et_yes) (fun i v H5 e5 hi _ => ?_)
      · rw [given_all, List.length_map, hR.len] at h6
        have e : (CH.map fun v => dot v Tt.flatten).map V.int = (List.range CH.length).map fun i => V.int (dot (CH.getD i []) Tt.flatten) := by
          apply List.ext_getElem
          · simp
          · intro i x1 x2
            simp at x1
            simp [x1]
        rw [e]
        exact h6
      · obtain ⟨hk, rfl, hrow⟩ := hR.at_ hi
        exact ev_dot (tq := true) (uq := false) (ea_cons (by exact ev_var rfl) (ea_cons (by exact ev_var rfl) ea_nil)) (st_of (e5 _ _ hrow)) (sq_of ((e34.trans e5) _ _ h2f)) (by rw [hz i hk]; omega) hF (fun x y => rfl) (fun x y => rfl) (fun x y => rfl)
    · refine q1 hle r _ H5 (fresh_back (e12.trans e34) hr) ((e12.trans e34).trans e5) h5 (fun x => ?_) (by rw [List.length_map]; exact hlen)
      rw [Int.toNat_natCast]
      constructor
      · intro hx
        obtain ⟨v, hv, rfl⟩ := List.mem_map.mp hx
        obtain ⟨q, hq, st, hst, rfl⟩ := (hCH v).mp hv
        exact ⟨q, hq, st, hst, dot_chg (by omega) (hPv q hq).1.1 (hPv q hq).1.2⟩
      · rintro ⟨q, hq, st, hst, rfl⟩
        rw [← dot_chg (k := Tt.length) (by omega) (hPv q hq).1.1 (hPv q hq).1.2]
        exact List.mem_map_of_mem ((hCH _).mpr ⟨q, hq, st, hst, rfl⟩)

end
end K57
namespace Lc
open PySem PySem.Spec PyProof.Rows L2 Evl
section
variable {K : PySem.W.Frag} {σ : L2.St} {H : Hp} {tl te : TE}
/-! ### rows cut out of a flat table -/
def chk (m k : Nat) (F : List Int) : List (List Int) := (List.range k).map fun i => (F.drop (i * m)).take m
theorem chk_len (m k : Nat) (F : List Int) : (chk m k F).length = k := by
  unfold chk
  rw [List.length_map, List.length_range]
theorem chk_at {m k i : Nat} (F : List Int) (h : i < k) : (chk m k F).getD i [] = (F.drop (i * m)).take m := by
  unfold chk
  rw [List.getD_eq_getElem?_getD, List.getElem?_map, List.getElem?_range h]
  rfl
theorem chk_row {m k : Nat} {F : List Int} (hF : F.length = k * m) : ∀ row ∈ chk m k F, row.length = m := by
  intro row hr
  obtain ⟨i, hi, rfl⟩ := List.mem_map.mp hr
  have hi := List.mem_range.mp hi
  have h1 := Nat.mul_le_mul_right m (show i + 1 ≤ k from hi)
  rw [Nat.add_mul, Nat.one_mul] at h1
  rw [List.length_take, List.length_drop]
  omega
theorem chk_flat {m : Nat} : ∀ {k : Nat} {F : List Int}, F.length = k * m → (chk m k F).flatten = F
  | 0, F, h => by
    have : F = [] := List.length_eq_zero_iff.mp (by simpa using h)
    rw [this]
    rfl
  | k + 1, F, h => by
    rw [Nat.add_mul, Nat.one_mul] at h
    have ih := chk_flat (m := m) (k := k) (F := F.drop m) (by rw [List.length_drop]; omega)
    have e : chk m (k + 1) F = F.take m :: chk m k (F.drop m) := by
      unfold chk
      rw [List.range_succ_eq_map, List.map_cons, List.map_map, Nat.zero_mul, List.drop_zero]
      congr 1
      refine List.map_congr_left fun i _ => ?_
      show (F.drop ((i + 1) * m)).take m = ((F.drop m).drop (i * m)).take m
      rw [List.drop_drop, Nat.add_mul, Nat.one_mul, Nat.add_comm m]
    rw [e, List.flatten_cons, ih, List.take_append_drop]
theorem rgC_chk : ∀ m : Nat, m < 13 → ∀ k : Nat, k < 13 → 0 < m → ((m : Int) ≠ 0 ∧ (m : Int).natAbs < 1073741824 ∧ Builtin.Range.small 0 ((k * m : Nat) : Int) (m : Int) = true ∧ Builtin.Range.rangeSize 0 ((k * m : Nat) : Int) (m : Int) = (k : Nat)) := by decide +kernel
theorem eg_R3 {c : List V → HO} {G : List (List Int)} {ta : TA} {j : Nat} {vs : List Nat} {lo hi st : Int} (h : EvA ta σ H [.int lo, .int hi, .int st]) (hr : RgC lo hi st G.length) (hz : G.length ≤ 40000) (hw : ∀ x, wipe ((wipe σ vs).set j (some x)) vs = wipe σ vs)
    (he : ∀ (i : Nat) H1, Ex H H1 → i < G.length → EvN c te ((wipe σ vs).set j (some (.int (lo + (i : Nat) * st)))) H1 (G.getD i [])) : EvG c (tLc (iRng3 ta) (gName j) tYes te vs) σ H G := fun H0 e Q q => h H0 e _ fun H1 e1 => ⟨lo, hi, st, G.length, rfl, hr, fun Dl hD =>
  lc_it (walk_rangeC (lo := lo) (c := st) (n := G.length)) (Cg H1 c G Dl) (cg_start hD) (fun _ _ _ _ => trivial) (fun i x H2 H3 hi p y => by
    obtain ⟨rfl, rfl⟩ := y
    exact ⟨hw _, cg_turn p (by omega) (he i H1 (e.trans e1) hi)⟩) (fun H' p => cg_end p e1 q)⟩
theorem eg_chk {m k : Nat} {F : List Int} {j : Nat} {vs : List Nat} {tlen tm : TE} (hm : 0 < m) (hm2 : m ≤ 12) (hk : k ≤ 12) (hF : F.length = k * m) (hl : Ev tlen σ H (.int ((k * m : Nat) : Int))) (hm3 : Ev tm σ H (.int (m : Int))) (hw : ∀ x, wipe ((wipe σ vs).set j (some x)) vs = wipe σ vs)
    (he : ∀ (i : Nat) H1, Ex H H1 → i < k → EvL te ((wipe σ vs).set j (some (.int ((i * m : Nat) : Int)))) H1 (((F.drop (i * m)).take m).map V.int)) : EvG .lst (tLc (iRng3 (tCons (tC (.int 0)) (tCons tlen (tCons tm tNil)))) (gName j) tYes te vs) σ H (chk m k F) :=
  eg_R3 (lo := 0) (hi := ((k * m : Nat) : Int)) (st := (m : Int)) (ea_cons ev_c (ea_cons hl (ea_cons hm3 ea_nil))) (by rw [chk_len]; exact rgC_chk m (by omega) k (by omega) hm) (by rw [chk_len]; omega) hw fun i H1 e hi => by
    rw [chk_len] at hi
    rw [chk_at F hi]
    have e0 : (0 : Int) + (i : Nat) * (m : Int) = ((i * m : Nat) : Int) := by rw [Int.zero_add, Int.natCast_mul]
    rw [e0]
    exact he i H1 e hi
theorem cutL_mid {α : Type} {g : α → V} (F : List α) {i m : Nat} (h : i + m ≤ F.length) : cutV (F.map g) (some (i : Int)) (some ((i : Int) + (m : Int))) = ((F.drop i).take m).map g := by
  have e : (i : Int) + (m : Int) = ((i + m : Nat) : Int) := by rw [Int.natCast_add]
  unfold cutV
  rw [e, HT.sIx_nat, HT.sIx_nat, List.length_map, Nat.min_eq_left (by omega), Nat.min_eq_left (by omega), show i + m - i = m by omega, List.map_take, List.map_drop]
theorem cutL_to {α : Type} {g : α → V} (F : List α) {i : Nat} (h : i ≤ F.length) : cutV (F.map g) none (some (i : Int)) = (F.take i).map g := by
  unfold cutV
  rw [HT.sIx_nat, HT.sIx_none, List.length_map, Nat.min_eq_left h, List.drop_zero, Nat.sub_zero, List.map_take]
theorem cutL_from {α : Type} {g : α → V} (F : List α) {i : Nat} (h : i ≤ F.length) : cutV (F.map g) (some (i : Int)) none = (F.drop i).map g := by
  unfold cutV
  rw [HT.sIx_nat, HT.sIx_none, List.length_map, Nat.min_eq_left h, ← List.map_drop]
  exact List.take_of_length_le (by rw [List.length_map, List.length_drop]; omega)
/-! ### starred parts of a display -/
theorem ea_star {te : TE} {ta : TA} {xs ys : List V} (h : EvL te σ H xs) (h2 : ∀ H1, Ex H H1 → EvA ta σ H1 ys) : EvA (StX.tStar K te ta) σ H (xs ++ ys) := fun H1 e Q q =>
  h H1 e _ fun p H2 hp e2 h3 => ⟨p, xs, rfl, .inr (sq_of h3), h2 H2 (e.trans e2) H2 (Ex.refl H2) _ fun H3 e3 => q H3 (e2.trans e3)⟩
end
end Lc
namespace K57
open PySem PySem.Spec PyProof.Rows L2 Lc Evl
section
variable {P : Program} {w : World} {K : PySem.W.Frag} {mg : Str → Option Value} {base : Heap}
/-! ### falling tables, and their parts -/
def fallB (m : Nat) (F : List Int) (PV : List Pr2) : Bool := PV.all fun q => (List.range m).all fun st => decide (wt m st F q.2 q.2.length ≤ wt m st F q.1 q.1.length)
theorem fallB_iff {m : Nat} {F : List Int} {PV : List Pr2} : fallB m F PV = true ↔ ∀ q ∈ PV, ∀ st, st < m → wt m st F q.2 q.2.length ≤ wt m st F q.1 q.1.length := by
  unfold fallB
  rw [List.all_eq_true]
  refine ⟨fun h q hq st hst => ?_, fun h q hq => ?_⟩
  · have := h q hq
    rw [List.all_eq_true] at this
    exact of_decide_eq_true (this st (List.mem_range.mpr hst))
  · rw [List.all_eq_true]
    exact fun st hst => decide_eq_true (h q hq st (List.mem_range.mp hst))
theorem fall_all {m : Nat} {F : List Int} {PV : List Pr2} {ns : List Int} (h : ∀ x, x ∈ ns ↔ Rise m F PV x) : (ns.all fun x => decide (x ≤ 0)) = fallB m F PV := by
  rw [Bool.eq_iff_iff, fallB_iff, List.all_eq_true]
  constructor
  · intro h2 q hq st hst
    have := of_decide_eq_true (h2 _ ((h _).mpr ⟨q, hq, st, hst, rfl⟩))
    omega
  · intro h2 x hx
    obtain ⟨q, hq, st, hst, rfl⟩ := (h x).mp hx
    have := h2 q hq st hst
    exact decide_eq_true (by omega)
def sp_Weights_falls (K : PySem.W.Frag) : Sp := fun vs H Q E => ∃ (o c : Addr) (p b : Int) (Tt : List (List Int)) (ps : List Int) (G : List Jm), vs = [.ref o, .ref c] ∧ Wt K H o p b Tt ∧ IsC K H c ps G ∧ ps.length ≤ 1000 ∧ (ps.length ≤ Tt.length → PvK Tt.length (pairsV G)) ∧ Sml Tt.flatten ∧
  (ps.length ≤ Tt.length → RetV (.bl (decide (b = 0) && fallB p.toNat Tt.flatten (pairsV G))) H Q) ∧ (¬ ps.length ≤ Tt.length → Bad_W K "InvalidWeight" "part" H E (.str "table"))
theorem ok_Weights_falls (T : Tx K mg w) : OkD P w K mg base 4 d_Weights_falls ps_Weights_falls (sp_Weights_falls K) := by
  refine (h_Weights_falls T).ok sc_Weights_falls (fun vs H Q E h => ?_) (fun cdv A outer s H vs Q E hr h => ⟨_,
      (pss_cons (ps_set (i := 2) sc_Weights_falls.nd rfl (Or.inl rfl) (pe_callSD (ok_rises (P := P) (w := w) (base := base) T) (hr.mono (by decide)) (by rfl) (m_rises T) (k_rises T) (b_rises T) .nil (fun σ => L2N.passAt (L2N.takes_of rfl rfl rfl rfl) σ) (pa_cons (pv 0) (pa_cons (pv 1) pa_nil))))
      (pss_one (ps_ret (pe_and (pe_cmpR op_eq (pe_fld (pv 0) rfl) pe_int (nomark _)) (pe_one (pe_callB (cr_all rfl) (by rfl) (m_all T) (by decide +kernel) (pa_cons (pe_lc (own := [("rise", 3)]) (g := gName 3) rfl sc_Weights_falls.nd (pi_list (pv 2)) (blkOk_by (own := [("rise", 3)]) (N := ns_Weights_falls) (sc := (defScope st_Weights_falls)) (by decide +kernel)) (fun _ _ _ _ _ => pg_name (i := 3) sc_Weights_falls.nd rfl (Or.inl rfl)) (fun _ _ _ _ _ => pts_nil) (fun _ _ _ _ _ => (pe_cmpR op_le (pv 3) pe_int (nomark _)))) pa_nil))))))), ?_⟩)
  · obtain ⟨o, c, p, b, Tt, ps, G, rfl, _⟩ := h
    rfl
  · obtain ⟨o, c, p, b, Tt, ps, G, rfl, hW, hC, hps, hPv, hF, q1, q2⟩ := h
    obtain ⟨hpt, dx, t, rs, w1, w2, w3⟩ := id hW
    refine ⟨_, rfl, _, rfl, o, c, p, b, Tt, ps, G, rfl, hW, hC, hps, hPv, hF, fun hle r ns H1 hr e1 h1 hns hlen => ?_, q2⟩
    try dsimp only [List.set]
    refine s_ret (v := .bl (decide (b = 0) && ns.all fun x => decide (x ≤ 0))) (ev_andV (ev_op (ev_fldW T (by exact ev_var rfl) (e1 _ _ w1) (n_Weights_modulus T) rfl) ev_c rv_eqII) fun _ => ?_) fun H2 e2 => ?_
    · have h6 := el_lcL (K := K) (σ := [some (.ref o), some (.ref c), some (.ref r), none]) (H := H1) (tl := tVar 2) (j := 3) (vs := [3]) (t := tYes) (te := tOp (rI0 fun i j => V.bl (decide (i ≤ j))) (tVar 3) (tC (.int 0))) (a := r) (xs := ns.map V.int) (fun _ => true) (fun i => V.bl (decide (ns.getD i 0 ≤ 0))) (by exact ev_var rfl) (sq_of h1) (by rw [List.length_map]; omega) (fun x => rfl) (fun i v H5 e5 hi => et_yes) (fun i v H5 e5 hi _ => by
        obtain ⟨rfl, _⟩ := int_atq hi
        exact ev_op (by exact ev_var rfl) ev_c rv_I0)
      rw [given_all, List.length_map] at h6
      have e : (ns.map fun x => decide (x ≤ 0)).map V.bl = (List.range ns.length).map fun i => V.bl (decide (ns.getD i 0 ≤ 0)) := by
        apply List.ext_getElem
        · simp
        · intro i x1 x2
          simp at x1
          simp [x1]
      rw [← e] at h6
      have h7 := ev_all (K := K) h6
      rw [List.all_map] at h7
      exact h7
    · rw [fall_all hns]
      exact q1 hle H2 (e1.trans e2)
def sp_as_table (K : PySem.W.Frag) : Sp := fun vs H Q _ => ∃ (a : Addr) (F : List Int) (m k : Nat), vs = [.ref a, .int (m : Int)] ∧ H a = some (.lst (F.map V.int)) ∧ F.length = k * m ∧ 0 < m ∧ m ≤ 12 ∧ k ≤ 12 ∧ RetG (chk m k F) H Q
theorem ok_as_table (T : Tx K mg w) : OkD P w K mg base 1 d_as_table ps_as_table (sp_as_table K) := by
  refine (h_as_table T).ok sc_as_table (fun vs H Q E h => ?_) (fun cdv A outer s H vs Q E hr h => ⟨_,
      (pss_one (ps_ret (pe_lc (own := [("at", 2)]) (g := gName 2) rfl sc_as_table.nd (pi_range3 rfl (m_range T) (pa_cons pe_int (pa_cons (pe_callB call_len (by rfl) (m_len T) (by decide +kernel) (pa_cons (pv 0) pa_nil)) (pa_cons (pv 1) pa_nil)))) (blkOk_by (own := [("at", 2)]) (N := ns_as_table) (sc := (defScope st_as_table)) (by decide +kernel)) (fun _ _ _ _ _ => pg_name (i := 2) sc_as_table.nd rfl (Or.inl rfl)) (fun _ _ _ _ _ => pts_nil) (fun _ _ _ _ _ => (pe_slice (show SlR _ (rSlL K) from sl_list) (pv 0) (po_some (pv 2)) (po_some (pe_op op_add (pv 2) (pv 1)))))))), ?_⟩)
  · obtain ⟨a, F, m, k, rfl, _⟩ := h
    rfl
  · obtain ⟨a, F, m, k, rfl, ha, hF, hm, hm12, hk, q⟩ := h
    refine ret_fst ?_
    have hkm : k * m ≤ 12 * 12 := Nat.mul_le_mul hk hm12
    refine eg_chk (m := m) (k := k) (F := F) (σ := [some (.ref a), some (.int (m : Int)), none]) hm hm12 hk hF (ev_is (ev_cb (ea_cons (by exact ev_var rfl) ea_nil) (rc_lenL (K := K) (sq_of (K := K) ha))) (by rw [List.length_map, hF])) (by exact ev_var rfl) (fun x => rfl) (fun i H1 e hi => ?_) H (Ex.refl H) _ fun p rs H2 hp e2 h2 hr hf hn => q p rs H2 hp e2 h2 hr hf hn
    have h1 := Nat.mul_le_mul_right m (show i + 1 ≤ k from hi)
    rw [Nat.add_mul, Nat.one_mul] at h1
    have h2 := el_sl (K := K) (σ := [some (.ref a), some (.int (m : Int)), some (.int ((i * m : Nat) : Int))]) (H := H1) (te := tVar 0) (a := a) (xs := F.map V.int) (tl := tPart (tVar 2)) (th := tPart (tOp (rI0 fun i j => V.int (i + j)) (tVar 2) (tVar 1))) (lo := some ((i * m : Nat) : Int)) (hi := some ((i * m : Nat) + (m : Int))) (by exact ev_var rfl) (eo_some (by exact ev_var rfl)) (eo_some (ev_op (by exact ev_var rfl) (by exact ev_var rfl) rv_I0)) (sq_of (e _ _ ha))
    rw [cutL_mid F (by omega)] at h2
    exact h2

end
end K57
namespace Lc
open PySem PySem.Spec PyProof.Rows L2 Evl
section
variable {K : PySem.W.Frag} {σ : L2.St} {H : Hp} {tl te : TE}
/-! ### values told by a predicate of the heap -/
/-- what stood in H already, or is new since H1, still stands as in H2 -/
def Kp (H H1 H2 H3 : Hp) : Prop := ∀ b o, (H b ≠ none ∨ H1 b = none) → H2 b = some o → H3 b = some o
def EvR (te : TE) (σ : L2.St) (H : Hp) (R : Hp → V → Prop) : Prop := ∀ H1, Ex H H1 → ∀ Q : VK, (∀ v H2, Ex H1 H2 → (∀ H3, Kp H H1 H2 H3 → R H3 v) → Q v H2) → te σ H1 Q
theorem Kp.refl (H H1 H2 : Hp) : Kp H H1 H2 H2 := fun _ _ _ h => h
theorem er_L {xs : List V} (h : EvL te σ H xs) : EvR te σ H fun H v => ∃ p, v = .ref p ∧ H p = some (.lst xs) := fun H1 e Q q => h H1 e _ fun p H2 hp e2 h2 => q _ H2 e2 fun H3 k => ⟨p, rfl, k _ _ (.inr hp) h2⟩
theorem er_U {xs : List V} (h : EvU te σ H xs) : EvR te σ H fun H v => ∃ p, v = .ref p ∧ H p = some (.tup xs) := fun H1 e Q q => h H1 e _ fun p H2 hp e2 h2 => q _ H2 e2 fun H3 k => ⟨p, rfl, k _ _ (.inr hp) h2⟩
/-- the list that is made, when i turns are done: ks the turns that gave an item -/
structure Cr (H H0 : Hp) (f : Nat → Bool) (R : Nat → Hp → V → Prop) (Dl : Addr) (i : Nat) (H' : Hp) : Prop where
  no : H0 Dl = none
  ex : Ex H0 H'
  out : ∃ vs : List V, H' Dl = some (.lst vs) ∧ vs.length = ((List.range i).filter f).length ∧ ∀ j, j < vs.length → ∀ H3, (∀ b o, b ≠ Dl → (H b ≠ none ∨ H0 b = none) → H' b = some o → H3 b = some o) → R (((List.range i).filter f).getD j 0) H3 (vs.getD j .non)
theorem Cr.more {H H0 : Hp} {f : Nat → Bool} {R : Nat → Hp → V → Prop} {Dl : Addr} {i : Nat} {H' H2 : Hp} (p : Cr H H0 f R Dl i H') (e : Ex H' H2) : Cr H H0 f R Dl i H2 := by
  obtain ⟨h1, h2, vs, h3, h4, h5⟩ := p
  exact ⟨h1, h2.trans e, vs, e _ _ h3, h4, fun j hj H3 k => h5 j hj H3 fun b o hb hk ho => k b o hb hk (e _ _ ho)⟩
theorem cr_turn {H H0 : Hp} {f : Nat → Bool} {R : Nat → Hp → V → Prop} {Dl : Addr} {i : Nat} {H' : Hp} {σ2 : L2.St} {t : TT} (eH : Ex H H0) (p : Cr H H0 f R Dl i H') (hi : i < 50000) (ht : EvT t σ2 H (f i)) (he : f i = true → EvR te σ2 H (R i)) :
    t σ2 H' fun b H3 => if b = true then te σ2 H3 fun y H4 => ∃ acc, H4 Dl = some (.lst acc) ∧ acc.length < sizeLine ∧ Cr H H0 f R Dl (i + 1) (upd H4 Dl (.lst (acc ++ [y]))) else Cr H H0 f R Dl (i + 1) H3 := by
  refine ht H' (eH.trans p.ex) _ fun H3 e3 => ?_
  have p3 := p.more e3
  obtain ⟨hD, e, vs, h1, hl, hR⟩ := p3
  have hfl := List.length_filter_le f (List.range i)
  rw [List.length_range] at hfl
  cases hf : f i with
  | false =>
    rw [if_neg (by decide)]
    refine ⟨hD, e, vs, h1, ?_, ?_⟩
    · rw [List.range_succ, List.filter_append, hl]
      simp [hf]
    · rw [List.range_succ, List.filter_append]
      simp only [List.filter_cons, hf, Bool.false_eq_true, if_false, List.filter_nil, List.append_nil]
      exact hR
  | true =>
    rw [if_pos rfl]
    refine he hf H3 (eH.trans e) _ fun y H4 e4 hy => ⟨vs, e4 _ _ h1, sz_lt (by omega), hD, Ex.mut (e.trans e4) hD, vs ++ [y], upd_same, ?_, ?_⟩
    · rw [List.range_succ, List.filter_append, List.length_append, List.length_append, hl]
      simp [hf]
    · intro j hj H5 k
      have hks : (List.range (i + 1)).filter f = (List.range i).filter f ++ [i] := by
        rw [List.range_succ, List.filter_append]
        simp [hf]
      rw [hks]
      rw [List.length_append, List.length_singleton] at hj
      have kk : ∀ b o, b ≠ Dl → (H b ≠ none ∨ H0 b = none) → H4 b = some o → H5 b = some o := fun b o hb hk ho => k b o hb hk (by rw [upd_ne hb]; exact ho)
      by_cases hjl : j < vs.length
      · have e1 : (vs ++ [y]).getD j .non = vs.getD j .non := by rw [List.getD_eq_getElem?_getD, List.getElem?_append_left hjl, ← List.getD_eq_getElem?_getD]
        have e2 : ((List.range i).filter f ++ [i]).getD j 0 = ((List.range i).filter f).getD j 0 := by rw [List.getD_eq_getElem?_getD, List.getElem?_append_left (by omega), ← List.getD_eq_getElem?_getD]
        rw [e1, e2]
        exact hR j hjl H5 fun b o hb hk ho => kk b o hb hk (e4 _ _ ho)
      · have hj2 : j = vs.length := by omega
        have e1 : (vs ++ [y]).getD j .non = y := by rw [hj2, List.getD_eq_getElem?_getD, List.getElem?_append_right (Nat.le_refl _), Nat.sub_self]; rfl
        have e2 : ((List.range i).filter f ++ [i]).getD j 0 = i := by rw [hj2, hl, List.getD_eq_getElem?_getD, List.getElem?_append_right (Nat.le_refl _), Nat.sub_self]; rfl
        rw [e1, e2]
        refine hy H5 fun b o hb ho => ?_
        have hbD : b ≠ Dl := fun z => by
          rw [z] at hb
          rcases hb with hb | hb
          · cases hHb : H Dl with
            | none => exact hb hHb
            | some o' => rw [eH _ _ hHb] at hD; cases hD
          · rw [h1] at hb
            cases hb
        refine kk b o hbD (hb.imp id fun h => ?_) ho
        cases hb0 : H0 b with
        | none => rfl
        | some o' => rw [e _ _ hb0] at h; cases h
/-- the list that is made at the end -/
def Lst (f : Nat → Bool) (R : Nat → Hp → V → Prop) (n : Nat) (H : Hp) (v : V) : Prop := ∃ p vs, v = .ref p ∧ H p = some (.lst vs) ∧ vs.length = ((List.range n).filter f).length ∧ ∀ j, j < vs.length → R (((List.range n).filter f).getD j 0) H (vs.getD j .non)
theorem cr_start {H H0 : Hp} {f : Nat → Bool} {R : Nat → Hp → V → Prop} {Dl : Addr} (h : H0 Dl = none) : Cr H H0 f R Dl 0 (upd H0 Dl (.lst [])) := ⟨h, Ex.new h, [], upd_same, rfl, fun j hj => absurd hj (Nat.not_lt_zero _)⟩
theorem cr_end {H H1 H0 : Hp} {f : Nat → Bool} {R : Nat → Hp → V → Prop} {Dl : Addr} {n : Nat} {H' : Hp} {Q : VK} (e1 : Ex H1 H0) (p : Cr H H0 f R Dl n H') (q : ∀ v H2, Ex H1 H2 → (∀ H3, Kp H H1 H2 H3 → Lst f R n H3 v) → Q v H2) : Q (.ref Dl) H' := by
  obtain ⟨hD, e, vs, h1, hl, hR⟩ := p
  refine q _ H' (e1.trans e) fun H3 k => ⟨Dl, vs, rfl, k _ _ (.inr (fresh_back e1 hD)) h1, hl, fun j hj => hR j hj H3 fun b o _ hb ho => k b o (hb.imp id fun h => fresh_back e1 h) ho⟩
/-- a comprehension over a list that stands in H -/
theorem er_lcL {a : Addr} {xs : List V} {t : TT} {j : Nat} {vs : List Nat} (f : Nat → Bool) (R : Nat → Hp → V → Prop) (h : Ev tl σ H (.ref a)) (hx : SqL K H a xs) (hz : xs.length ≤ 40000) (hw : ∀ x, wipe ((wipe σ vs).set j (some x)) vs = wipe σ vs)
    (ht : ∀ (i : Nat) (x : V), xs[i]? = some x → EvT t ((wipe σ vs).set j (some x)) H (f i)) (he : ∀ (i : Nat) (x : V), xs[i]? = some x → f i = true → EvR te ((wipe σ vs).set j (some x)) H (R i)) :
    EvR (tLc (iList K tl) (gName j) t te vs) σ H (Lst f R xs.length) := fun H1 e Q q => h H1 e _ fun H2 e2 => ⟨a, rfl, ⟨xs, ex_l (e.trans e2) hx⟩, fun Dl hD =>
  lc_list (xs := xs) (Cr H H2 f R Dl) (cr_start hD) (fun i H' _ p => ex_l ((e.trans e2).trans p.ex) hx) (fun i x H' hi p => ⟨hw x, cr_turn (e.trans e2) p (by have := (List.getElem?_eq_some_iff.mp hi).1; omega) (ht i x hi) (he i x hi)⟩) (fun H' p => cr_end e2 p q)⟩
/-- a comprehension over enumerate of a list or a tuple that stands in H -/
theorem er_lcE {tA : TA} {t : TT} {tq : Bool} {a : Addr} {xs : List V} {p q : Nat} {vs : List Nat} (f : Nat → Bool) (R : Nat → Hp → V → Prop) (h : EvA tA σ H [.ref a]) (hx : Sq K tq H a xs) (hz : xs.length ≤ 40000) (hw : ∀ x y, wipe (((wipe σ vs).set p (some x)).set q (some y)) vs = wipe σ vs)
    (ht : ∀ (i : Nat) (x : V), xs[i]? = some x → EvT t (((wipe σ vs).set p (some (.int (i : Nat)))).set q (some x)) H (f i))
    (he : ∀ (i : Nat) (x : V), xs[i]? = some x → f i = true → EvR te (((wipe σ vs).set p (some (.int (i : Nat)))).set q (some x)) H (R i)) :
    EvR (tLc (iEnumQ K tA) (gTup K 2 (gCons (gName p) (gCons (gName q) gNil))) t te vs) σ H (Lst f R xs.length) := fun H1 e Q qq => h H1 e _ fun H2 e2 => ⟨tq, a, xs, rfl, hx.ex (e.trans e2), fun Dl hD => by
  refine lc_it (walk_enumq (K := K)) (Cr H H2 f R Dl) (cr_start hD) (fun _ _ _ pc => hx.ex ((e.trans e2).trans pc.ex)) ?_ (fun H' pc => cr_end e2 pc qq)
  rintro i x H3 H4 hi pc ⟨T, c, rfl, hT, rfl, hc⟩
  exact gpair upd_same ⟨hw _ _, cr_turn (e.trans e2) (pc.more (Ex.new hT)) (by omega) (ht i c hc) (he i c hc)⟩⟩
theorem q_asgR {D : Ends} {tz : TS} {i : Nat} {R : Hp → V → Prop} (h : EvR te σ H R) (k : ∀ v H2, Ex H H2 → R H2 v → tz D (σ.set i (some v)) H2) : tSeq (tAsg te (gName i)) tz D σ H := h H (Ex.refl H) _ fun v H2 e2 h2 => k v H2 e2 (h2 H2 (Kp.refl _ _ _))
end
end Lc
namespace K57
open PySem PySem.Spec PyProof.Rows L2 Lc Evl
section
variable {P : Program} {w : World} {K : PySem.W.Frag} {mg : Str → Option Value} {base : Heap}
/-! ### sums that never rise -/
theorem el_lcLp {σ : L2.St} {H : Hp} {tl te : TE} {a : Addr} {xs : List V} {p q : Nat} {vs : List Nat} (c1 c2 v : Nat → V) (h : Ev tl σ H (.ref a)) (hx : SqL K H a xs) (hp : ∀ i x, xs[i]? = some x → ∃ b, x = .ref b ∧ H b = some (.tup [c1 i, c2 i])) (hz : xs.length ≤ 40000)
    (hw : ∀ x y, wipe (((wipe σ vs).set p (some x)).set q (some y)) vs = wipe σ vs) (he : ∀ (i : Nat) H1, i < xs.length → Ex H H1 → Ev te (((wipe σ vs).set p (some (c1 i))).set q (some (c2 i))) H1 (v i)) :
    EvL (tLc (iList K tl) (gTup K 2 (gCons (gName p) (gCons (gName q) gNil))) tYes te vs) σ H ((List.range xs.length).map v) := by
  have h2 : EvL (tLc (iList K tl) (gTup K 2 (gCons (gName p) (gCons (gName q) gNil))) tYes te vs) σ H (given xs.length (fun _ => true) v) := fun H0 e Q qq => h H0 e _ fun H1 e1 => ⟨a, rfl, ⟨_, ex_l (e.trans e1) hx⟩, fun Dl hD =>
    lc_list (xs := xs) (Cw H1 (fun _ => true) v Dl) ⟨hD, Ex.new hD, upd_same⟩ (fun i H' _ pc => ex_l ((e.trans e1).trans pc.2.1) hx) (fun k x H' hi pc => by
      obtain ⟨b, rfl, hb⟩ := hp k x hi
      have hk := (List.getElem?_eq_some_iff.mp hi).1
      exact gpair (((e.trans e1).trans pc.2.1) _ _ hb) ⟨hw _ _, cw_turn pc (by omega) et_yes fun _ => he k H1 hk (e.trans e1)⟩) (fun H' pc => qq Dl H' (fresh_back e1 pc.1) (e1.trans pc.2.1) pc.2.2)⟩
  rw [given_all] at h2
  exact h2
/-- the entries of a change that are not zero, as pairs -/
def nzf (v : List Int) (i : Nat) : Bool := !decide (v.getD i 0 = 0)
def PrR (v : List Int) (i : Nat) (H : Hp) (x : V) : Prop := ∃ p, x = .ref p ∧ H p = some (.tup [.int (i : Nat), .int (v.getD i 0)])
def PartR (v : List Int) (H : Hp) (x : V) : Prop := Lst (nzf v) (PrR v) v.length H x
def Sums (CH : List (List Int)) (H : Hp) (x : V) : Prop := Lst (fun _ => true) (fun i => PartR (CH.getD i [])) CH.length H x
theorem PrR.ex {v : List Int} {i : Nat} {H H' : Hp} {x : V} (h : PrR v i H x) (e : Ex H H') : PrR v i H' x := by
  obtain ⟨p, rfl, h⟩ := h
  exact ⟨p, rfl, e _ _ h⟩
theorem PartR.ex {v : List Int} {H H' : Hp} {x : V} (h : PartR v H x) (e : Ex H H') : PartR v H' x := by
  obtain ⟨p, vs, rfl, h1, h2, h3⟩ := h
  exact ⟨p, vs, rfl, e _ _ h1, h2, fun j hj => (h3 j hj).ex e⟩
theorem Sums.ex {CH : List (List Int)} {H H' : Hp} {x : V} (h : Sums CH H x) (e : Ex H H') : Sums CH H' x := by
  obtain ⟨p, vs, rfl, h1, h2, h3⟩ := h
  exact ⟨p, vs, rfl, e _ _ h1, h2, fun j hj => (h3 j hj).ex e⟩
theorem sum_nz (v F : List Int) : ∀ (L : List Nat), ((L.filter (nzf v)).map fun i => v.getD i 0 * F.getD i 0).sum = (L.map fun i => v.getD i 0 * F.getD i 0).sum
  | [] => rfl
  | i :: L => by
    have ih := sum_nz v F L
    by_cases h : v.getD i 0 = 0
    · have hf : nzf v i = false := by unfold nzf; rw [decide_eq_true h]; rfl
      rw [List.filter_cons, hf]
      simp only [Bool.false_eq_true, if_false]
      rw [ih, List.map_cons, List.sum_cons, h, Int.zero_mul, Int.zero_add]
    · have hf : nzf v i = true := by unfold nzf; rw [decide_eq_false h]; rfl
      rw [List.filter_cons, hf]
      simp only [if_true]
      rw [List.map_cons, List.sum_cons, ih, List.map_cons, List.sum_cons]
theorem nz_dot {v F : List Int} (h : v.length = F.length) : (((List.range v.length).filter (nzf v)).map fun i => v.getD i 0 * F.getD i 0).sum = dot v F := by
  rw [sum_nz, h, dot_range v F h]
def sp_never_rises (K : PySem.W.Frag) : Sp := fun vs H Q _ => ∃ (a : Addr) (F : List Int) (CH : List (List Int)) (sv : V), vs = [.ref a, sv] ∧ H a = some (.lst (F.map V.int)) ∧ Sums CH H sv ∧ (∀ v ∈ CH, v.length = F.length) ∧ F.length ≤ 1000 ∧ CH.length ≤ 2000 ∧ Sml F ∧ RetV (.bl (CH.all fun v => decide (dot v F ≤ 0))) H Q
theorem ok_never_rises (T : Tx K mg w) : OkD P w K mg base 1 d_never_rises ps_never_rises (sp_never_rises K) := by
  refine (h_never_rises T).ok sc_never_rises (fun vs H Q E h => ?_) (fun cdv A outer s H vs Q E hr h => ⟨_,
      (pss_cons (ps_for (passes_of rfl) rfl (pi_list (pv 1)) (pg_name (i := 2) sc_never_rises.nd rfl (Or.inl rfl)) (pss_one (ps_if (pt_cmpR op_gt (pe_callB (cr_sum rfl) (by rfl) (m_sum T) (by decide +kernel) (pa_cons (pe_lc (own := [("at", 3), ("count", 4)]) (g := gTup K 2 (gCons (gName 3) (gCons (gName 4) gNil))) rfl sc_never_rises.nd (pi_list (pv 2)) (blkOk_by (own := [("at", 3), ("count", 4)]) (N := ns_never_rises) (sc := (defScope st_never_rises)) (by decide +kernel)) (fun _ _ _ _ _ => (pg_tup rfl (pgs_cons (pg_name (i := 3) sc_never_rises.nd rfl (Or.inl rfl)) (pgs_cons (pg_name (i := 4) sc_never_rises.nd rfl (Or.inl rfl)) pgs_nil)))) (fun _ _ _ _ _ => pts_nil) (fun _ _ _ _ _ => (pe_op op_mul (pv 4) (pe_ix (show IxR _ (rIxL K) from ix_list) (pv 0) (pv 3) (fun _ _ => rfl))))) pa_nil)) pe_int (nomark _)) (pss_one (ps_ret pe_bl)) pss_nil)))
      (pss_one (ps_ret pe_bl))), ?_⟩)
  · obtain ⟨a, F, CH, sv, rfl, _⟩ := h
    rfl
  · obtain ⟨a, F, CH, sv, rfl, ha, ⟨s0, vs, rfl, hs1, hs2, hs3⟩, hw, hF, hC, hsm, q⟩ := h
    have ks : (List.range CH.length).filter (fun _ => true) = List.range CH.length := List.filter_eq_self.mpr fun _ _ => rfl
    rw [ks, List.length_range] at hs2
    rw [ks] at hs3
    refine q_forLn (by exact ev_var rfl) (sq_of hs1) (fun i σ' H' => Ex H H' ∧ ((CH.take i).all fun v => decide (dot v F ≤ 0)) = true ∧ ∃ v2, σ' = [some (.ref a), some (.ref s0), v2, none, none])
      (fun H1 e1 => ⟨e1, rfl, none, rfl⟩) (fun i σ' H' _ h => sq_of (h.1 _ _ hs1)) ?_ ?_
    · rintro i x σ' H1 hi ⟨e1, hall, v2, rfl⟩
      have hil : i < vs.length := (List.getElem?_eq_some_iff.mp hi).1
      have hiC : i < CH.length := by omega
      have hx : vs.getD i .non = x := by rw [List.getD_eq_getElem?_getD, hi]; rfl
      have hg : (List.range CH.length).getD i 0 = i := by rw [List.getD_eq_getElem?_getD, List.getElem?_range hiC]; rfl
      have hpart := (hs3 i hil).ex e1
      rw [hx, hg] at hpart
      obtain ⟨p, ts, rfl, hp1, hp2, hp3⟩ := hpart
      have hmem : CH.getD i [] ∈ CH := by
        rw [List.getD_eq_getElem?_getD, List.getElem?_eq_getElem hiC]
        exact List.getElem_mem hiC
      have hci : CH[i]? = some (CH.getD i []) := by rw [List.getD_eq_getElem?_getD, List.getElem?_eq_getElem hiC]; rfl
      have hvw := hw _ hmem
      generalize hv : CH.getD i [] = v at hp2 hp3 hvw hci hmem
      dsimp only [List.set]
      have hfl := List.length_filter_le (nzf v) (List.range v.length)
      rw [List.length_range] at hfl
      have hsum : Ev (tCB (rSum K) (tCons (tLc (iList K (tVar 2)) (gTup K 2 (gCons (gName 3) (gCons (gName 4) gNil))) tYes (tOp (rI CMul fun i j => V.int (i * j)) (tVar 4) (tOp (rIxL K) (tVar 0) (tVar 3))) [3, 4]) tNil)) [some (.ref a), some (.ref s0), some (.ref p), none, none] H1 (.int (dot v F)) := by
        have h6 := el_lcLp (K := K) (σ := [some (.ref a), some (.ref s0), some (.ref p), none, none]) (H := H1) (tl := tVar 2) (te := tOp (rI CMul fun i j => V.int (i * j)) (tVar 4) (tOp (rIxL K) (tVar 0) (tVar 3))) (a := p) (xs := ts) (p := 3) (q := 4) (vs := [3, 4]) (fun j => V.int ((((List.range v.length).filter (nzf v)).getD j 0 : Nat) : Int)) (fun j => V.int (v.getD (((List.range v.length).filter (nzf v)).getD j 0) 0)) (fun j => V.int (v.getD (((List.range v.length).filter (nzf v)).getD j 0) 0 * F.getD (((List.range v.length).filter (nzf v)).getD j 0) 0)) (by exact ev_var rfl) (sq_of hp1) (fun j x hj => by
          have hjl : j < ts.length := (List.getElem?_eq_some_iff.mp hj).1
          have hxj : ts.getD j .non = x := by rw [List.getD_eq_getElem?_getD, hj]; rfl
          have := hp3 j hjl
          rw [hxj] at this
          exact this) (by omega) (fun x y => rfl) (fun j H2 hj e2 => by
          have hjl : j < ((List.range v.length).filter (nzf v)).length := by omega
          have hk : ((List.range v.length).filter (nzf v)).getD j 0 < F.length := by
            have h1 : ((List.range v.length).filter (nzf v)).getD j 0 ∈ (List.range v.length).filter (nzf v) := by
              rw [List.getD_eq_getElem?_getD, List.getElem?_eq_getElem hjl]
              exact List.getElem_mem hjl
            have := List.mem_range.mp (List.mem_filter.mp h1).1
            omega
          have hat := atI_int (row := F) (i := ((((List.range v.length).filter (nzf v)).getD j 0 : Nat) : Int)) (by omega) (by omega)
          rw [Int.toNat_natCast] at hat
          have hFm : F.getD (((List.range v.length).filter (nzf v)).getD j 0) 0 ∈ F := by
            rw [List.getD_eq_getElem?_getD, List.getElem?_eq_getElem hk]
            exact List.getElem_mem hk
          exact ev_op (by exact ev_var rfl) (ev_op (by exact ev_var rfl) (by exact ev_var rfl) (rv_ixL (sq_of ((e1.trans e2) _ _ ha)) hat)) (rv_I (.inr (hsm _ hFm))))
        have e : (List.range ts.length).map (fun j => V.int (v.getD (((List.range v.length).filter (nzf v)).getD j 0) 0 * F.getD (((List.range v.length).filter (nzf v)).getD j 0) 0)) = (((List.range v.length).filter (nzf v)).map fun i => v.getD i 0 * F.getD i 0).map V.int := by
          apply List.ext_getElem
          · simp [hp2]
          · intro j x1 x2
            simp only [List.length_map, List.length_range] at x1
            have hjl : j < ((List.range v.length).filter (nzf v)).length := by omega
            simp [hjl]
        rw [e] at h6
        have h7 := ev_cbL h6 fun p H1 hp e => rc_sum (K := K) (sq_of hp)
        rw [nz_dot hvw] at h7
        exact h7
      refine s_when (b := decide (dot v F > 0)) (et_test (ev_op hsum ev_c rv_I0)) (fun hb H2 e2 => ?_) fun hb H2 e2 => ?_
      · refine s_ret ev_c fun H3 e3 => ?_
        have hno : (CH.all fun v => decide (dot v F ≤ 0)) = false := by
          rw [Bool.eq_false_iff]
          intro hh
          rw [List.all_eq_true] at hh
          have h1 := of_decide_eq_true (hh v hmem)
          have h2 := of_decide_eq_true hb
          omega
        rw [hno] at q
        exact q H3 ((e1.trans e2).trans e3)
      · refine ⟨e1.trans e2, ?_, _, rfl⟩
        rw [List.take_add_one, hci, List.all_append, hall]
        have h2 := of_decide_eq_false hb
        simp
        omega
    · rintro σ' H1 ⟨e1, hall, v2, rfl⟩
      rw [hs2, List.take_length] at hall
      refine s_ret ev_c fun H3 e3 => ?_
      rw [hall] at q
      exact q H3 (e1.trans e3)

end
end K57
namespace Lc
open PySem PySem.Spec PyProof.Rows L2 Evl
/-! ### digits, the first one first, and counting up -/
/-- n in base B with s digits -/
def dgt (B : Nat) : Nat → Nat → List Int
  | 0, _ => []
  | s + 1, n => dgt B s (n / B) ++ [((n % B : Nat) : Int)]
def lsb (B : Nat) : Nat → Nat → List Int
  | 0, _ => []
  | s + 1, n => ((n % B : Nat) : Int) :: lsb B s (n / B)
theorem lsb_rev (B : Nat) : ∀ s n, (lsb B s n).reverse = dgt B s n
  | 0, _ => rfl
  | s + 1, n => by
    show (((n % B : Nat) : Int) :: lsb B s (n / B)).reverse = _
    rw [List.reverse_cons, lsb_rev B s (n / B)]
    rfl
theorem dgt_len (B : Nat) : ∀ s n, (dgt B s n).length = s
  | 0, _ => rfl
  | s + 1, n => by
    show (dgt B s (n / B) ++ [_]).length = s + 1
    rw [List.length_append, dgt_len B s (n / B)]
    rfl
theorem dgt_in {B : Nat} (hB : 0 < B) : ∀ s n, ∀ x ∈ dgt B s n, 0 ≤ x ∧ x < (B : Int)
  | 0, _, x, h => by cases h
  | s + 1, n, x, h => by
    rcases List.mem_append.mp h with h | h
    · exact dgt_in hB s _ x h
    · rw [List.mem_singleton.mp h]
      have := Nat.mod_lt n hB
      omega
theorem dgt_zero (B : Nat) : ∀ s, dgt B s 0 = List.replicate s 0
  | 0 => rfl
  | s + 1 => by
    show dgt B s (0 / B) ++ [((0 % B : Nat) : Int)] = _
    rw [Nat.zero_div, Nat.zero_mod, dgt_zero B s, List.replicate_succ']
    rfl
/-- every row of digits is one of them -/
theorem dgt_of {B : Nat} (hB : 0 < B) : ∀ (s : Nat) (F : List Int), F.length = s → (∀ x ∈ F, 0 ≤ x ∧ x < (B : Int)) → ∃ n, n < B ^ s ∧ dgt B s n = F
  | 0, F, h, _ => ⟨0, by simp, by rw [List.length_eq_zero_iff.mp h]; rfl⟩
  | s + 1, F, h, hF => by
    have hne : F ≠ [] := fun z => by rw [z] at h; cases h
    obtain ⟨n, hn, e⟩ := dgt_of hB s F.dropLast (by rw [List.length_dropLast, h]; rfl) fun x hx => hF x ((List.dropLast_sublist F).subset hx)
    have hl := hF _ (List.getLast_mem hne)
    obtain ⟨d, hd⟩ : ∃ d : Nat, F.getLast hne = (d : Int) := ⟨(F.getLast hne).toNat, by omega⟩
    have hdB : d < B := by omega
    refine ⟨n * B + d, ?_, ?_⟩
    · have h1 := Nat.mul_le_mul_right B (show n + 1 ≤ B ^ s from hn)
      rw [Nat.add_mul, Nat.one_mul] at h1
      rw [Nat.pow_succ]
      omega
    · show dgt B s ((n * B + d) / B) ++ [(((n * B + d) % B : Nat) : Int)] = F
      rw [Nat.mul_comm n B, Nat.mul_add_div hB, Nat.div_eq_of_lt hdB, Nat.add_zero, Nat.mul_add_mod, Nat.mod_eq_of_lt hdB, e, ← hd, List.dropLast_concat_getLast hne]
/-- counted up at place i: what follows is zero -/
def upAt (F : List Int) (i : Nat) : List Int := F.take i ++ [F.getD i 0 + 1] ++ List.replicate (F.length - (i + 1)) 0
def Top (F : List Int) (h : Int) (i : Nat) : Prop := i < F.length ∧ F.getD i 0 ≠ h ∧ ∀ j, i < j → j < F.length → F.getD j 0 = h
theorem upAt_app (F : List Int) (x : Int) {i : Nat} (hi : i < F.length) : upAt (F ++ [x]) i = upAt F i ++ [0] := by
  unfold upAt
  have e1 : (F ++ [x]).take i = F.take i := by rw [List.take_append_of_le_length (by omega)]
  have e2 : (F ++ [x]).getD i 0 = F.getD i 0 := by rw [List.getD_eq_getElem?_getD, List.getElem?_append_left hi, ← List.getD_eq_getElem?_getD]
  have e3 : (F ++ [x]).length - (i + 1) = (F.length - (i + 1)) + 1 := by rw [List.length_append, List.length_singleton]; omega
  rw [e1, e2, e3, List.replicate_succ', ← List.append_assoc]
theorem upAt_last (F : List Int) (x : Int) : upAt (F ++ [x]) F.length = F ++ [x + 1] := by
  unfold upAt
  have e1 : (F ++ [x]).take F.length = F := by rw [List.take_append_of_le_length (Nat.le_refl _), List.take_length]
  have e2 : (F ++ [x]).getD F.length 0 = x := by rw [List.getD_eq_getElem?_getD, List.getElem?_append_right (Nat.le_refl _), Nat.sub_self]; rfl
  have e3 : (F ++ [x]).length - (F.length + 1) = 0 := by rw [List.length_append, List.length_singleton]; omega
  rw [e1, e2, e3]
  simp
theorem getD_app_left (F : List Int) (x : Int) {i : Nat} (hi : i < F.length) : (F ++ [x]).getD i 0 = F.getD i 0 := by rw [List.getD_eq_getElem?_getD, List.getElem?_append_left hi, ← List.getD_eq_getElem?_getD]
theorem getD_app_last (F : List Int) (x : Int) : (F ++ [x]).getD F.length 0 = x := by rw [List.getD_eq_getElem?_getD, List.getElem?_append_right (Nat.le_refl _), Nat.sub_self]; rfl
theorem dgt_up {B : Nat} {h : Int} (hB : 0 < B) (hh : h + 1 = (B : Int)) : ∀ s n, n + 1 < B ^ s → ∃ i, Top (dgt B s n) h i ∧ upAt (dgt B s n) i = dgt B s (n + 1)
  | 0, n, hn => absurd hn (by simp)
  | s + 1, n, hn => by
    have hdm := Nat.div_add_mod n B
    have hmod := Nat.mod_lt n hB
    have hl := dgt_len B s (n / B)
    by_cases hc : n % B + 1 < B
    · have e1 : (n + 1) / B = n / B := by
        have : n + 1 = B * (n / B) + (n % B + 1) := by omega
        rw [this, Nat.mul_add_div hB, Nat.div_eq_of_lt hc, Nat.add_zero]
      have e2 : (n + 1) % B = n % B + 1 := by
        have : n + 1 = B * (n / B) + (n % B + 1) := by omega
        rw [this, Nat.mul_add_mod, Nat.mod_eq_of_lt hc]
      refine ⟨s, ⟨?_, ?_, ?_⟩, ?_⟩
      · rw [dgt_len]; omega
      · show (dgt B s (n / B) ++ [((n % B : Nat) : Int)]).getD s 0 ≠ h
        have := getD_app_last (dgt B s (n / B)) ((n % B : Nat) : Int)
        rw [hl] at this
        rw [this]
        omega
      · intro j h1 h2
        rw [dgt_len] at h2
        omega
      · show upAt (dgt B s (n / B) ++ [((n % B : Nat) : Int)]) s = dgt B s ((n + 1) / B) ++ [(((n + 1) % B : Nat) : Int)]
        have := upAt_last (dgt B s (n / B)) ((n % B : Nat) : Int)
        rw [hl] at this
        rw [this, e1, e2]
        rfl
    · have hmb : n % B + 1 = B := by omega
      have e1 : (n + 1) / B = n / B + 1 := by
        have : n + 1 = B * (n / B + 1) := by rw [Nat.mul_add, Nat.mul_one]; omega
        rw [this, Nat.mul_div_cancel_left _ hB]
      have e2 : (n + 1) % B = 0 := by
        have : n + 1 = B * (n / B + 1) := by rw [Nat.mul_add, Nat.mul_one]; omega
        rw [this, Nat.mul_mod_right]
      have hlt : n / B + 1 < B ^ s := by
        rw [← e1]
        refine Nat.div_lt_of_lt_mul ?_
        rw [Nat.mul_comm, ← Nat.pow_succ]
        exact hn
      obtain ⟨i, ⟨t1, t2, t3⟩, hu⟩ := dgt_up hB hh s (n / B) hlt
      refine ⟨i, ⟨?_, ?_, ?_⟩, ?_⟩
      · rw [dgt_len] at t1 ⊢; omega
      · show (dgt B s (n / B) ++ [((n % B : Nat) : Int)]).getD i 0 ≠ h
        rw [getD_app_left _ _ t1]
        exact t2
      · intro j h1 h2
        show (dgt B s (n / B) ++ [((n % B : Nat) : Int)]).getD j 0 = h
        rw [dgt_len] at h2
        by_cases hj : j < (dgt B s (n / B)).length
        · rw [getD_app_left _ _ hj]
          exact t3 j h1 hj
        · have hjs : j = (dgt B s (n / B)).length := by omega
          rw [hjs, getD_app_last]
          omega
      · show upAt (dgt B s (n / B) ++ [((n % B : Nat) : Int)]) i = dgt B s ((n + 1) / B) ++ [(((n + 1) % B : Nat) : Int)]
        rw [upAt_app _ _ t1, hu, e1, e2]
        rfl
theorem dgt_top {B : Nat} {h : Int} (hB : 0 < B) (hh : h + 1 = (B : Int)) : ∀ s n, n + 1 = B ^ s → ∀ j, j < s → (dgt B s n).getD j 0 = h
  | 0, n, _, j, hj => absurd hj (Nat.not_lt_zero _)
  | s + 1, n, hn, j, hj => by
    have hl := dgt_len B s (n / B)
    have hps : 0 < B ^ s := Nat.pow_pos hB
    rw [Nat.pow_succ] at hn
    have hn2 : n = (B ^ s - 1) * B + (B - 1) := by
      have h1 : (B ^ s - 1) * B + B = B ^ s * B := by
        rw [Nat.sub_mul, Nat.one_mul]
        have := Nat.mul_le_mul_right B hps
        omega
      omega
    have e1 : n / B = B ^ s - 1 := by rw [hn2, Nat.mul_comm, Nat.mul_add_div hB, Nat.div_eq_of_lt (by omega), Nat.add_zero]
    have e2 : n % B = B - 1 := by rw [hn2, Nat.mul_comm, Nat.mul_add_mod, Nat.mod_eq_of_lt (by omega)]
    show (dgt B s (n / B) ++ [((n % B : Nat) : Int)]).getD j 0 = h
    by_cases hj2 : j < (dgt B s (n / B)).length
    · rw [getD_app_left _ _ hj2]
      exact dgt_top hB hh s (n / B) (by omega) j (by omega)
    · have hjs : j = (dgt B s (n / B)).length := by omega
      rw [hjs, getD_app_last, e2]
      omega
end Lc
namespace K57
open PySem PySem.Spec PyProof.Rows L2 Lc Evl
section
variable {P : Program} {w : World} {K : PySem.W.Frag} {mg : Str → Option Value} {base : Heap}
/-! ### counting up -/
theorem el_lcN {σ : L2.St} {H : Hp} {tl : TE} {xs : List V} {v : V} {j : Nat} {vs : List Nat} (h : EvL tl σ H xs) (hz : xs.length ≤ 40000) (hw : ∀ x, wipe ((wipe σ vs).set j (some x)) vs = wipe σ vs) : EvL (tLc (iList K tl) (gName j) tYes (tC v) vs) σ H (List.replicate xs.length v) := by
  have h2 : EvL (tLc (iList K tl) (gName j) tYes (tC v) vs) σ H (given xs.length (fun _ => true) fun _ => v) := fun H0 e Q q => h H0 e _ fun a H1 ha e1 h1 => ⟨a, rfl, ⟨xs, sq_of h1⟩, fun Dl hD =>
    lc_list (xs := xs) (Cw H1 (fun _ => true) (fun _ => v) Dl) ⟨hD, Ex.new hD, upd_same⟩ (fun i H' _ p => sq_of (p.2.1 _ _ h1)) (fun i x H' hi p => ⟨hw x, cw_turn p (by have := (List.getElem?_eq_some_iff.mp hi).1; omega) et_yes fun _ => ev_c⟩) (fun H' p => q Dl H' (fresh_back e1 p.1) (e1.trans p.2.1) p.2.2)⟩
  rw [given_all] at h2
  have e : (List.range xs.length).map (fun _ => v) = List.replicate xs.length v := by
    apply List.ext_getElem
    · simp
    · intro i x1 x2
      simp
  rw [e] at h2
  exact h2
def sp_count_up (K : PySem.W.Frag) : Sp := fun vs H Q _ => ∃ (a : Addr) (F : List Int) (h : Int), vs = [.ref a, .int h] ∧ H a = some (.lst (F.map V.int)) ∧ F.length ≤ 1000 ∧
  (∀ i, Top F h i → ∀ p H', H p = none → Ex H H' → H' p = some (.lst ((upAt F i).map V.int)) → Q (.ref p) H') ∧ ((∀ j, j < F.length → F.getD j 0 = h) → RetV .non H Q)
theorem ok_count_up (T : Tx K mg w) : OkD P w K mg base 1 d_count_up ps_count_up (sp_count_up K) := by
  refine (h_count_up T).ok sc_count_up (fun vs H Q E h => ?_) (fun cdv A outer s H vs Q E hr h => ⟨_,
      (pss_cons (ps_set (i := 2) sc_count_up.nd rfl (Or.inl rfl) (pe_op op_sub (pe_callB call_len (by rfl) (m_len T) (by decide +kernel) (pa_cons (pv 0) pa_nil)) pe_int))
      (pss_cons (ps_while (passes_of rfl) (PW.pt (pw_and (pt_cmpR op_ge (pv 2) pe_int (nomark _)) (pw_and1 (pt_cmpR op_eq (pe_ix ix_list (pv 0) (pv 2) (fun _ _ => rfl)) (pv 1) (nomark _))))) (pss_one (ps_aug (i := 2) sc_count_up.nd rfl (Or.inl rfl) pe_int ip_sub)))
      (pss_cons (ps_if (pt_cmpR op_lt (pv 2) pe_int (nomark _)) (pss_one (ps_ret pe_non)) pss_nil)
      (pss_one (ps_ret (pe_lst (StX.pa_star (pe_slice sl_list (pv 0) po_none (po_some (pv 2))) (pa_cons (pe_op op_add (pe_ix ix_list (pv 0) (pv 2) (fun _ _ => rfl)) pe_int) (StX.pa_star (pe_lc (own := [("_", 3)]) (g := gName 3) rfl sc_count_up.nd (pi_list (pe_slice sl_list (pv 0) (po_some (pe_op op_add (pv 2) pe_int)) po_none)) (blkOk_by (own := [("_", 3)]) (N := ns_count_up) (sc := (defScope st_count_up)) (by decide +kernel)) (fun _ _ _ _ _ => pg_name (i := 3) sc_count_up.nd rfl (Or.inl rfl)) (fun _ _ _ _ _ => pts_nil) (fun _ _ _ _ _ => pe_int)) pa_nil))))))))), ?_⟩)
  · obtain ⟨a, F, h, rfl, _⟩ := h
    rfl
  · obtain ⟨a, F, h, rfl, ha, hF, q1, q2⟩ := h
    have hlen : ∀ {σ : L2.St} {H1 : Hp}, Ex H H1 → σ[0]? = some (some (.ref a)) → Ev (tCB (fun xs H Q => ∃ x n, xs = [x] ∧ LenV K x H n ∧ Q (.int n) H) (tCons (tVar 0) tNil)) σ H1 (.int (F.length : Nat)) := fun e h0 => by
      have h9 := rc_lenL (K := K) (sq_of (K := K) (e _ _ ha))
      rw [List.length_map] at h9
      exact ev_cb (ea_cons (ev_var h0) ea_nil) h9
    have hix : ∀ {σ : L2.St} {H1 : Hp} {i : Nat}, Ex H H1 → σ[0]? = some (some (.ref a)) → σ[2]? = some (some (.int (i : Int))) → i < F.length → Ev (tOp (rIxL K) (tVar 0) (tVar 2)) σ H1 (.int (F.getD i 0)) := fun {σ H1 i} e h0 h2 hi => by
      have := atI_int (row := F) (i := (i : Int)) (by omega) (by omega)
      rw [Int.toNat_natCast] at this
      exact ev_op (ev_var h0) (ev_var h2) (rv_ixL (sq_of (e _ _ ha)) this)
    refine q_asg (v := .int ((F.length : Int) - 1)) (ev_op (hlen (Ex.refl H) rfl) ev_c rv_I0) fun H1 e1 => ?_
    try dsimp only [List.set]
    refine q_while (fun m σ' H' => Ex H H' ∧ m ≤ F.length ∧ (∀ j, m ≤ j → j < F.length → F.getD j 0 = h) ∧ σ' = [some (.ref a), some (.int h), some (.int ((m : Int) - 1)), none]) F.length ⟨e1, Nat.le_refl _, fun j h1 h2 => by omega, rfl⟩ ?_
    rintro m σ' H2 ⟨e2, hm, hall, rfl⟩
    by_cases hm0 : m = 0
    · subst hm0
      refine ⟨false, ?_, (fun hb => by cases hb), fun _ H3 e3 => ?_⟩
      · have h8 : EvT (tTest (tOp (rI0 fun i j => V.bl (decide (i ≥ j))) (tVar 2) (tC (.int 0)))) [some (.ref a), some (.int h), some (.int (((0 : Nat) : Int) - 1)), none] H2 (decide ((((0 : Nat) : Int) - 1) ≥ 0)) := et_test (ev_op (by exact ev_var rfl) ev_c rv_I0)
        have h9 := et_and (u := tTest (tOp rEq (tOp (rIxL K) (tVar 0) (tVar 2)) (tVar 1))) (b := false) h8 (fun hb => by simp at hb)
        rw [Bool.and_false] at h9
        exact h9
      refine q_when (b := decide ((((0 : Nat) : Int) - 1) < 0)) (et_test (ev_op (by exact ev_var rfl) ev_c rv_I0)) (fun _ H4 e4 => ?_) (fun hb => by simp at hb)
      exact s_ret ev_c fun H5 e5 => q2 (fun j hj => hall j (Nat.zero_le _) hj) H5 (((e2.trans e3).trans e4).trans e5)
    · obtain ⟨i, rfl⟩ : ∃ i, m = i + 1 := ⟨m - 1, by omega⟩
      have hi : i < F.length := by omega
      have ei : (((i + 1 : Nat) : Int) - 1) = (i : Int) := by omega
      rw [ei]
      have h8 : EvT (tTest (tOp (rI0 fun i j => V.bl (decide (i ≥ j))) (tVar 2) (tC (.int 0)))) [some (.ref a), some (.int h), some (.int (i : Int)), none] H2 (decide ((i : Int) ≥ 0)) := et_test (ev_op (by exact ev_var rfl) ev_c rv_I0)
      have h9 := et_and (u := tTest (tOp rEq (tOp (rIxL K) (tVar 0) (tVar 2)) (tVar 1))) h8 fun _ => et_test (b := decide (F.getD i 0 = h)) (ev_op (hix e2 rfl rfl hi) (by exact ev_var rfl) rv_eqII)
      rw [decide_eq_true (show (i : Int) ≥ 0 by omega), Bool.true_and] at h9
      refine ⟨decide (F.getD i 0 = h), h9, fun hb H3 e3 => ⟨fun σ2 H2' => Ex H H2' ∧ i ≤ F.length ∧ (∀ j, i ≤ j → j < F.length → F.getD j 0 = h) ∧ σ2 = [some (.ref a), some (.int h), some (.int ((i : Int) - 1)), none], fun σ2 H2' hw => ⟨i, by omega, hw⟩, ?_⟩, fun hb H3 e3 => ?_⟩
      · refine s_aug (a := (i : Int)) (b := 1) rfl ev_c fun H4 e4 => ⟨(e2.trans e3).trans e4, by omega, fun j h1 h2 => ?_, rfl⟩
        by_cases hji : j = i
        · rw [hji]
          exact of_decide_eq_true hb
        · exact hall j (by omega) h2
      · have hne : F.getD i 0 ≠ h := of_decide_eq_false hb
        refine q_when (b := decide ((i : Int) < 0)) (et_test (ev_op (by exact ev_var rfl) ev_c rv_I0)) (fun hb => by simp at hb; omega) fun _ H4 e4 => ?_
        have e24 := (e2.trans e3).trans e4
        have q1 := q1 i ⟨hi, hne, fun j h1 h2 => hall j (by omega) h2⟩
        have ha4 := e24 _ _ ha
        have k1 := el_sl (K := K) (σ := [some (.ref a), some (.int h), some (.int (i : Int)), none]) (H := H4) (te := tVar 0) (a := a) (xs := F.map V.int) (tl := tNoPart) (th := tPart (tVar 2)) (lo := none) (hi := some (i : Int)) (by exact ev_var rfl) eo_none (eo_some (by exact ev_var rfl)) (sq_of ha4)
        rw [cutL_to F (by omega)] at k1
        refine s_retL (xs := (upAt F i).map V.int) ?_ fun p H5 hp e5 h5 => q1 p H5 (fresh_back e24 hp) (e24.trans e5) h5
        have hup : (upAt F i).map V.int = (F.take i).map V.int ++ (V.int (F.getD i 0 + 1) :: (List.replicate (F.length - (i + 1)) (V.int 0) ++ [])) := by
          unfold upAt
          rw [List.map_append, List.map_append, List.map_replicate, List.append_assoc, List.append_nil]
          rfl
        rw [hup]
        refine el_lst (ea_star k1 fun H5 e5 => ea_cons (ev_op (hix (e24.trans e5) rfl rfl hi) ev_c rv_I0) (ea_star ?_ fun H6 e6 => ea_nil)) (by simp; omega)
        have k2 := el_sl (K := K) (σ := [some (.ref a), some (.int h), some (.int (i : Int)), none]) (H := H5) (te := tVar 0) (a := a) (xs := F.map V.int) (tl := tPart (tOp (rI0 fun i j => V.int (i + j)) (tVar 2) (tC (.int 1)))) (th := tNoPart) (lo := some ((i + 1 : Nat) : Int)) (hi := none) (by exact ev_var rfl) (eo_some (ev_is (ev_op (by exact ev_var rfl) ev_c rv_I0) (by rw [Int.natCast_add]; rfl))) eo_none (sq_of (e5 _ _ ha4))
        rw [cutL_from F (by omega)] at k2
        have k3 := el_lcN (K := K) (v := .int 0) (j := 3) (vs := [3]) k2 (by rw [List.length_map, List.length_drop]; omega) (fun x => rfl)
        rw [List.length_map, List.length_drop] at k3
        exact k3

end
end K57
namespace K57
open PySem PySem.Spec PyProof.Rows L2 Lc Evl
section
variable {P : Program} {w : World} {K : PySem.W.Frag} {mg : Str → Option Value} {base : Heap}
theorem q_whenC {σ : L2.St} {H : Hp} {b : Bool} {t : TT} {tu tz : TS} {D : Ends} (M : L2.St → Hp → Prop) (hz : ∀ σ' H', M σ' H' → tz D σ' H') (h : EvT t σ H b) (h1 : (∀ σ' H', M σ' H' → tz D σ' H') → b = true → ∀ H1, Ex H H1 → tu { D with nx := tz D } σ H1) (h2 : b = false → ∀ H1, Ex H H1 → M σ H1) : tSeq (tIfS t tu tNext) tz D σ H := q_when h (h1 hz) fun hb H1 e1 => hz _ _ (h2 hb H1 e1)
theorem mk_fst {σ : L2.St} {H : Hp} {C : Addr} {sp : Sp} {dvs : List V} {E : XK} {ta : TA} {Q : VK} (h : ta σ H fun vs H1 => ∀ x dx, H1 x = none → H1 dx = none → dx ≠ x → sp (.ref x :: (vs ++ dvs)) (upd (upd H1 dx (.own x)) x (.ins C dx [])) (fun v H2 => v = .non ∧ Q (.ref x) H2) E) : tMake C sp dvs E ta σ H Q := h
theorem q_hide {σ : L2.St} {H : Hp} {te : TE} {tz : TS} {D : Ends} {i : Nat} (h : ∀ Q : VK, Q = (fun v H1 => tz D (σ.set i (some v)) H1) → te σ H Q) : tSeq (tAsg te (gName i)) tz D σ H := h _ rfl
theorem mk_W {H1 : Hp} {o dx t : Addr} {p b : Int} {G : List (List Int)} {Q : VK} {E : XK} (ho : H1 o = none) (hd : H1 dx = none) (hdo : dx ≠ o) (ht : Tb H1 t G) (hz : Sm G) (k1 : part p b G = none → ∀ H2, Ex H1 H2 → Wt K H2 o p b (red b G) → Q (.ref o) H2) (k2 : ∀ z, part p b G = some z → Bad_W K "InvalidWeight" "part" H1 E (.str z)) :
    sp_Weights_init K (.ref o :: ([.int p, .int b, .ref t] ++ [])) (upd (upd H1 dx (.own o)) o (.ins (cW K) dx [])) (fun v H2 => v = .non ∧ Q (.ref o) H2) E := by
  have e : Ex H1 (upd (upd H1 dx (.own o)) o (.ins (cW K) dx [])) := (Ex.new hd).mut ho
  exact ⟨o, dx, t, p, b, G, rfl, ht.ex e, hz, upd_same, fun hp H' ex hw => ⟨rfl, k1 hp H' (fun a v ha => ex a v (fun z => by rw [z, ho] at ha; cases ha) (e a v ha)) hw⟩, fun z hz => (k2 z hz).ex e⟩
def Wd (m : Nat) (G : List (List Int)) : Prop := ∀ row ∈ G, row.length = m
theorem isTb_w {p : Int} {G : List (List Int)} (h : isTb G p = true) : 1 ≤ G.length ∧ G.length ≤ 4 ∧ ∀ row ∈ G, (row.length : Int) = p := by
  unfold isTb at h
  obtain ⟨h1, h2⟩ := Bool.and_eq_true_iff.mp h
  obtain ⟨h3, h4⟩ := Bool.and_eq_true_iff.mp h1
  have h3 := of_decide_eq_true h3
  have h4 := of_decide_eq_true h4
  refine ⟨by omega, by omega, fun row hr => ?_⟩
  have := List.all_eq_true.mp h2 _ (List.mem_map.mpr ⟨row, hr, rfl⟩)
  exact of_decide_eq_true this
theorem part_w {p b : Int} {G : List (List Int)} (h : part p b G = none) : 1 ≤ G.length ∧ G.length ≤ 4 ∧ Wd p.toNat G ∧ (1 ≤ p ∧ p ≤ 12) ∧ (b = 0 ∨ (2 ≤ b ∧ b ≤ 97)) := by
  obtain ⟨h1, h2, h3⟩ := part_ok h
  obtain ⟨h4, h5, h6⟩ := isTb_w h3
  refine ⟨h4, h5, fun row hr => ?_, h1, h2⟩
  have := h6 row hr
  omega
theorem sm_of {p b : Int} {G : List (List Int)} (h : part p b G = none) : Sm G := by
  obtain ⟨h1, h2, h3, h4, _⟩ := part_w h
  exact ⟨by omega, fun row hr => by have := h3 row hr; omega⟩
/-! ### all falling tables -/
theorem rv_notN {H : Hp} {x : V} : RV (fun x y H Q => y = .non ∧ Q (.bl (!decide (x = .non))) H) x .non H (.bl (!decide (x = .non))) := fun H1 _ _ q => ⟨rfl, q H1 (Ex.refl H1)⟩
theorem rem0 (x : Int) : rem 0 x = x := if_pos rfl
theorem red0 (G : List (List Int)) : red 0 G = G := by
  unfold red
  have h : ∀ row ∈ G, row.map (rem 0) = id row := fun row _ => by
    have : row.map (rem 0) = row.map id := List.map_congr_left fun x _ => rem0 x
    rw [this, List.map_id]
    rfl
  rw [List.map_congr_left h, List.map_id]
theorem Wt.updL {H : Hp} {o : Addr} {p b : Int} {T : List (List Int)} {l : Addr} {xs : List V} {u : HO} (h : Wt K H o p b T) (hl : H l = some (.lst xs)) : Wt K (upd H l u) o p b T := by
  obtain ⟨h0, dx, t, rs, h1, h2, h3⟩ := h
  refine ⟨h0, dx, t, rs, ?_, ?_, ⟨h3.len, fun k hk => ?_⟩⟩
  · rw [upd_ne (fun z => by rw [z, hl] at h1; cases h1)]
    exact h1
  · rw [upd_ne (fun z => by rw [z, hl] at h2; cases h2)]
    exact h2
  · have := h3.row k hk
    rw [upd_ne (fun z => by rw [z, hl] at this; cases this)]
    exact this
/-- the falling tables of one kind after the other: B digits, s places -/
def fallL (B s m : Nat) (PV : List Pr2) (n : Nat) : List (List Int) := ((List.range n).map (dgt B s)).filter fun F => fallB m F PV
theorem fallL_succ (B s m : Nat) (PV : List Pr2) (n : Nat) : fallL B s m PV (n + 1) = fallL B s m PV n ++ (if fallB m (dgt B s n) PV = true then [dgt B s n] else []) := by
  unfold fallL
  rw [List.range_succ, List.map_append, List.filter_append]
  simp only [List.map_cons, List.map_nil, List.filter_cons, List.filter_nil]
theorem part_chk {m k : Nat} {F : List Int} (hm : 0 < m) (hm12 : m ≤ 12) (hk : 1 ≤ k) (hk4 : k ≤ 4) (hF : F.length = k * m) : part (m : Int) 0 (chk m k F) = none := by
  refine part_n ⟨by omega, by omega⟩ (.inl rfl) ?_
  unfold isTb
  simp only [Bool.and_eq_true, decide_eq_true_eq, chk_len]
  refine ⟨⟨by omega, by omega⟩, ?_⟩
  rw [List.all_eq_true]
  intro x hx
  obtain ⟨row, hr, rfl⟩ := List.mem_map.mp hx
  have := chk_row hF row hr
  simp [this]
def sp_falling_weights (K : PySem.W.Frag) : Sp := fun vs H Q E => ∃ (c : Addr) (p : Int) (B : Nat) (ps : List Int) (G : List Jm), vs = [.ref c, .int p, .int ((B : Int) - 1)] ∧ IsC K H c ps G ∧ 1 ≤ ps.length ∧ ps.length ≤ 4 ∧ PvK ps.length (pairsV G) ∧ 0 < B ∧ B ≤ 2 ^ 100 ∧
  (¬ (1 ≤ p ∧ p ≤ 12) → Bad_W K "InvalidWeight" "part" H E (.str "period")) ∧
  ((1 ≤ p ∧ p ≤ 12) → 20000 < B ^ (ps.length * p.toNat) → Bad_W K "TooMany" "limit" H E (.int 20000)) ∧
  ((1 ≤ p ∧ p ≤ 12) → B ^ (ps.length * p.toNat) ≤ 20000 → ∀ (a : Addr) (W : List (Addr × List Int)) (H' : Hp), H a = none → Ex H H' → H' a = some (.lst (W.map fun q => V.ref q.1)) → W.map (·.2) = fallL B (ps.length * p.toNat) p.toNat (pairsV G) (B ^ (ps.length * p.toNat)) → (∀ q ∈ W, Wt K H' q.1 p 0 (chk p.toNat ps.length q.2)) → Q (.ref a) H')
theorem ok_falling_weights (T : Tx K mg w) : OkD P w K mg base 6 d_falling_weights ps_falling_weights (sp_falling_weights K) := by
  refine (h_falling_weights T).ok sc_falling_weights (fun vs H Q E h => ?_) (fun cdv A outer s H vs Q E hr h => ⟨_,
      (pss_cons (ps_expr (pe_callSD (ok_check_period (P := P) (w := w) (base := base) T) (hr.mono (by decide)) (by rfl) (m_check_period T) (k_check_period T) (b_check_period T) .nil (fun σ => L2N.passAt (L2N.takes_of rfl rfl rfl rfl) σ) (pa_cons (pv 1) pa_nil)))
      (pss_cons (ps_set (i := 3) sc_falling_weights.nd rfl (Or.inl rfl) (pe_callB call_len (by rfl) (m_len T) (by decide +kernel) (pa_cons (pe_fld (pv 0) rfl) pa_nil)))
      (pss_cons (ps_set (i := 4) sc_falling_weights.nd rfl (Or.inl rfl) pe_int)
      (pss_cons (ps_for (passes_of rfl) rfl (pi_range1 rfl (m_range T) (pa_cons (pe_op op_mul (pv 3) (pv 1)) pa_nil)) (pg_name (i := 5) sc_falling_weights.nd rfl (Or.inl rfl)) (pss_one (ps_set (i := 4) sc_falling_weights.nd rfl (Or.inl rfl) (pe_op op_mulW (pv 4) (pe_op op_add (pv 2) pe_int)))))
      (pss_cons (ps_if (pt_cmpR op_gt (pv 4) (pe_glob (v := .int 20000) rfl (m_MOST_TABLES T).choose_spec ⟨_, rfl⟩) (nomark _)) (pss_one (L2N.ps_raise rfl (L2N.takes_of rfl rfl rfl rfl) (pmkN_oex (x_TooMany T).oex (x_TooMany T).iC (x_TooMany T).tI (ok_TooMany_init (P := P) (w := w) (base := base) T) (hr.mono (by decide)) (b_TooMany_init T) .nil passN (by rfl) (m_TooMany T) (pa_cons (pe_glob (v := .int 20000) rfl (m_MOST_TABLES T).choose_spec ⟨_, rfl⟩) pa_nil)))) pss_nil)
      (pss_cons (ps_setLc (i := 6) (own := [("change", 9)]) (g := gName 9) rfl sc_falling_weights.nd rfl rfl (sw_true rfl rfl rfl (by decide +kernel)) (pi_list (pe_call (ok_changes_of (P := P) (w := w) (base := base) T) (hr.mono (by decide)) (by rfl) (m_changes_of T) (k_changes_of T) (b_changes_of T) .nil passN (pa_cons (pv 0) (pa_cons (pv 1) (pa_cons (pv 3) pa_nil))))) (blkOk_by (own := [("change", 9)]) (N := ns_falling_weights) (sc := (defScope st_falling_weights)) (by decide +kernel)) (fun _ _ _ _ _ => pg_name (i := 9) sc_falling_weights.nd rfl (Or.inl rfl)) (fun _ _ _ _ _ => pts_nil) (fun _ _ _ _ _ => (pe_lc (own := [("at", 10), ("number", 11)]) (g := gTup K 2 (gCons (gName 10) (gCons (gName 11) gNil))) rfl sc_falling_weights.nd (pi_enumQ K rfl (by rfl) (m_enumerate T) (pa_cons (pv 9) pa_nil)) (blkOk_by (own := [("at", 10), ("number", 11)]) (N := ns_falling_weights) (sc := (relS _ (defScope st_falling_weights))) (by decide +kernel)) (fun _ _ _ _ _ => (pg_tup rfl (pgs_cons (pg_name (i := 10) sc_falling_weights.nd rfl (Or.inl rfl)) (pgs_cons (pg_name (i := 11) sc_falling_weights.nd rfl (Or.inl rfl)) pgs_nil)))) (fun _ _ _ _ _ => (pts_one (pt_cmpR op_ne (pv 11) pe_int (nomark _)))) (fun _ _ _ _ _ => (pe_tup (pa_cons (pv 10) (pa_cons (pv 11) pa_nil)))))))
      (pss_cons (ps_set (i := 7) sc_falling_weights.nd rfl (Or.inl rfl) (pe_lst pa_nil))
      (pss_cons (ps_setLc (i := 8) (own := [("_", 5)]) (g := gName 5) rfl sc_falling_weights.nd rfl rfl (sw_true rfl rfl rfl (by decide +kernel)) (pi_range1 rfl (m_range T) (pa_cons (pe_op op_mul (pv 3) (pv 1)) pa_nil)) (blkOk_by (own := [("_", 5)]) (N := ns_falling_weights) (sc := (defScope st_falling_weights)) (by decide +kernel)) (fun _ _ _ _ _ => pg_name (i := 5) sc_falling_weights.nd rfl (Or.inl rfl)) (fun _ _ _ _ _ => pts_nil) (fun _ _ _ _ _ => pe_int))
      (pss_cons (ps_while (passes_of rfl) (pt_cmpR op_notN (pv 8) pe_non (nomark _)) (pss_cons (ps_if (pt_val (pe_call (ok_never_rises (P := P) (w := w) (base := base) T) (hr.mono (by decide)) (by rfl) (m_never_rises T) (k_never_rises T) (b_never_rises T) .nil passN (pa_cons (pv 8) (pa_cons (pv 6) pa_nil)))) (pss_one (ps_expr (pe_bm PySem.F.plainAttrs_list PySem.F.slot_list_append PySem.F.type_list_append mt_append (pv 7) (pa_cons (pe_make (mk_Weights T) (ok_Weights_init (P := P) (w := w) (base := base) T) (hr.mono (by decide)) (by rfl) (m_Weights T) (b_Weights_init T) .nil (passX (L2N.takes_of rfl rfl rfl rfl)) (pa_cons (pv 1) (pa_cons pe_int (pa_cons (pe_call (ok_as_table (P := P) (w := w) (base := base) T) (hr.mono (by decide)) (by rfl) (m_as_table T) (k_as_table T) (b_as_table T) .nil passN (pa_cons (pv 8) (pa_cons (pv 1) pa_nil))) pa_nil)))) pa_nil)))) pss_nil)
      (pss_one (ps_set (i := 8) sc_falling_weights.nd rfl (Or.inl rfl) (pe_call (ok_count_up (P := P) (w := w) (base := base) T) (hr.mono (by decide)) (by rfl) (m_count_up T) (k_count_up T) (b_count_up T) .nil passN (pa_cons (pv 8) (pa_cons (pv 2) pa_nil)))))))
      (pss_one (ps_ret (pv 7)))))))))))), ?_⟩)
  · obtain ⟨c, p, B, ps, G, rfl, _⟩ := h
    rfl
  · obtain ⟨c, p, B, ps, G, rfl, hC, hk1, hk4, hPv, hB, hB2, q1, q2, q3⟩ := h
    obtain ⟨dx, wa, ja, pa, L, M, h1, h2, h3, h4, h5, h6, h7, h8⟩ := id hC
    refine ⟨_, rfl, p, rfl, fun hp H1 e1 => ?_, q1⟩
    have q2 := q2 hp
    have q3 := q3 hp
    clear q1
    obtain ⟨m, rfl⟩ : ∃ m : Nat, p = (m : Int) := ⟨p.toNat, by omega⟩
    rw [Int.toNat_natCast] at q2 q3
    have hm : 0 < m := by omega
    have hm12 : m ≤ 12 := by omega
    have hkm : ps.length * m ≤ 4 * 12 := Nat.mul_le_mul hk4 hm12
    try dsimp only
    refine q_asg (v := .int (ps.length : Nat)) ?_ fun H2 e2 => ?_
    · have h9 := rc_lenT (K := K) (st_of (K := K) (e1 _ _ h2))
      rw [List.length_map] at h9
      exact ev_cb (ea_cons (ev_fldC T (by exact ev_var rfl) (e1 _ _ h1) (n_Card_worths T) rfl) ea_nil) h9
    try dsimp only [List.set]
    have e12 := e1.trans e2
    refine q_asg (v := .int 1) ev_c fun H3 e3 => ?_
    try dsimp only [List.set]
    have e13 := e12.trans e3
    have hlogB : B.log2 ≤ 100 := by
      by_cases h0 : B = 0
      · omega
      · have := (Nat.log2_lt h0).mpr (Nat.lt_of_le_of_lt hB2 (show 2 ^ 100 < 2 ^ 101 by decide))
        omega
    refine q_forR1 (n := ((ps.length * m : Nat) : Int)) (ea_cons (ev_is (ev_op (x := .int (ps.length : Int)) (y := .int (m : Int)) (by exact ev_var rfl) (by exact ev_var rfl) (rv_I (.inl ⟨by omega, by omega⟩))) (by rw [Int.natCast_mul])) ea_nil) (by omega) (fun i σ' H' => Ex H3 H' ∧ i ≤ ps.length * m ∧ ∃ v5, σ' = [some (.ref c), some (.int (m : Int)), some (.int ((B : Int) - 1)), some (.int (ps.length : Nat)), some (.int ((B ^ i : Nat) : Int)), v5, none, none, none, none, none, none])
      (fun H4 e4 => ⟨e4, Nat.zero_le _, none, rfl⟩) ?_ ?_
    · rintro i σ' H4 hi ⟨e4, hi2, v5, rfl⟩
      try dsimp only [List.set]
      have hlog : (B ^ i).log2 ≤ 4848 := by
        have hpos : B ^ i ≠ 0 := Nat.pos_iff_ne_zero.mp (Nat.pow_pos hB)
        have h1 : B ^ i ≤ (2 ^ 100) ^ i := Nat.pow_le_pow_left hB2 i
        rw [← Nat.pow_mul] at h1
        have h2 : 2 ^ (100 * i) < 2 ^ 4849 := Nat.pow_lt_pow_right (by decide) (by omega)
        have := (Nat.log2_lt hpos).mpr (Nat.lt_of_le_of_lt h1 h2)
        omega
      refine s_asg (v := .int ((B ^ (i + 1) : Nat) : Int)) (ev_is (ev_op (x := .int ((B ^ i : Nat) : Int)) (y := .int (B : Int)) (by exact ev_var rfl) (ev_is (ev_op (by exact ev_var rfl) ev_c rv_I0) (by rw [Int.sub_add_cancel])) (rv_I (show CMulW _ _ by unfold CMulW; rw [Int.natAbs_natCast, Int.natAbs_natCast]; omega))) (by rw [Nat.pow_succ, Int.natCast_mul])) fun H5 e5 => ⟨e4.trans e5, by omega, _, rfl⟩
    rintro σ' H4 ⟨e4, _, v5, rfl⟩
    rw [Int.toNat_natCast]
    have e14 := e13.trans e4
    refine q_when (b := decide (((B ^ (ps.length * m) : Nat) : Int) > 20000)) (et_test (ev_op (by exact ev_var rfl) (by exact ev_c) rv_I0)) (fun hb H5 e5 => ?_) fun hb H5 e5 => ?_
    · have hbig : 20000 < B ^ (ps.length * m) := by
        have := of_decide_eq_true hb
        omega
      exact ⟨by simp, fun a ha => ⟨a, _, rfl, ⟨20000, rfl, by decide⟩, mk_go_W ((q2 hbig).ex (e14.trans e5)) ha⟩⟩
    have hsm : B ^ (ps.length * m) ≤ 20000 := by
      have := of_decide_eq_false hb
      omega
    have q3 := q3 hsm
    have e15 := e14.trans e5
    clear e14 e13 e12 hb
    have hBs : ps.length * m ≠ 0 := by
      have := Nat.mul_le_mul hk1 hm
      omega
    have hB3 : B ≤ 20000 := Nat.le_trans (by
      obtain ⟨s, hs⟩ : ∃ s, ps.length * m = s + 1 := ⟨ps.length * m - 1, by omega⟩
      rw [hs, Nat.pow_succ]
      have := Nat.mul_le_mul_right B (Nat.pow_pos (n := s) hB)
      omega) hsm
    generalize hs : ps.length * m = s at *
    try dsimp only [List.set]
    -- the sums
    refine q_hide fun Qs hQs => call_fst ?_
    refine (ea_cons (by exact ev_var rfl) (ea_cons (by exact ev_var rfl) (ea_cons (by exact ev_var rfl) ea_nil))) H5 (Ex.refl H5) _ fun H6 e6 => ⟨c, m, ps.length, ps, G, rfl, hC.ex (e15.trans e6), hm, hm12, hk4, hPv, fun a rs CH H7 ha e7 h7' hR hCH hlen => ?_⟩
    have hz : ∀ v ∈ CH, v.length = s := fun v hv => by
      obtain ⟨q, _, st, _, e⟩ := (hCH v).mp hv
      rw [e, chg_len, hs]
    have hzk : ∀ k, k < CH.length → CH.getD k [] ∈ CH := fun k hk => by
      rw [List.getD_eq_getElem?_getD, List.getElem?_eq_getElem hk]
      exact List.getElem_mem hk
    refine (er_lcL (K := K) (σ := [some (.ref c), some (.int (m : Int)), some (.int ((B : Int) - 1)), some (.int (ps.length : Nat)), some (.int ((B ^ s : Nat) : Int)), v5, none, none, none, none, none, none]) (H := H7) (tl := tC (.ref a)) (j := 9) (vs := [9]) (t := tYes) (te := tLc (iEnumQ K (tCons (tVar 9) tNil)) (gTup K 2 (gCons (gName 10) (gCons (gName 11) gNil))) (tTest (tOp rNe (tVar 11) (tC (.int 0)))) (tTup (tCons (tVar 10) (tCons (tVar 11) tNil))) [10, 11]) (a := a) (xs := rs.map V.ref) (fun _ => true) (fun i => PartR (CH.getD i [])) ev_c (sq_of h7') (by rw [List.length_map, hR.len]; omega) (fun x => rfl) (fun i x hi => et_yes) (fun i x hi _ => ?_)) H7 (Ex.refl H7) _ fun sv H8 e8 hsv => ?_
    · obtain ⟨hk, rfl, hrow⟩ := hR.at_ hi
      have hl := hz _ (hzk i hk)
      have h9 := er_lcE (K := K) (σ := [some (.ref c), some (.int (m : Int)), some (.int ((B : Int) - 1)), some (.int (ps.length : Nat)), some (.int ((B ^ s : Nat) : Int)), v5, none, none, none, some (.ref (rs.getD i 0)), none, none]) (H := H7) (tA := tCons (tVar 9) tNil) (p := 10) (q := 11) (vs := [10, 11]) (t := tTest (tOp rNe (tVar 11) (tC (.int 0)))) (te := tTup (tCons (tVar 10) (tCons (tVar 11) tNil))) (tq := true) (a := rs.getD i 0) (xs := (CH.getD i []).map V.int) (nzf (CH.getD i [])) (PrR (CH.getD i [])) (ea_cons (by exact ev_var rfl) ea_nil) (st_of hrow) (by rw [List.length_map, hl]; omega) (fun x y => rfl) (fun j x hj => by
          obtain ⟨rfl, _⟩ := int_atq hj
          exact et_test (ev_op (by exact ev_var rfl) ev_c rv_neII)) (fun j x hj _ => by
          obtain ⟨rfl, _⟩ := int_atq hj
          exact er_U (eu_tup (ea_cons (by exact ev_var rfl) (ea_cons (by exact ev_var rfl) ea_nil)) (by simp)))
      rw [List.length_map] at h9
      exact h9
    have hsv := hsv H8 (Kp.refl _ _ _)
    rw [hQs]
    clear hQs
    rw [List.length_map, hR.len] at hsv
    have hsv : Sums CH H8 sv := hsv
    have e18 := ((e15.trans e6).trans e7).trans e8
    clear e8 e7 e6 e15 h7' hR ha
    try dsimp only [List.set]
    refine q_asgL (xs := []) (el_lst ea_nil (by simp)) fun fa H9 hfa e9 h9 => ?_
    try dsimp only [List.set]
    have hfa0 : H fa = none := fresh_back e18 hfa
    refine q_asgL (xs := (dgt B s 0).map V.int) ?_ fun an H10 han e10 h10 => ?_
    · rw [dgt_zero, ← zeros]
      exact el_mapR (n := s) (fun _ => V.int 0) (ea_cons (ev_is (ev_op (x := .int (ps.length : Int)) (y := .int (m : Int)) (by exact ev_var rfl) (by exact ev_var rfl) (rv_I (.inl ⟨by omega, by omega⟩))) (by rw [← hs, Int.natCast_mul])) ea_nil) (by omega) (fun x => rfl) fun i H5 hi e5 => ev_c
    try dsimp only [List.set]
    have hfan : fa ≠ an := fun z => by rw [z, han] at h9; cases h9
    have hpw : 0 < B ^ s := Nat.pow_pos hB
    refine q_while (fun k σ' H' => Ex H8 H' ∧ k ≤ B ^ s ∧ ∃ W : List (Addr × List Int), H' fa = some (.lst (W.map fun q => V.ref q.1)) ∧ W.map (·.2) = fallL B s m (pairsV G) (B ^ s - k) ∧ (∀ q ∈ W, Wt K H' q.1 (m : Int) 0 (chk m ps.length q.2)) ∧ ∃ v8, ((k = 0 ∧ v8 = .non) ∨ (0 < k ∧ ∃ an, v8 = .ref an ∧ an ≠ fa ∧ H' an = some (.lst ((dgt B s (B ^ s - k)).map V.int)))) ∧ σ' = [some (.ref c), some (.int (m : Int)), some (.int ((B : Int) - 1)), some (.int (ps.length : Nat)), some (.int ((B ^ s : Nat) : Int)), v5, some sv, some (.ref fa), some v8, none, none, none]) (B ^ s)
      ⟨e9.trans e10, Nat.le_refl _, [], e10 _ _ h9, by rw [Nat.sub_self]; rfl, (fun q hq => by cases hq), .ref an, .inr ⟨hpw, an, rfl, Ne.symm hfan, by rw [Nat.sub_self]; exact h10⟩, rfl⟩ ?_
    rintro k σ' H11 ⟨e11, hk, W, g1, g2, g3, v8, hv8, rfl⟩
    rcases hv8 with ⟨rfl, rfl⟩ | ⟨hk0, an, rfl, hna, g4⟩
    · refine ⟨!decide (V.non = V.non), et_test (ev_op (by exact ev_var rfl) ev_c rv_notN), (fun hb => by simp at hb), fun _ H12 e12 => ?_⟩
      refine s_ret (by exact ev_var rfl) fun H13 e13 => q3 fa W H13 hfa0 ((e18.trans e11).trans (e12.trans e13)) ((e12.trans e13) _ _ g1) (by rw [Nat.sub_zero] at g2; exact g2) fun q hq => (g3 q hq).ex (e12.trans e13)
    · refine ⟨!decide (V.ref an = V.non), et_test (ev_op (by exact ev_var rfl) ev_c rv_notN), fun _ H12 e12 => ?_, fun hb => by simp at hb⟩
      have hlen2 := dgt_len B s (B ^ s - k)
      have hin := dgt_in hB s (B ^ s - k)
      have hSml : Sml (dgt B s (B ^ s - k)) := fun x hx => by
        have := hin x hx
        omega
      have hfall : (CH.all fun v => decide (dot v (dgt B s (B ^ s - k)) ≤ 0)) = fallB m (dgt B s (B ^ s - k)) (pairsV G) := by
        rw [Bool.eq_iff_iff, fallB_iff, List.all_eq_true]
        constructor
        · intro h q hq st hst
          have := of_decide_eq_true (h _ ((hCH _).mpr ⟨q, hq, st, hst, rfl⟩))
          rw [dot_chg hm (hPv q hq).1.1 (hPv q hq).1.2] at this
          omega
        · intro h v hv
          obtain ⟨q, hq, st, hst, rfl⟩ := (hCH v).mp hv
          have := h q hq st hst
          rw [dot_chg hm (hPv q hq).1.1 (hPv q hq).1.2]
          exact decide_eq_true (by omega)
      have hsucc := fallL_succ B s m (pairsV G) (B ^ s - k)
      have ek : B ^ s - k + 1 = B ^ s - (k - 1) := by omega
      rw [ek] at hsucc
      have hW20 : W.length ≤ 20000 := by
        have := congrArg List.length g2
        rw [List.length_map] at this
        have h2 := List.length_filter_le (fun F => fallB m F (pairsV G)) ((List.range (B ^ s - k)).map (dgt B s))
        rw [List.length_map, List.length_range] at h2
        unfold fallL at this
        omega
      refine ⟨fun σ2 H2' => ∃ m', m' < k ∧ (Ex H8 H2' ∧ m' ≤ B ^ s ∧ ∃ W : List (Addr × List Int), H2' fa = some (.lst (W.map fun q => V.ref q.1)) ∧ W.map (·.2) = fallL B s m (pairsV G) (B ^ s - m') ∧ (∀ q ∈ W, Wt K H2' q.1 (m : Int) 0 (chk m ps.length q.2)) ∧ ∃ v8, ((m' = 0 ∧ v8 = .non) ∨ (0 < m' ∧ ∃ an, v8 = .ref an ∧ an ≠ fa ∧ H2' an = some (.lst ((dgt B s (B ^ s - m')).map V.int)))) ∧ σ2 = [some (.ref c), some (.int (m : Int)), some (.int ((B : Int) - 1)), some (.int (ps.length : Nat)), some (.int ((B ^ s : Nat) : Int)), v5, some sv, some (.ref fa), some v8, none, none, none]), fun σ2 H2' h => h, ?_⟩
      -- the end of a turn
      have fin : ∀ (W2 : List (Addr × List Int)) (H13 : Hp), Ex H8 H13 → H13 fa = some (.lst (W2.map fun q => V.ref q.1)) → W2.map (·.2) = fallL B s m (pairsV G) (B ^ s - (k - 1)) → (∀ q ∈ W2, Wt K H13 q.1 (m : Int) 0 (chk m ps.length q.2)) → H13 an = some (.lst ((dgt B s (B ^ s - k)).map V.int)) → ∀ D : Ends, D.nx = (fun σ2 H2' => ∃ m', m' < k ∧ (Ex H8 H2' ∧ m' ≤ B ^ s ∧ ∃ W : List (Addr × List Int), H2' fa = some (.lst (W.map fun q => V.ref q.1)) ∧ W.map (·.2) = fallL B s m (pairsV G) (B ^ s - m') ∧ (∀ q ∈ W, Wt K H2' q.1 (m : Int) 0 (chk m ps.length q.2)) ∧ ∃ v8, ((m' = 0 ∧ v8 = .non) ∨ (0 < m' ∧ ∃ an, v8 = .ref an ∧ an ≠ fa ∧ H2' an = some (.lst ((dgt B s (B ^ s - m')).map V.int)))) ∧ σ2 = [some (.ref c), some (.int (m : Int)), some (.int ((B : Int) - 1)), some (.int (ps.length : Nat)), some (.int ((B ^ s : Nat) : Int)), v5, some sv, some (.ref fa), some v8, none, none, none])) → tAsg (tCall (sp_count_up K) [] E0 (tCons (tVar 8) (tCons (tVar 2) tNil))) (gName 8) D [some (.ref c), some (.int (m : Int)), some (.int ((B : Int) - 1)), some (.int (ps.length : Nat)), some (.int ((B ^ s : Nat) : Int)), v5, some sv, some (.ref fa), some (.ref an), none, none, none] H13 := fun W2 H13 e13 f1 f2 f3 f4 D hD => by
        refine Lc.asg_fst (call_fst ?_)
        refine (ea_cons (by exact ev_var rfl) (ea_cons (by exact ev_var rfl) ea_nil)) H13 (Ex.refl H13) _ fun H14 e14 => ⟨an, dgt B s (B ^ s - k), (B : Int) - 1, rfl, e14 _ _ f4, by omega, fun i hi p H15 hp e15 h15 => ?_, fun hall H15 e15 => ?_⟩
        · rw [hD]
          have hnt : k ≠ 1 := fun hk1 => hi.2.1 (dgt_top hB (by omega) s (B ^ s - k) (by omega) i (by have := hi.1; omega))
          obtain ⟨i2, hi2, hu⟩ := dgt_up (h := (B : Int) - 1) hB (by omega) s (B ^ s - k) (by omega)
          have hii : i = i2 := by
            rcases Nat.lt_trichotomy i i2 with hlt | heq | hgt
            · exact absurd (hi.2.2 i2 hlt hi2.1) hi2.2.1
            · exact heq
            · exact absurd (hi2.2.2 i hgt hi.1) hi.2.1
          subst hii
          rw [hu, ek] at h15
          refine ⟨k - 1, by omega, e13.trans (e14.trans e15), by omega, W2, (e14.trans e15) _ _ f1, f2, fun q hq => (f3 q hq).ex (e14.trans e15), .ref p, .inr ⟨by omega, p, rfl, fun z => ?_, h15⟩, rfl⟩
          rw [z] at hp
          rw [e14 _ _ f1] at hp
          cases hp
        · rw [hD]
          have hk1 : k = 1 := by
            by_cases h1 : k = 1
            · exact h1
            · obtain ⟨i2, hi2, hu⟩ := dgt_up (h := (B : Int) - 1) hB (by omega) s (B ^ s - k) (by omega)
              exact absurd (hall i2 hi2.1) hi2.2.1
          refine ⟨k - 1, by omega, e13.trans (e14.trans e15), by omega, W2, (e14.trans e15) _ _ f1, f2, fun q hq => (f3 q hq).ex (e14.trans e15), .non, .inl ⟨by omega, rfl⟩, rfl⟩
      refine q_whenC (fun σ' H' => σ' = [some (.ref c), some (.int (m : Int)), some (.int ((B : Int) - 1)), some (.int (ps.length : Nat)), some (.int ((B ^ s : Nat) : Int)), v5, some sv, some (.ref fa), some (.ref an), none, none, none] ∧ Ex H8 H' ∧ H' an = some (.lst ((dgt B s (B ^ s - k)).map V.int)) ∧ ∃ W2 : List (Addr × List Int), H' fa = some (.lst (W2.map fun q => V.ref q.1)) ∧ W2.map (·.2) = fallL B s m (pairsV G) (B ^ s - (k - 1)) ∧ (∀ q ∈ W2, Wt K H' q.1 (m : Int) 0 (chk m ps.length q.2))) (fun σ' H' h => by
          obtain ⟨rfl, x1, x2, W2, x3, x4, x5⟩ := h
          exact fin W2 H' x1 x3 x4 x5 x2 _ rfl) (b := fallB m (dgt B s (B ^ s - k)) (pairsV G)) (et_B (ev_call (ea_cons (by exact ev_var rfl) (ea_cons (by exact ev_var rfl) ea_nil)) fun H13 e13 Q13 q13 E13 => ⟨an, dgt B s (B ^ s - k), CH, sv, rfl, (e12.trans e13) _ _ g4, hsv.ex ((e11.trans e12).trans e13), fun v hv => by rw [hz v hv, hlen2], by omega, hlen, hSml, by rw [hfall]; exact q13⟩)) (fun hz2 hb H13 e13 => ?_) fun hb H13 e13 => ?_
      · have e1213 := e12.trans e13
        refine ⟨_, rfl, Or.inl ⟨rfl, _, sq_of (e1213 _ _ g1)⟩, mk_fst ⟨_, rfl, Lc.cons_fst ?_⟩⟩
        refine ⟨_, rfl, _, rfl, ⟨an, dgt B s (B ^ s - k), m, ps.length, rfl, e1213 _ _ g4, by rw [hlen2, hs], hm, hm12, by omega, fun tt rs2 H14 htt e14 h14 hr14 hf14 hn14 => fun o dxo ho hdxo hne => ?_⟩⟩
        have hpt : part (m : Int) 0 (chk m ps.length (dgt B s (B ^ s - k))) = none := part_chk hm hm12 hk1 hk4 (by rw [hlen2, hs])
        have e0 : Ex H14 (upd (upd H14 dxo (.own o)) o (.ins (cW K) dxo [])) := (Ex.new hdxo).mut ho
        refine ⟨o, dxo, tt, (m : Int), 0, chk m ps.length (dgt B s (B ^ s - k)), rfl, ⟨rs2, .inl (e0 _ _ h14), hr14.ex e0⟩, sm_of hpt, upd_same, fun _ H15 x15 hw => ⟨rfl, ?_⟩, fun z hz3 => by rw [hpt] at hz3; cases hz3⟩
        have e15 : Ex H14 H15 := ex_of_b ho e0 x15
        rw [red0] at hw
        have g1' := ((e1213.trans e14).trans e15) _ _ g1
        refine ⟨fa, _, .ref o, rfl, rfl, g1', sz_lt (by rw [List.length_map]; omega), ?_⟩
        refine hz2 _ _ ⟨rfl, ?_, ?_, W ++ [(o, dgt B s (B ^ s - k))], ?_, ?_, ?_⟩
        · exact Ex.mut (((e11.trans e1213).trans e14).trans e15) hfa
        · rw [upd_ne hna]
          exact ((e1213.trans e14).trans e15) _ _ g4
        · rw [upd_same, List.map_append]
          rfl
        · rw [List.map_append, g2, hsucc, if_pos hb]
          rfl
        · intro q hq
          rcases List.mem_append.mp hq with hq | hq
          · exact ((g3 q hq).ex ((e1213.trans e14).trans e15)).updL g1'
          · rw [List.mem_singleton.mp hq]
            exact hw.updL g1'
      · refine ⟨rfl, (e11.trans e12).trans e13, (e12.trans e13) _ _ g4, W, (e12.trans e13) _ _ g1, ?_, fun q hq => (g3 q hq).ex (e12.trans e13)⟩
        rw [g2, hsucc, hb]
        simp

end
end K57
namespace Lc
open PySem PySem.Spec PyProof.Rows L2 Evl
/-! ### sets of texts that can be walked -/
def txOf (v : Value) : Str := match v with
  | .str k _ => k
  | _ => Str.empty
def RowX (w : World) (e : Int × Value) : Prop := ∃ k tk, e.2 = Value.str k tk ∧ e.1 = hashStr w k
abbrev txs (es : Array (Int × Value)) : List Str := es.toList.map fun e => txOf e.2
structure SX (w : World) (o : Obj) (es : Array (Int × Value)) (ep : Nat) (t : SetTable) (l : List Str) : Prop where
  ex : o.ExactSet
  dat : o.data = .set es ep t
  row : ∀ e ∈ es.toList, RowX w e
  pm : (txs es).Perm l
  nd : l.Nodup
  few : es.size < scanBound
  fit : t.fits es.size = true
  ris : Ris t.place.toList
  led : w.params.followText "set-order" = true ∨ t.led = true
def SetX (w : World) (h : Heap) (a : Addr) (l : List Str) : Prop := ∃ o es ep t, h.get? a = some o ∧ SX w o es ep t l
theorem SetX.at_ {w : World} {h h' : Heap} {a : Addr} {l : List Str} (R : SetX w h a l) (k : ∀ o, h.get? a = some o → h'.get? a = some o) : SetX w h' a l := by
  obtain ⟨o, es, ep, t, ho, r⟩ := R
  exact ⟨o, es, ep, t, k o ho, r⟩
theorem SetX.perm {w : World} {h : Heap} {a : Addr} {l m : List Str} (R : SetX w h a l) (p : l.Perm m) : SetX w h a m := by
  obtain ⟨o, es, ep, t, ho, r⟩ := R
  exact ⟨o, es, ep, t, ho, { r with pm := r.pm.trans p, nd := p.nodup_iff.mp r.nd }⟩
section
variable {P : Program} {w : World} {A : Around} {E : Value → Shared → Prop} {s : Shared} {a : Addr} {l : List Str}
theorem rowX_el {es : List (Int × Value)} (g : ∀ e ∈ es, RowX w e) : ElemsOf (PySem.strKind P w) es := fun e he => by
  obtain ⟨k, tk, h1, h2⟩ := g e he
  exact ⟨⟨k, by rw [h1]; exact strKind_is P w k tk, h2⟩, by rw [h1] <;> rfl⟩
theorem rowX_is {e : Int × Value} (g : RowX w e) (k : Str) : (PySem.strKind P w).is k e.2 = true ↔ txOf e.2 = k := by
  obtain ⟨k0, tk, h1, _⟩ := g
  rw [h1]
  show Value.isStrOf k (.str k0 tk) = true ↔ k0 = k
  simp [Value.isStrOf]
  try exact eq_comm
theorem rowX_mem {es : List (Int × Value)} (g : ∀ e ∈ es, RowX w e) (k : Str) : k ∈ es.map (fun e => txOf e.2) ↔ ∃ e ∈ es, (PySem.strKind P w).is k e.2 = true := by
  rw [List.mem_map]
  exact ⟨fun ⟨e, he, q⟩ => ⟨e, he, (rowX_is (g e he) k).2 q⟩, fun ⟨e, he, q⟩ => ⟨e, he, (rowX_is (g e he) k).1 q⟩⟩
/-- what a new row leaves -/
theorem sx_tail {g : Bool → Sem Unit} (hg : ∀ (b : Bool) (s₁ : Shared) (Q' : Unit → Shared → Prop), Q' () s₁ → wpAny (model P w) A (g b) Q' E s₁)
    {o : Obj} {es es1 : Array (Int × Value)} {ep : Nat} {t t2 : SetTable} {l1 : List Str} (ho : s.heap.get? a = some o) (hd : o.data = .set es ep t)
    (r1 : ∀ ep', SX w { o with data := .set es1 ep' t2 } es1 ep' t2 l1) {wasDummy : Bool} {R : Option Bool → Shared → Prop}
    (hR : ∀ h', Heap.SameBut a s.heap h' → SetX w h' a l1 → R (some true) { s with heap := h' }) :
    wpAny (model P w) A (do
        storeSet a es1 t2
        if (!wasDummy && t2.tooFull) = true then do
            g (relayAll t2 es1 (SetTable.grown es1.size)).2.2
            storeSet a (relayAll t2 es1 (SetTable.grown es1.size)).1 (relayAll t2 es1 (SetTable.grown es1.size)).2.1
            pure (some true)
          else pure (some true)) R E s := by
  have few1 := (r1 0).few
  refine wpAny_bind (wpAny_storeSet_of ho hd ?_ (fits_of_scanBound few1))
  have ho1 := store_at (es' := es1) (t' := t2) ho hd
  have sb := Heap.SameBut.update s.heap a (Obj.putSet es1 t2)
  split
  · have q1 := relayAll_perm t2 es1 (SetTable.grown es1.size)
    have q2 := relayAll_fits t2 es1 (SetTable.grown es1.size)
    have q3 := relayAll_ris t2 es1 (SetTable.grown es1.size)
    have q4 := relayAll_led t2 es1 (SetTable.grown es1.size)
    generalize relayAll t2 es1 (SetTable.grown es1.size) = Z at q1 q2 q3 q4 ⊢
    obtain ⟨es2, t3, gave⟩ := Z
    dsimp only at q1 q2 q3 q4 ⊢
    have size2 : es2.size = es1.size := by
      have := q1.length_eq
      rwa [Array.length_toList, Array.length_toList] at this
    refine wpAny_bind (hg _ _ _ (wpAny_bind (wpAny_storeSet_of ho1 rfl ?_ (fits_of_scanBound (by rw [size2]; exact few1)))))
    have r := r1 0
    exact wpAny_pure (hR _ (sb.trans (Heap.SameBut.update _ a _)) ⟨_, es2, _, t3, store_at (es' := es2) (t' := t3) ho1 rfl, r.ex, rfl, fun e he => r.row e (q1.mem_iff.mp he), (q1.map _).trans r.pm, r.nd, by rw [size2]; exact few1, q2, q3, r.led.imp id fun z => by rw [q4]; exact z⟩)
  · exact wpAny_pure (hR _ sb ⟨_, es1, _, t2, ho1, r1 _⟩)
/-- a text put in -/
theorem sx_add {k : Str} {tk : Tok} {Q : Bool → Shared → Prop} (R : SetX w s.heap a l) (room : l.length + 1 < scanBound)
    (hQ : ∀ h' b, Heap.SameBut a s.heap h' → SetX w h' a (addS l k) → Q b { s with heap := h' }) :
    wpAny (model P w) A (setAddHashed a (.str k tk) ((PySem.strKind P w).hash k)) Q E s := by
  obtain ⟨o, es, ep, t, ho, r⟩ := R
  have hkey : (PySem.strKind P w).is k (.str k tk) = true := strKind_is P w k tk
  have hel : ElemsOf (PySem.strKind P w) es.toList := rowX_el r.row
  have hsz : es.size = l.length := by
    have := r.pm.length_eq
    rwa [List.length_map, Array.length_toList] at this
  unfold setAddHashed setAddHashedIn
  refine wpAny_holding (wpAny_bind (wpAny_setState_of ho r.dat r.fit ?_))
  dsimp only
  rw [byScan_of (show (Value.str k tk).scannable = true from rfl) r.few hel]
  simp only [↓reduceIte]
  unfold setAddByScan
  refine wpAny_bind (wpAny_bind (wpAny_rule (wpAny_bind (wpAny_setScan_of hkey ho r.dat r.fit hel ?_))))
  cases hfi : List.findIdx? (fun e => (PySem.strKind P w).is k e.2) es.toList with
  | some j =>
    dsimp only
    obtain ⟨hj, pj, _⟩ := List.findIdx?_eq_some_iff_getElem.mp hfi
    have hk : k ∈ l := r.pm.mem_iff.mp ((rowX_mem (P := P) (w := w) r.row k).2 ⟨es.toList[j], List.getElem_mem hj, pj⟩)
    refine wpAny_pure (wpAny_pure (hQ s.heap _ (Heap.SameBut.refl a s.heap) ?_))
    rw [show addS l k = l from if_pos hk]
    exact ⟨o, es, ep, t, ho, r⟩
  | none =>
    dsimp only
    have hk : k ∉ l := fun z => by
      obtain ⟨e, he, q⟩ := (rowX_mem (P := P) (w := w) r.row k).1 (r.pm.mem_iff.mpr z)
      have c := List.findIdx?_eq_none_iff.mp hfi e he
      rw [q] at c
      cases c
    have hgw : ∀ (b : Bool) {s₁ : Shared} {Q' : Unit → Shared → Prop}, Q' () s₁ → wpAny (model P w) A (match b with | true => rule "set.scan.the-table-gave-way" | false => pure ()) Q' E s₁ :=
      fun b s₁ Q' q => by cases b <;> first | exact wpAny_pure q | exact wpAny_rule q
    have p1 := layNew_perm t es ((PySem.strKind P w).hash k) (.str k tk)
    have p2 := layNew_fits t es ((PySem.strKind P w).hash k) (.str k tk)
    have p3 := layNew_ris t es ((PySem.strKind P w).hash k) (.str k tk) r.ris
    have p4 := layNew_led t es ((PySem.strKind P w).hash k) (.str k tk)
    generalize layNew t es ((PySem.strKind P w).hash k) (.str k tk) = Z at p1 p2 p3 p4 ⊢
    obtain ⟨es1, t1, wasDummy, gave⟩ := Z
    dsimp only at p1 p2 p3 p4 ⊢
    rw [Array.toList_push] at p1
    have pc : es1.toList.Perm (((PySem.strKind P w).hash k, Value.str k tk) :: es.toList) := p1.trans (List.perm_append_singleton _ _)
    have pk : (txs es1).Perm (addS l k) := by
      rw [show addS l k = l ++ [k] from if_neg hk]
      have e0 : (txs es1).Perm (k :: txs es) := pc.map fun e => txOf e.2
      exact (e0.trans (List.Perm.cons k r.pm)).trans (List.perm_append_singleton _ _).symm
    have size1 : es1.size = l.length + 1 := by
      have := pc.length_eq
      rw [Array.length_toList, List.length_cons, Array.length_toList, hsz] at this
      exact this
    have r1 : ∀ (t2 : SetTable), t2.fits es1.size = true → Ris t2.place.toList → (w.params.followText "set-order" = true ∨ t2.led = true) → ∀ ep', SX w { o with data := .set es1 ep' t2 } es1 ep' t2 (addS l k) := fun t2 z1 z2 z3 ep' => {
      ex := r.ex, dat := rfl
      row := fun e he => by
        rcases List.mem_cons.mp (pc.mem_iff.mp he) with z | z
        · rw [z]
          exact ⟨k, tk, rfl, rfl⟩
        · exact r.row e z
      pm := pk
      nd := by
        rw [show addS l k = l ++ [k] from if_neg hk]
        exact List.nodup_append.mpr ⟨r.nd, by simp, fun x hx b hb z => hk (by rw [← List.mem_singleton.mp hb, ← z]; exact hx)⟩
      few := by rw [size1]; exact room
      fit := z1, ris := z2, led := z3 }
    have led1 : w.params.followText "set-order" = true ∨ t1.led = true := r.led.imp id fun z => by rw [p4]; exact z
    refine wpAny_bind (hgw _ ?_)
    split
    · refine wpAny_bind ?_
      rw [hashByValue_scannable 8 (show (Value.str k tk).scannable = true from rfl)]
      refine wpAny_pure ?_
      refine sx_tail ?_ ho r.dat (r1 _ ?_ ?_ ?_) ?_
      · intro b s₁ Q' q; cases b <;> first | exact wpAny_pure q | exact wpAny_rule q
      · first | (split <;> first | exact p2 | exact SetTable.fits_plain_off p2) | exact p2
      · first | (split <;> exact p3) | exact p3
      · first | (split <;> exact led1) | exact led1
      · intro h' sb z; dsimp only; exact wpAny_pure (hQ h' true sb z)
    · refine wpAny_bind (wpAny_pure ?_)
      simp only [↓reduceIte]
      refine sx_tail ?_ ho r.dat (r1 _ p2 p3 led1) ?_
      · intro b s₁ Q' q; cases b <;> first | exact wpAny_pure q | exact wpAny_rule q
      · intro h' sb z; dsimp only; exact wpAny_pure (hQ h' true sb z)
/-- texts put in, one after the other -/
theorem put_textsX {prog : Program} {R : Result → Shared → Prop} {I : Addr} {fp wr : List Addr} {G : Array GenState → Array GenState → Prop} {n : Nat} {Pv : Nat → Value → Prop} {St : Nat → Shared → Prop} (V : WalksS prog w A.in1 I fp wr G n Pv St) (D : Addr) (hD : D ∉ fp) (xs : List Str) (hn : xs.length = n) (few : n < 4000) (tx : ∀ i v, Pv i v → ∃ t, v = .str (xs.getD i Str.empty) t) (m : Nat) :
    ∀ (i : Nat) (s : Shared), n - i = m → i ≤ n → St i s → SetX w s.heap D (setS (xs.take i)) → (∀ s', Moved (D :: wr) G s s' → SetX w s'.heap D (setS xs) → R (.ok (.ret .none)) s') → codeAny (model prog w) A (.builtin "set.update.loop" ⟨[.ref D, .ref I], []⟩) R s := by
  have hw : D ∉ wr := fun z => hD (V.sub _ z)
  have up : ∀ c ∈ wr, c ∈ D :: wr := fun _ z => .tail _ z
  have kp : ∀ {s s' : Shared} {l : List Str}, Moved wr G s s' → SetX w s.heap D l → SetX w s'.heap D l := fun mv z => z.at_ fun o q => mv.heap D o hw q
  induction m with
  | zero =>
    intro i s e hi st hs k
    obtain rfl : i = n := by omega
    refine codeAny_builtin PyProof.Rows.F.entry_set_update_loop ?_
    rw [Around.under_plainId PyProof.Rows.F.plain_set_update_loop _]
    refine wpAny_bind (m := pyNext (.ref I)) (V.done s _ _ st fun s' mv => wpAny_pure (k s' (mv.mono up) ?_))
    have z := kp mv hs
    rw [List.take_of_length_le (by omega)] at z
    exact z
  | succ m ih =>
    intro i s e hi st hs k
    have lt : i < n := by omega
    have hx : xs[i]? = some (xs.getD i Str.empty) := by
      rw [List.getD_eq_getElem?_getD, List.getElem?_eq_getElem (by omega)]
      rfl
    refine codeAny_builtin PyProof.Rows.F.entry_set_update_loop ?_
    rw [Around.under_plainId PyProof.Rows.F.plain_set_update_loop _]
    refine wpAny_bind (m := pyNext (.ref I)) (V.item i s _ _ lt st fun v s1 hp st1 mv => ?_)
    obtain ⟨t, rfl⟩ := tx i v hp
    have hs1 := kp mv hs
    have hle := (setS_len (xs.take i)).1
    rw [List.length_take] at hle
    have step := setS_snoc hx
    generalize xs.getD i Str.empty = x at hx step ⊢
    refine wpAny_bind (m := holding [Value.str x t] (setAdd D (.str x t))) (wpAny_holding ?_)
    unfold setAdd
    refine wpAny_holding (wpAny_bind ((PySem.strKind prog w).pyHash (k := x) (strKind_is _ _ _ _) ?_))
    refine sx_add (s := { s1 with toks := s1.toks + 1 }) hs1 (by unfold scanBound; omega) fun h' b sb hs2 => ?_
    rw [← step] at hs2
    refine wpAny_pure ⟨plainId_quiet PyProof.Rows.F.plain_set_update_loop _, ih (i + 1) _ (by omega) lt (V.frame _ s1 _ _ st1 (Nat.le_succ _) fun c hc o z => ?_) hs2 fun s2 mv2 hs4 => k s2 (Moved.trans V.gtrans ((mv.mono up).then_heap (Nat.le_succ _) fun c o hc z => ?_) mv2) hs4⟩
    · exact (sb.2 c fun q => hD (q ▸ hc)).trans z
    · exact (sb.2 c fun q => hc (q ▸ .head _)).trans z
end
end Lc
namespace Lc
open PySem PySem.Spec PyProof.Rows L2 Evl
section
variable {P : Program} {w : World} {A : Around} {E : Value → Shared → Prop} {s : Shared} {a : Addr} {l : List Str}
theorem strs_rows : ∀ {vs : List Value}, (∀ v ∈ vs, ∃ k tk, v = Value.str k tk) → StrsAre vs (vs.map txOf)
  | [], _ => .nil
  | v :: vs, h => by
    obtain ⟨k, tk, rfl⟩ := h v (List.mem_cons_self ..)
    exact .cons k tk (strs_rows fun u hu => h u (List.mem_cons_of_mem _ hu))
theorem fresh_led (w : World) : w.params.followText "set-order" = true ∨ (SetTable.fresh 0 0 (!w.params.followText "set-order")).led = true := by
  show _ ∨ (!w.params.followText "set-order") = true
  cases w.params.followText "set-order"
  · exact .inr rfl
  · exact .inl rfl
theorem setX_fresh {h : Heap} {a : Addr} (ho : h.get? a = some (emS (!w.params.followText "set-order"))) : SetX w h a [] :=
  ⟨_, #[], 0, _, ho, { ex := ⟨rfl, rfl, rfl⟩, dat := rfl, row := fun e he => by simp at he, pm := by simp [txs], nd := List.nodup_nil, few := by decide, fit := by rfl, ris := List.Pairwise.nil, led := fresh_led w }⟩
/-- set(a list of texts), to be walked -/
theorem setX_of {l : Addr} {its : Array Value} {xs : List Str} {Q : Value → Shared → Prop} (hh : A.handled = none) (hl : s.heap.IsList l its) (hx : StrsAre its.toList xs) (few : xs.length < 4000)
    (k : ∀ (h' : Heap) (tk : Nat), SetX w h' s.heap.objs.size (setS xs) → (∀ b o, b < s.heap.objs.size → s.heap.get? b = some o → h'.get? b = some o) → Q (.ref s.heap.objs.size) { s with heap := h', toks := tk }) :
    wpAny (model P w) A (call (.type "set") [.ref l]) Q E s := by
  have w1 := PySem.F.called_set.mro
  obtain ⟨_, _, w1⟩ := w1
  have w2 := PySem.F.called_set.made
  have w3 := PySem.F.called_set.sub
  have w4 := PySem.F.called_set.notType
  have w5 := PySem.F.called_set.canCreate
  have w6 := PySem.F.typeCall_set_1 (.ref l)
  refine wpAny_call (codeAny_of_tree (wpAny_pure ⟨Code.quiet_builtin _ (by decide +kernel), codeAny_builtin PySem.F.entry_type_call ?_⟩))
  rw [Around.under_plain (weight_type_call_type "set" [.ref l] []) rfl]
  repeat (any_goals (first | assumption | wp_step))
  refine codeAny_mono (code_set_led1 (.ref l) (E := E) (Q₁ := fun v s1 => v = .ref s.heap.objs.size ∧ s1 = { s with heap := s.heap.push (emS (!w.params.followText "set-order")) }) ⟨rfl, rfl⟩) fun r s1 hr => ?_
  match r, hr with
  | .error _, hr => exact hr
  | .ok (.ret v), hr =>
    obtain ⟨rfl, rfl⟩ := hr
    generalize hled : (!w.params.followText "set-order") = led
    have hD : (s.heap.push (emS led)).get? s.heap.objs.size = some (emS led) := Heap.get?_push_size _ rfl
    have hT : Shared.TypeIs { s with heap := s.heap.push (emS led) } (.ref s.heap.objs.size) "set" := ⟨_, hD, rfl⟩
    have w7 := PySem.F.called_set.init.lookup
    have w8 := PySem.F.called_set.init.bind (.ref s.heap.objs.size)
    repeat (any_goals (first | assumption | wp_step))
    refine codeAny_mono (codeAny_call_builtin (R := wants (fun v s2 => v = .none ∧ ∃ h' tk, s2 = { s with heap := h', toks := tk } ∧ SetX w h' s.heap.objs.size (setS xs) ∧ ∀ b o, b < s.heap.objs.size → s.heap.get? b = some o → h'.get? b = some o) E) PySem.F.called_set.init.plain PySem.F.entry_set_init (check_set_init_1 hT ?_)) fun r2 s2 hr2 => ?_
    · obtain ⟨⟨cl, dc, dt, sl⟩, ho, h1, nl, h2⟩ := hl
      simp only at h1 h2
      subst h1 h2
      have hol : (s.heap.push (emS led)).get? l = some { cls := .type "list", dict := dc, data := .seq its nl, slots := sl } := Heap.get?_push_of_some _ ho
      have w9 := PySem.F.sub_list_set
      have wA := PySem.F.sub_list_frozenset
      have wB : (Value.type "list" == Value.type "dict") = false := by decide
      have hl1 : (s.heap.push (emS led)).IsList l its := ⟨_, hol, rfl, nl, rfl⟩
      unfold Builtin.«set.__init__» noKeywords Builtin.Frozenset.updateFrom
      generalize hpi : pyIter = it
      wp_walk
      subst hpi
      refine wpAny_pyIter_list hl1 (wpAny_bind (wpAny_runValue ?_))
      have ll : l < s.heap.objs.size := Heap.lt_size ho
      have ls : (s.heap.push (emS led)).objs.size = s.heap.objs.size + 1 := Heap.size_push _ _
      have n1 : l ≠ (s.heap.push (emS led)).objs.size := fun z => by
        have z2 : l < (s.heap.push (emS led)).objs.size := by rw [ls]; exact Nat.lt_succ_of_lt ll
        exact Nat.lt_irrefl _ (z ▸ z2)
      have n2 : s.heap.objs.size ∉ [(s.heap.push (emS led)).objs.size, l] := fun z => by
        rcases List.mem_cons.mp z with z | z
        · rw [ls] at z
          exact absurd z (Nat.ne_of_lt (Nat.lt_succ_self _))
        · rw [List.mem_singleton.mp z] at ll
          exact Nat.lt_irrefl _ ll
      have hz : xs.length = its.size := by rw [← StrsAre.len_eq hx, Array.length_toList]
      refine put_textsX (w := w) ((Walks.list (show A.in1.in1.in1.handled = none by simp [hh]) _ l n1 its).toS) s.heap.objs.size n2 xs hz (hz ▸ few) (fun i v q => SS.strs_at hx i v (by rw [Array.getElem?_toList]; exact q)) (its.size - 0) 0 _ (by omega) (Nat.zero_le _) ⟨⟨_, Heap.get?_push_size _ rfl, rfl, rfl⟩, hl1.push _⟩ ?_ fun s3 mv hs => ?_
      · subst hled
        exact setX_fresh (Heap.get?_push_of_some _ hD)
      · obtain ⟨h3, g3, d3, t3, o3⟩ := s3
        obtain rfl : g3 = s.gens := mv.gens
        obtain rfl : d3 = s.drawn := mv.drawn
        obtain rfl : o3 = s.os := mv.os
        show wpAny _ _ _ _ _ _
        refine wpAny_pure ?_
        show wpAny _ _ (ret Value.none) _ _ _
        refine wpAny_pure ⟨rfl, h3, t3, rfl, hs, fun b o hb q => mv.heap b o (fun z => ?_) (Heap.get?_push_of_some _ (Heap.get?_push_of_some _ q))⟩
        rcases List.mem_cons.mp z with z | z
        · exact Nat.ne_of_lt hb z
        · have z2 := List.mem_singleton.mp z
          rw [ls] at z2
          exact Nat.ne_of_lt (Nat.lt_succ_of_lt hb) z2
    · match r2, hr2 with
      | .error _, q => exact q
      | .ok (.ret v), q =>
        obtain ⟨rfl, h3, tk, rfl, hs, kp⟩ := q
        repeat (any_goals (first | assumption | wp_step))
        exact k _ _ hs kp
/-- sorted(a set of texts) -/
theorem sortedX {Q : Value → Shared → Prop} (R : SetX w s.heap a l) (hh : A.handled = none)
    (hQ : ∀ s' p (out : Array Value) (c : Nat) (ys : List Str), (∀ b o, s.heap.get? b = some o → s'.heap.get? b = some o) → s'.gens = s.gens → s'.os = s.os → s.heap.objs.size ≤ p →
      s'.heap.get? p = some (seqObj "list" out c) → StrsAre out.toList ys → ys.Perm l → sortedS ys = true → Q (.ref p) s') :
    wpAny (model P w) A (call (.builtin "sorted") [.ref a]) Q E s := by
  obtain ⟨o, es, ep, t, ho, r⟩ := R
  refine Calls.call_function_entry kind_sorted plain_sorted entry_sorted (args_sorted1 _) ?_
  unfold Builtin.«sorted»
  refine wpAny_bind (m := checkCount "sorted" 1 1 _) (wpAny_pure ?_)
  refine wpAny_bind (collect_set (A := A.in1) hh ⟨o, ho, r.ex.1, r.dat⟩ r.fit r.few r.ris r.led fun s1 vs k1 hz g1 o1 pm => ?_)
  have hS : StrsAre vs (vs.map txOf) := strs_rows fun v hv => by
    obtain ⟨e, he, q⟩ := List.mem_map.mp (pm.mem_iff.mp hv)
    obtain ⟨k, tk, h1, _⟩ := r.row e he
    exact ⟨k, tk, by rw [← q]; exact h1⟩
  have pk : (vs.map txOf).Perm l := by
    have q := pm.map txOf
    rw [List.map_map] at q
    exact q.trans r.pm
  have hL : vs.length ≤ sizeLine := by
    rw [pm.length_eq, List.length_map, Array.length_toList]
    exact fits_of_scanBound r.few
  refine wpAny_bind (wpAny_newList ?_ hL)
  have hoL : (s1.heap.push (seqObj "list" vs.toArray 0)).get? s1.heap.objs.size = some (seqObj "list" vs.toArray 0) := Heap.get?_push_size _ rfl
  refine wpAny_bind (wpAny_holding (wpAny_call_entry slot_list_sort ⟨_, hoL, rfl⟩ entry_list_sort (list_sort_treeKAny strKind_oneLt hoL hS.keysOf (fun v₁ v₂ rest e => keyKind_strs (by rw [← e]; exact hS)) hL fun st' hp hs => ⟨_, rfl, ?_⟩) (args_list_sort _)))
  obtain ⟨ys, a1, a2, a3⟩ := sorted_out_str hS hp hs
  obtain ⟨c, hc⟩ := sortedHeap_at (vs := vs) (out := (arrOf st').map (·.2)) hoL
  refine wpAny_pure ⟨_, rfl, hQ _ s1.heap.objs.size _ c ys (fun b u e => ?_) g1 o1 hz hc a1 (a2.trans pk) a3⟩
  have q := k1 b u e
  have hlt := Heap.lt_size q
  show (sortedHeap (s1.heap.push (seqObj "list" vs.toArray 0)) s1.heap.objs.size vs _).get? b = some u
  rw [sortedHeap_old (Nat.ne_of_lt hlt) (by rw [size_push']; exact Nat.lt_succ_of_lt hlt)]
  exact Heap.get?_push_of_some _ q
end
end Lc
namespace Lc
open PySem PySem.Spec PyProof.Rows L2 Evl
theorem boot_sorted : bootBuiltins "sorted" = some (.builtin "sorted") := by decide +kernel
/-- sorted(set(xs)), xs a list of texts -/
def tSortSet (K : PySem.W.Frag) (ta : TE) : TE := fun σ H Q => ta σ H fun x H1 => ∃ (l : Addr) (xs : List Str), x = .ref l ∧ SqL K H1 l (xs.map V.str) ∧ xs.length < 4000 ∧ ∀ (ys : List Str) (p : Addr), ys.Perm (setS xs) → sortedS ys = true → H1 p = none → Q (.ref p) (upd H1 p (.lst (ys.map V.str)))
theorem pe_sortSet {X : Cx} {a : Expr} {ta : TE} {p p2 q pos : Pos} (hc : X.calm = true) (hg : Gl X "sorted") (hm : X.mg "sorted" = none) (hg2 : Gl X "set") (hm2 : X.mg "set" = none) (ha : PE X a ta)
    (na : starEach [a] X.env = (false, eval a X.env) :: starEach [] X.env := by rfl) : PE X (.Call (.Name "sorted" p) [.Call (.Name "set" p2) [a] [] q] [] pos) (tSortSet X.K ta) := by
  refine ⟨fun pins s σ H Q I h => Call_ (ld_blt I hg hm boot_sorted (callWith_builtin1 (args_cons (Call_ (ld_blt I hg2 hm2 boot_set (callWith_type1 (args_cons (thn (ha.run pins s σ H _ I h) fun v s1 z => args_nil ?_) na) na rfl))) rfl) rfl rfl))⟩
  obtain ⟨x, H1, I1, r1, l, xs, rfl, hq, few, q1⟩ := z
  cases r1
  obtain ⟨its, r, pl, hz⟩ := I1.list hq
  refine setX_of (I1.ok.hd hc) pl.isList (by simpa using strsAre_of r) few fun h' tk hs hk => args_nil ?_
  have I2 : Inv X pins σ H1 { s1 with heap := h', toks := tk } := I1.kept fun b u e => hk b u (Heap.lt_size e) e
  have hle := (setS_len xs).1
  refine sortedX hs (I2.ok.hd hc) fun s' p out c ys k g o hp hg hi hs hm => ?_
  have hlen : (ys.map V.str).length ≤ sizeLine := by
    rw [List.length_map, hs.length_eq, sizeLine_eq]
    omega
  have hn : H1 p = none := I2.hok.fresh hp
  have J : Inv X pins σ (upd H1 p (.lst (ys.map V.str))) { { s1 with heap := h', toks := tk } with heap := s'.heap, gens := s'.gens, drawn := s'.drawn, toks := s'.toks } :=
    I2.call (ch := []) (Un.laid k hp hn) (I2.hok.laid k hp ⟨hlen, out.toList, c, vals_of_strs hi, hg⟩) (by rw [g]; exact I2.bare) (fun _ z => nomatch z)
  have e : s' = { { s1 with heap := h', toks := tk } with heap := s'.heap, gens := s'.gens, drawn := s'.drawn, toks := s'.toks } := by
    cases s'
    cases o
    rfl
  rw [e]
  exact ⟨.ref p, _, J, rfl, q1 ys p hs hm hn⟩
/-- sorted(xs), xs a list of texts, any number of them -/
def rSortedA (K : PySem.W.Frag) : List V → Hp → VK → Prop := fun vs H Q => ∃ (a : Addr) (xs : List Str), vs = [V.ref a] ∧ SqL K H a (xs.map V.str) ∧ ∀ (ys : List Str) (p : Addr), ys.Perm xs → sortedS ys = true → H p = none → Q (.ref p) (upd H p (.lst (ys.map V.str)))
theorem cr_sortedA {X : Cx} : CallR X (.builtin "sorted") (rSortedA X.K) := by
  intro pins s σ H vs us Q I r h
  obtain ⟨a, xs, rfl, hs, q⟩ := h
  obtain ⟨its, rv, hl, hz⟩ := I.list hs
  rw [Vals.ref1 r]
  have hlen0 := rv.length
  rw [List.length_map] at hlen0
  refine PyProof.Rows.sorted_strsAny hl.isList rv.strs (by rw [← rv.length]; exact hz) fun out ys h1 h2 h3 => ?_
  obtain ⟨ep, he'⟩ := PyProof.Rows.sortedAll_at s.heap its out
  have hlen : (ys.map V.str).length ≤ sizeLine := by
    rw [List.length_map, h2.length_eq]
    rw [List.length_map] at hz
    exact hz
  exact ⟨.ref _, upd H (s.heap.objs.size + 1) (.lst (ys.map V.str)), I.laid (t' := s.toks) (fun _ _ => PyProof.Rows.sortedAll_old) (Nat.le_succ _) ⟨hlen, out.toList, ep, vals_of_strs h1, he'⟩, rfl, q ys _ h2 h3 (I.hok.fresh (Nat.le_succ _))⟩
end Lc
namespace Lc
open PySem PySem.Spec PyProof.Rows L2 Evl
section
variable {X : Cx} {CX : CXT} {k : Nat} {f C : Addr} {fd : FuncData} {ps ks : List Str} {sp : Sp} {E : XK} {m : Str} {o : Expr} {kws : List Keyword} {ta : TE} {tk : TA} {g : List Value → List Value → List Value} {gV : List V → List V → List V} {pos apos : Pos}
/-! ### a method called with names alone -/
def tMethN (C : Addr) (m : Str) (n : Nat) (sp : Sp) (gV : List V → List V → List V) (E : XK) (ta : TE) (tk : TA) : TE := fun σ H Q => ta σ H fun x H1 => ∃ a dx fs, x = .ref a ∧ H1 a = some (.ins C dx fs) ∧ fs.lookup m = none ∧
  tk σ H1 fun zs H2 => zs.length = n ∧ sp (gV [x] zs) H2 Q E
theorem pe_methN {pl : Sem Bool} (he : PE X o ta) (c : Cls X.K C) (hm : Meth X.K C m f) (F : FnOk X.prog X.w X.K X.mg X.base CX k f fd ps sp) (hr : Room k X.A) (hb : KBn X.K fd ps 1 ks g gV) (hx : Passes CX X E) (hkw : PK X kws tk)
    (hall : (backToKw pos (keywordEach kws X.env)).all (·.1.isSome) = true := by rfl) (hks : (backToKw pos (keywordEach kws X.env)).filterMap (·.1) = ks := by rfl)
    (hpl : ((backTo pos (starEach [] X.env)).any (·.1) || (backToKw pos (keywordEach kws X.env)).any (·.1.isNone)) = false := by rfl)
    (ht : eval (.Call (.Attribute o m apos) [] kws pos) X.env = (do
      let ov ← eval o X.env
      standAt apos.atName
      let (f, first) ← holding [ov] (getMethod ov m pl)
      callWith pos f first (backTo pos (starEach [] X.env)) (backToKw pos (keywordEach kws X.env))) := by rfl) :
    PE X (.Call (.Attribute o m apos) [] kws pos) (tMethN C m ks.length sp gV E ta tk) := by
  refine ⟨fun pins s σ H Q I h => ?_⟩
  refine PySem.W.methodCall_KW (pl := pl) (thn (he.run pins s σ H _ I h) fun u s1 ⟨x, H1, I1, rx, a, dx, fs, ex, ea, l, q⟩ => ?_) ht
  subst ex
  obtain rfl : u = Value.ref a := rx
  refine getmeth_ok I1 ea c hm l ?_
  refine PySem.W.callWith_KW0 (first := [.ref a]) (h₀ := X.base) I.ok.mod.kin hm.kp hall (thn (hkw.run pos pins s1 σ H1 _ I1 q) fun ws s2 ⟨zs, H2, I2, rz, l2, q2⟩ => ⟨I2.kIn, ?_⟩) hpl
  rw [hks]
  exact run_fnN (us := [.ref a]) (vs := [.ref a]) F hr hb hx I2 (.cons rfl .nil) rz rfl l2 q2
end
end Lc
namespace Lc
open PySem PySem.Spec PyProof.Rows L2 Evl
abbrev chs (l : List Nat) : List V := l.map fun c => V.str (S [c])
/-! ### list(a text) -/
abbrev rListStr : List V → Hp → VK → Prop := fun xs H Q => ∃ l : List Nat, xs = [.str (S l)] ∧ l.length ≤ 100000 ∧ ∀ q, H q = none → Q (.ref q) (upd H q (.lst (chs l)))
theorem cr_listStr {X : Cx} (hc : X.calm = true) : CallR X (.type "list") rListStr := by
  intro pins s σ H xs us Q I r h
  obtain ⟨l, rfl, hz, q⟩ := h
  obtain ⟨u, rfl, rx⟩ := vals1 r
  obtain ⟨t, rfl⟩ := rx
  have hz2 : (chs l).length ≤ sizeLine := by
    rw [List.length_map]
    exact sz_of hz
  refine call_list_str (I.ok.hd hc) (S l) t (fun h' tk acc c' hk e hi => ?_) (sz_of (by show l.toArray.size ≤ _; simpa using hz))
  refine ⟨.ref s.heap.objs.size, upd H s.heap.objs.size (.lst (chs l)), I.laid hk (Nat.le_refl _) ⟨hz2, acc.toList, c', ?_, by rw [Array.toArray_toList]; exact e⟩, rfl, q _ (I.hok.fresh (Nat.le_refl _))⟩
  refine vals_of_idx _ _ (by rw [List.length_map, Array.length_toList, hi.1]; simp [S]) fun j u hj => ?_
  obtain ⟨c, t', hc, rfl⟩ := hi.2 j u (by rw [← Array.getElem?_toList]; exact hj)
  refine ⟨.str (S [c]), ?_, ⟨_, rfl⟩⟩
  rw [List.getElem?_map]
  have h2 : l[j]? = some c := by simpa [S] using hc
  rw [h2]
  rfl
section
variable {σ : L2.St} {H : Hp} {te : TE}
theorem el_listStr {l : List Nat} (h : Ev te σ H (.str (S l))) (hl : l.length ≤ 100000) : EvL (tCB rListStr (tCons te tNil)) σ H (chs l) := fun H1 e Q q =>
  h H1 e _ fun H2 e2 => ⟨l, rfl, hl, fun p hp => q p _ (fresh_back e2 hp) (e2.trans (Ex.new hp)) upd_same⟩
end
end Lc
namespace K57
open PySem PySem.Spec PyProof.Rows L2 Lc Evl
section
variable {P : Program} {w : World} {K : PySem.W.Frag} {mg : Str → Option Value} {base : Heap}
/-! ### steps of a drawing -/
theorem q_forRP {σ : L2.St} {H : Hp} {D : Ends} {tu tz : TS} {ta : TA} {j : Nat} (Pn : Nat → Prop) (St : Hp → Prop) (h : ∀ Q : List V → Hp → Prop, (∀ (n : Nat) H1, Pn n → n ≤ 100000 → St H1 → Q [.int (n : Int)] H1) → ta σ H Q) (Pv : Nat → L2.St → Hp → Prop) (h0 : ∀ H1, St H1 → Pv 0 σ H1)
    (hs : ∀ (n i : Nat) σ' H', Pn n → i < n → Pv i σ' H' → tu { D with nx := Pv (i + 1), ct := Pv (i + 1), bk := tz D } (σ'.set j (some (.int (i : Int)))) H') (hd : ∀ (i : Nat) σ' H', Pn i → Pv i σ' H' → tz D σ' H') : tSeq (tFor (iRng1 ta) (gName j) tu) tz D σ H :=
  h _ fun n H1 hn hm hst => ⟨(n : Int), rfl, by omega, by omega, for_range (lo := 0) (n := n) (D := { D with nx := tz D }) Pv (h0 H1 hst) (fun i σ' H' hi p => by
    have e0 : (0 : Int) + (i : Int) = (i : Int) := Int.zero_add _
    show tu { D with nx := Pv (i + 1), ct := Pv (i + 1), bk := tz D } (σ'.set j (some (.int ((0 : Int) + (i : Int))))) H'
    rw [e0]
    exact hs n i σ' H' hn hi p) fun σ' H' p => hd n σ' H' hn p⟩
theorem if_draw {σ : L2.St} {H : Hp} {r : R2} {ta tb : TE} {tu tw : TS} {D : Ends} (h : ta σ H fun x H1 => tb σ H1 fun y H2 => r x y H2 fun v H3 => ∃ c, v = .bl c ∧ (if c = true then tu D σ H3 else tw D σ H3)) : tIfS (tTest (tOp r ta tb)) tu tw D σ H := h
theorem q_ifDraw {σ : L2.St} {H : Hp} {r : R2} {ta tb : TE} {tu tz : TS} {D : Ends} (h : ta σ H fun x H1 => tb σ H1 fun y H2 => r x y H2 fun v H3 => ∃ c, v = .bl c ∧ (if c = true then tu { D with nx := tz D } σ H3 else tz D σ H3)) : tSeq (tIfS (tTest (tOp r ta tb)) tu tNext) tz D σ H := h
theorem app_to {σ : L2.St} {H : Hp} {l : Addr} {xs : List V} {i : Nat} {te : TE} {D : Ends} (hv : σ[i]? = some (some (.ref l))) (hl : H l = some (.lst xs)) (h : te σ H fun y H2 => rAppend (.ref l) [y] H2 (fun _ H1 => D.nx σ H1)) : tDrop (tBM K "list" rAppend (tVar i) (tCons te tNil)) D σ H :=
  ⟨_, hv, Or.inl ⟨rfl, xs, sq_of hl⟩, h⟩
/-! ### prices -/
/-! ### the price of a plain row -/
theorem el_mapSg {σ : L2.St} {H : Hp} {tl te : TE} {l : List Nat} {j : Nat} {vs : List Nat} (f : Nat → V) (h : Ev tl σ H (.str (S l))) (hz : l.length ≤ 40000) (hw : ∀ x, wipe ((wipe σ vs).set j (some x)) vs = wipe σ vs)
    (he : ∀ (c : Nat) H1, Ex H H1 → c ∈ l → Ev te ((wipe σ vs).set j (some (.str (S [c])))) H1 (f c)) : EvL (tLc (iStr tl) (gName j) tYes te vs) σ H (l.map f) := by
  have h2 := el_lcS (t := tYes) (te := te) (j := j) (vs := vs) (fun _ => true) (fun i => f (l.getD i 0)) h hz hw (fun i c H1 _ _ => et_yes) (fun i c H1 e hi _ => by
    have e0 : l.getD i 0 = c := by
      rw [List.getD_eq_getElem?_getD, hi]
      rfl
    rw [e0]
    exact he c H1 e (List.mem_of_getElem? hi))
  rw [given_all] at h2
  have e1 : l.map f = (List.range l.length).map fun i => f (l.getD i 0) := by
    apply List.ext_getElem
    · simp
    · intro i h1 h2
      simp at h1
      simp [h1]
  rw [e1]
  exact h2
def dab : List Nat := [46, 97, 98, 99, 100]
theorem kl_kd : ∀ c ∈ dab, decide (c ∈ kL) = decide (0 ≤ kd c) ∧ (c ∈ kL → Txt.find (S kL) (S [c]) = kd c) ∧ c ∈ SG := by decide +kernel
theorem pl_dab {l : List Nat} (h : Pl l) : ∀ c ∈ l, c ∈ dab := fun c hc => by
  rcases h c hc with h | h
  · rw [h]; decide
  · exact List.mem_cons_of_mem _ h
end
end K57
namespace Lc
open PySem PySem.Spec PyProof.Rows L2 Evl
/-! ### a sign times a number -/
theorem fold_rep (c : Nat) : ∀ (n : Nat) (a : Array Nat), (List.replicate n #[c]).foldl (· ++ ·) a = a ++ (List.replicate n c).toArray
  | 0, a => by simp
  | n + 1, a => by
    rw [List.replicate_succ, List.foldl_cons, fold_rep c n]
    rw [List.replicate_succ]
    apply Array.ext'
    simp
def rRepS : R2 := fun x y H Q => ∃ (c n : Nat), x = .str (S [c]) ∧ y = .int (n : Int) ∧ 2 ≤ n ∧ n ≤ 1000 ∧ Q (.str (S (List.replicate n c))) H
theorem op_repS {X : Cx} : OpR X (binaryOp .Mult) rRepS := by
  intro pins s σ H x y v u Q I rx ry h
  obtain ⟨c, n, rfl, rfl, h2, hm, q⟩ := h
  obtain ⟨t, rfl⟩ := rx
  obtain ⟨t', rfl⟩ := ry
  have n1 : ¬ (n : Int) < 1 := by omega
  have hne : ((n : Int) == 1 || (S [c]).length == 0) = false := by
    rw [Bool.or_eq_false_iff]
    refine ⟨?_, by rfl⟩
    rw [beq_eq_false_iff_ne]
    omega
  refine PySem.P.mul_str ?_ (fun _ _ => ?_) (fun _ _ => ?_) ?_
  · rw [Bool.or_eq_false_iff, decide_eq_false_iff_not, decide_eq_false_iff_not]
    omega
  · have hl : ((S [c]).length : Int) = 1 := rfl
    rw [hl]
    have h3 : (1 : Int) ≤ (2 ^ 63 - 1) / (n : Int) := by
      rw [Int.le_ediv_iff_mul_le (by omega)]
      omega
    omega
  · have e : (S [c]).length * (n : Int).toNat = n := by
      show 1 * (n : Int).toNat = n
      omega
    rw [e]
    unfold Builtin.Str.tooLong
    rw [decide_eq_false_iff_not]
    have : n ≤ sizeLine := sz_of (by omega)
    omega
  · rw [if_neg n1, if_neg (by rw [hne]; decide)]
    have e : (⟨(List.replicate (n : Int).toNat (S [c]).cps).foldl (· ++ ·) #[]⟩ : Str) = S (List.replicate n c) := by
      rw [Int.toNat_natCast, show (S [c]).cps = #[c] from rfl, fold_rep]
      simp [S]
    rw [e]
    exact ⟨by rw [S_len, List.length_replicate]; exact sz_of (by omega), ⟨.str (S (List.replicate n c)), H, I.tok _, ⟨_, rfl⟩, q⟩⟩
section
variable {σ : L2.St} {H : Hp}
theorem rv_repS {c n : Nat} (h2 : 2 ≤ n) (hm : n ≤ 1000) : RV rRepS (.str (S [c])) (.int (n : Int)) H (.str (S (List.replicate n c))) := fun H1 e Q q => ⟨c, n, rfl, rfl, h2, hm, q H1 (Ex.refl H1)⟩
end
end Lc
namespace K57
open PySem PySem.Spec PyProof.Rows L2 Lc Evl
section
variable {P : Program} {w : World} {K : PySem.W.Frag} {mg : Str → Option Value} {base : Heap}
/-! ### texts drawn, with a length read on the way -/
theorem bx_lcM {σ : L2.St} {H : Hp} {b : Addr} {i j n m : Nat} {al : List Nat} {ta : TA} {tal tm : TE} {Q : VK} (hj : ∀ x, ((wipe σ [j]).set j (some x))[i]? = some (some (.ref b))) (hw : ∀ x, wipe ((wipe σ [j]).set j (some x)) [j] = wipe σ [j])
    (hn : EvA ta σ H [.int (n : Int)]) (hal : ∀ x H1, Ev tal ((wipe σ [j]).set j (some x)) H1 (.str (S al))) (hm : ∀ x H1, ExB b H H1 → Ev tm ((wipe σ [j]).set j (some x)) H1 (.int (m : Int))) (hb : Bx H b) (h0 : 0 < m) (hml : m ≤ al.length) (h1 : al.length ≤ 100) (hn1 : n ≤ 1000)
    (k : ∀ (cs : List Nat) p H', cs.length = n → (∀ c ∈ cs, c ∈ al.take m) → H p = none → H' p = some (.lst (cs.map fun c => V.str (S [c]))) → ExB b H H' → Bx H' b → Q (.ref p) H') :
    tLc (iRng1 ta) (gName j) tYes (tOp rIxS tal (tCall sp_law_take [] E0 (tCons (tVar i) (tCons tm tNil)))) [j] σ H Q := by
  refine hn H (Ex.refl H) _ fun H1 e1 => ⟨(n : Int), rfl, by omega, by omega, fun D hD => ?_⟩
  have hb1 := hb.ex e1
  have hDb : D ≠ b := fun z => by
    obtain ⟨x, y, v, hx⟩ := hb1
    rw [z, hx] at hD
    cases hD
  refine lc_range (lo := 0) (n := n) (fun i H' => ∃ cs : List Nat, cs.length = i ∧ (∀ c ∈ cs, c ∈ al.take m) ∧ H' D = some (.lst (cs.map fun c => V.str (S [c]))) ∧ ExB b H1 H' ∧ Bx H' b) ⟨[], rfl, by simp, upd_same, ExB.of (Ex.new hD), hb1.ex (Ex.new hD)⟩ ?_ ?_
  · rintro u H' hu ⟨cs, rfl, hca, hDl, ep, bp'⟩
    refine ⟨hw _, ?_⟩
    refine hal _ H' H' (Ex.refl H') _ fun H2 e2 => ?_
    refine sp_take_then (b := b) (many := (m : Int)) (hj _) (bp'.ex e2) (hm _ _ (((ExB.of e1).trans ep).trans (ExB.of e2))) (by omega) (Nat.lt_of_le_of_lt (show (m : Int).natAbs ≤ 100 by omega) (by decide)) fun d H3 d0 d1 e3 b3 => ?_
    refine ⟨S al, d, al.getD d.toNat 0, rfl, rfl, sz_of (by rw [S_len]; omega), atI_i d0 (by show d < (al.length : Int); omega) 0, ?_⟩
    refine ⟨_, e3 D _ hDb (e2 _ _ hDl), Nat.lt_of_lt_of_le (show _ < 2000 by rw [List.length_map]; omega) (by decide), cs ++ [al.getD d.toNat 0], by simp, ?_, ?_, ?_, ?_⟩
    · intro c hc
      rcases List.mem_append.mp hc with hc | hc
      · exact hca c hc
      · have hc2 : c = al.getD d.toNat 0 := by simpa using hc
        rw [hc2, List.mem_take_iff_getElem]
        refine ⟨d.toNat, by omega, ?_⟩
        rw [List.getD_eq_getElem?_getD, List.getElem?_eq_getElem (by omega)]
        rfl
    · rw [upd_same, List.map_append]
      rfl
    · intro c o hc ho
      have hcD : c ≠ D := fun z => by rw [z, hD] at ho; cases ho
      rw [upd_ne hcD]
      exact e3 c o hc (e2 _ _ (ep c o hc ho))
    · obtain ⟨x, y, z, h3⟩ := b3
      exact ⟨x, y, z, by rw [upd_ne (Ne.symm hDb)]; exact h3⟩
  · rintro H' ⟨cs, hcl, hca, hDl, ep, bp'⟩
    exact k cs D H' hcl hca (fresh_back e1 hD) hDl ((ExB.of e1).trans ep) bp'
theorem bx_joinM {σ : L2.St} {H : Hp} {b : Addr} {i j n m : Nat} {al : List Nat} {ta : TA} {tal tm : TE} {Q : VK} (hj : ∀ x, ((wipe σ [j]).set j (some x))[i]? = some (some (.ref b))) (hw : ∀ x, wipe ((wipe σ [j]).set j (some x)) [j] = wipe σ [j])
    (hn : EvA ta σ H [.int (n : Int)]) (hal : ∀ x H1, Ev tal ((wipe σ [j]).set j (some x)) H1 (.str (S al))) (hm : ∀ x H1, ExB b H H1 → Ev tm ((wipe σ [j]).set j (some x)) H1 (.int (m : Int))) (hb : Bx H b) (h0 : 0 < m) (hml : m ≤ al.length) (h1 : al.length ≤ 100) (hn1 : n ≤ 1000)
    (k : ∀ (cs : List Nat) H', cs.length = n → (∀ c ∈ cs, c ∈ al.take m) → ExB b H H' → Bx H' b → Q (.str (S cs)) H') :
    tM1 (fun x xs H Q => ∃ a p, ∃ ys : List Str, x = .str a ∧ xs = [.ref p] ∧ (SqL K H p (ys.map V.str) ∨ SqT K H p (ys.map V.str)) ∧ (ys.map (·.length)).sum + ys.length * a.length ≤ 16777216 ∧ Q (.str (Txt.join a ys)) H) (tC (.str (S [])))
      (tLc (iRng1 ta) (gName j) tYes (tOp rIxS tal (tCall sp_law_take [] E0 (tCons (tVar i) (tCons tm tNil)))) [j]) σ H Q := by
  refine ⟨⟨_, rfl⟩, bx_lcM hj hw hn hal hm hb h0 hml h1 hn1 fun cs p H' hl hc hp h2 e b2 => ?_⟩
  refine ⟨S [], p, cs.map fun c => S [c], rfl, rfl, .inl (SqL.of (by rw [List.map_map]; exact h2)), join_sz _ (by omega), ?_⟩
  rw [join_S]
  exact k cs H' hl hc e b2
/-! ### a jump drawn -/
theorem q_ifTruDraw {σ : L2.St} {H : Hp} {i : Nat} {r : Addr} {xs : List V} {u : TT} {tu tz : TS} {D : Ends} (hv : σ[i]? = some (some (.ref r))) (hr : H r = some (.lst xs)) (h1 : xs ≠ [] → u σ H fun c H3 => if c = true then tu { D with nx := tz D } σ H3 else tz D σ H3) (h2 : xs = [] → tz D σ H) : tSeq (tIfS (tAnd (fun σ H Q => tVar i σ H fun x H' => ∃ k, TruV K x H' k ∧ Q k H') u) tu tNext) tz D σ H := by
  refine ⟨_, hv, _, .inl ⟨xs, sq_of hr, rfl⟩, ?_⟩
  cases xs with
  | nil => exact h2 rfl
  | cons a r => exact h1 (by simp)
theorem s_ifTruDraw {σ : L2.St} {H : Hp} {i : Nat} {r : Addr} {xs : List V} {u : TT} {tu : TS} {D : Ends} (hv : σ[i]? = some (some (.ref r))) (hr : H r = some (.lst xs)) (h1 : xs ≠ [] → u σ H fun c H3 => if c = true then tu D σ H3 else D.nx σ H3) (h2 : xs = [] → D.nx σ H) : tIfS (tAnd (fun σ H Q => tVar i σ H fun x H' => ∃ k, TruV K x H' k ∧ Q k H') u) tu tNext D σ H := by
  refine ⟨_, hv, _, .inl ⟨xs, sq_of hr, rfl⟩, ?_⟩
  cases xs with
  | nil => exact h2 rfl
  | cons a r => exact h1 (by simp)
theorem t_draw {σ : L2.St} {H : Hp} {r : R2} {ta tb : TE} {Q : Bool → Hp → Prop} (h : ta σ H fun x H1 => tb σ H1 fun y H2 => r x y H2 fun v H3 => ∃ c, v = .bl c ∧ Q c H3) : tTest (tOp r ta tb) σ H Q := h
def JOk (ps : List Int) (x : Jm) : Prop := VJ x ∧ Fits ps.length ps x
def COk (n : Nat) (cs : List Nat) : Prop := (cs.length = 2 ∨ cs.length = 3) ∧ (∀ c ∈ cs, c ∈ kL) ∧ ∀ c ∈ cs, kd c < (n : Int)
theorem cok_of {ps : List Int} {x : Jm} (h : JOk ps x) : ∃ cs, x.1 = cs ++ [46] ∧ COk ps.length cs := by
  obtain ⟨hv, hf, _⟩ := h
  obtain ⟨_, h2, _, h4, _, h6, _⟩ := isJ_iff.mp hv
  obtain ⟨b, a, z⟩ := x
  dsimp only at h2 h4 h6 hf
  have hb : b = b.take (b.length - 1) ++ [46] := by
    have hl : b.length - 1 < b.length := by omega
    conv => lhs; rw [← List.take_append_drop (b.length - 1) b]
    congr 1
    rw [List.drop_eq_getElem_cons hl]
    rw [List.getD_eq_getElem?_getD, List.getElem?_eq_getElem hl] at h4
    have h5 : b[b.length - 1] = 46 := h4
    rw [h5, List.drop_of_length_le (by omega)]
  exact ⟨b.take (b.length - 1), hb, by rw [List.length_take]; omega, h6, fun c hc => hf c (List.mem_append_left _ (List.mem_of_mem_take hc))⟩
theorem wof_app (ps : List Int) (a b : List Nat) : wof ps (a ++ b) = wof ps a + wof ps b := by
  unfold wof
  rw [List.filter_append, List.map_append, List.sum_append]
theorem wof_46 (ps : List Int) : ∀ l : List Nat, (∀ c ∈ l, c = 46) → wof ps l = 0
  | [], _ => rfl
  | c :: r, h => by
    have h1 : c = 46 := h c List.mem_cons_self
    have h2 := wof_46 ps r fun x hx => h x (List.mem_cons_of_mem _ hx)
    subst h1
    unfold wof at h2 ⊢
    rw [List.filter_cons_of_neg (by decide)]
    exact h2
theorem wof_ge {ps : List Int} (hp : OkP ps) : ∀ cs : List Nat, (∀ c ∈ cs, c ∈ kL) → (∀ c ∈ cs, kd c < (ps.length : Int)) → (cs.length : Int) ≤ wof ps cs
  | [], _, _ => Int.le_refl 0
  | c :: r, h, hk => by
    have h2 := wof_ge hp r (fun x hx => h x (List.mem_cons_of_mem _ hx)) fun x hx => hk x (List.mem_cons_of_mem _ hx)
    have hc := h c List.mem_cons_self
    have hc0 : 0 ≤ kd c := of_decide_eq_true ((kl_kd c (List.mem_cons_of_mem _ hc)).1 ▸ decide_eq_true hc)
    have hlt := hk c List.mem_cons_self
    have e : wof ps (c :: r) = ps.getD (kd c).toNat 0 + wof ps r := by
      unfold wof
      rw [List.filter_cons_of_pos (by exact decide_eq_true hc0), List.map_cons, List.sum_cons]
    have hm : 1 ≤ ps.getD (kd c).toNat 0 := by
      rw [List.getD_eq_getElem?_getD, List.getElem?_eq_getElem (by omega)]
      exact (hp.2.2 _ (List.getElem_mem _)).1
    rw [e, List.length_cons]
    omega
def Lw (ps : List Int) (cs ds : List Nat) (k : Nat) : Prop := wof ps (46 :: ds) < wof ps (cs ++ [46]) ∨ ∀ i, cs.length - k ≤ i → ds.getD i 46 = 46
theorem lw_step {ps : List Int} {cs ds : List Nat} {k : Nat} (hl : ds.length = cs.length) (hk : k < cs.length) (h : Lw ps cs ds k) (hw : ¬ wof ps (46 :: ds) < wof ps (cs ++ [46])) : Lw ps cs (ds.set (cs.length - k - 1) 46) (k + 1) := .inr fun i hi => by
  rcases h with h | h
  · exact absurd h hw
  · rw [List.getD_eq_getElem?_getD]
    by_cases e : cs.length - k - 1 = i
    · subst e
      rw [List.getElem?_set_self (by omega)]
      rfl
    · rw [List.getElem?_set_ne e, ← List.getD_eq_getElem?_getD]
      exact h i (by omega)
theorem lw_end {ps : List Int} {cs ds : List Nat} (hp : OkP ps) (hc : COk ps.length cs) (hl : ds.length = cs.length) (h : Lw ps cs ds cs.length) : wof ps (46 :: ds) < wof ps (cs ++ [46]) := by
  rcases h with h | h
  · exact h
  · have h0 : wof ps (46 :: ds) = 0 := wof_46 ps _ fun c hcm => by
      rcases List.mem_cons.mp hcm with hcm | hcm
      · exact hcm
      · obtain ⟨i, hi, rfl⟩ := List.getElem_of_mem hcm
        have := h i (by omega)
        rw [List.getD_eq_getElem?_getD, List.getElem?_eq_getElem hi] at this
        exact this
    have h1 := wof_ge hp cs hc.2.1 hc.2.2
    have h2 : wof ps [46] = 0 := wof_46 ps _ fun c hc => List.mem_singleton.mp hc
    rw [wof_app, h2, h0]
    have := hc.1
    omega
theorem jok_mk {ps : List Int} {cs ds : List Nat} {z : Str} (hc : COk ps.length cs) (hl : ds.length = cs.length) (hd : ∀ c ∈ ds, c ∈ 46 :: kL) (hk : ∀ c ∈ ds, kd c < (ps.length : Int)) (hz : z ∈ wys) (hw : wof ps (46 :: ds) < wof ps (cs ++ [46])) : JOk ps (cs ++ [46], 46 :: ds, z) := by
  refine ⟨good_isJ hc.2.1 hd hz hc.1 hl, fun c h => ?_, hw⟩
  have k46 : kd 46 < (ps.length : Int) := by rw [kd_46]; omega
  dsimp only at h
  rcases List.mem_append.mp h with h | h
  · rcases List.mem_append.mp h with h | h
    · exact hc.2.2 c h
    · rw [List.mem_singleton.mp h]
      exact k46
  · rcases List.mem_cons.mp h with h | h
    · rw [h]
      exact k46
    · exact hk c h
def J0 (b p r : Addr) (H : Hp) (σ : L2.St) (H' : Hp) : Prop := ExB b H H' ∧ Bx H' b ∧ ∃ m : Nat, (m = 2 ∨ m = 3) ∧ σ = [some (.ref b), some (.ref p), some (.ref r), some (.int ((m : Int) + 1)), none, none, none]
def J1 (b p r : Addr) (n : Nat) (H : Hp) (σ : L2.St) (H' : Hp) : Prop := ExB b H H' ∧ Bx H' b ∧ ∃ (m : Nat) (cs : List Nat), (m = 2 ∨ m = 3) ∧ COk n cs ∧ σ = [some (.ref b), some (.ref p), some (.ref r), some (.int ((m : Int) + 1)), some (.str (S (cs ++ [46]))), none, none]
theorem kl_take {n : Nat} (h : n ≤ 4) : ∀ c ∈ kL.take n, c ∈ kL ∧ kd c < (n : Int) := fun c hc => ⟨List.mem_of_mem_take hc, kn_kL n h c hc⟩
end
end K57
namespace K57
open PySem PySem.Spec PyProof.Rows L2 Lc Evl
section
variable {P : Program} {w : World} {K : PySem.W.Frag} {mg : Str → Option Value} {base : Heap}
/-! ### jumps drawn -/
theorem rv_notinRws {H : Hp} {q : Addr × Jm} {p : Addr} {L : List (Addr × Jm)} (hq : TJ H q) (h : Rws H p L) : RV (rNotInD K) (.ref q.1) (.ref p) H (.bl (!decide (q.2 ∈ L.map (·.2)))) := fun H1 e Q k =>
  ⟨_, _, dp_TJ (hq.n (ExN.of e)), dp_Rws (h.ex e), by
    have h1 := dJ_lay hq.2
    have h2 := dJ_depth q.2
    unfold SeqAt.shaped
    rw [Bool.and_eq_true]
    exact ⟨h1, decide_eq_true (by omega)⟩, sh_Rws h, by rw [any_eqv dJ_iff]; exact k H1 (Ex.refl H1)⟩
def JM (b p : Addr) (H : Hp) (σ : L2.St) (H' : Hp) : Prop := ExB b H H' ∧ Bx H' b ∧ ∃ m : Int, 0 ≤ m ∧ m ≤ 12 ∧ σ = [some (.ref b), some (.ref p), some (.int m), none, none, none]
theorem many8 {u : Int} (u0 : 0 ≤ u) (u1 : u < 8) : ∃ r : Int, (0 ≤ r ∧ r ≤ 4) ∧ atI [V.int 1, V.int 1, V.int 2, V.int 2, V.int 3, V.int 3, V.int 4, V.int 0] u = some (.int r) := by
  have h4 : u = 0 ∨ u = 1 ∨ u = 2 ∨ u = 3 ∨ u = 4 ∨ u = 5 ∨ u = 6 ∨ u = 7 := by omega
  rcases h4 with rfl | rfl | rfl | rfl | rfl | rfl | rfl | rfl
  · exact ⟨1, by decide, rfl⟩
  · exact ⟨1, by decide, rfl⟩
  · exact ⟨2, by decide, rfl⟩
  · exact ⟨2, by decide, rfl⟩
  · exact ⟨3, by decide, rfl⟩
  · exact ⟨3, by decide, rfl⟩
  · exact ⟨4, by decide, rfl⟩
  · exact ⟨0, by decide, rfl⟩
/-! ### windows -/
/-- the inner loop: new windows put behind -/
theorem inner2 {σ : L2.St} {H : Hp} {D : Ends} {p wp : Addr} {M : List (Addr × Pr2)} {x : Jm} {a b c0 c : Option V} (hp : Pws H p M) (hw : Wins H wp (winsJ x)) (hx : VJ x) (hn : wp ≠ p) (hz : M.length ≤ 1000) (s0 : σ = [a, some (.ref p), b, c0, c])
    (k : ∀ H' M' c', ExB p H H' → Pws H' p M' → M'.length ≤ M.length + 2 → M'.map (·.2) = (winsJ x).foldl addP (M.map (·.2)) → D.nx [a, some (.ref p), b, c0, c'] H') :
    tFor (iList K (tC (.ref wp))) (gName 4) (tIfS (tTest (tOp (rNotInD K) (tVar 4) (tVar 1))) (tDrop (tBM K "list" rAppend (tVar 1) (tCons (tVar 4) tNil))) tNext) D σ H := by
  subst s0
  obtain ⟨ts, hts, htp⟩ := hw
  obtain ⟨hl, hat⟩ := tps_at htp
  have h2 := wins_le x
  refine s_forLn (a := wp) (xs := ts.map V.ref) ev_c (sq_of hts) (fun i σ' H' => ∃ M' c', σ' = [a, some (.ref p), b, c0, c'] ∧ ExB p H H' ∧ Pws H' p M' ∧ M'.length ≤ M.length + i ∧ M'.map (·.2) = ((winsJ x).take i).foldl addP (M.map (·.2))) (fun H1 e1 => ⟨M, c, rfl, ExB.of e1, hp.ex e1, by omega, rfl⟩) ?_ ?_ ?_
  · rintro i σ' H' _ ⟨M', c', rfl, e, _⟩
    exact sq_of (e wp _ hn hts)
  · rintro i v σ' H' hi ⟨M', c', rfl, e, hp', hz', hm⟩
    rw [List.getElem?_map] at hi
    cases ht : ts[i]? with
    | none =>
      rw [ht] at hi
      cases hi
    | some t =>
      rw [ht] at hi
      cases hi
      have hil : i < (winsJ x).length := by
        rw [← hl]
        by_cases hh : i < ts.length
        · exact hh
        · rw [List.getElem?_eq_none (by omega)] at ht
          cases ht
      have hwx : (winsJ x)[i]? = some (winsJ x)[i] := List.getElem?_eq_getElem hil
      generalize (winsJ x)[i] = w at hwx
      have h0 := hat i t w ht hwx
      have htp' : t ≠ p := ne_lt h0 hp.1
      have hTP : TP H' (t, w) := ⟨e t _ htp' h0, low_wins hx (List.mem_of_getElem? hwx)⟩
      have hfold := foldl_take addP (M.map (·.2)) (winsJ x) hwx
      rw [← hm] at hfold
      refine s_when (b := !decide (w ∈ M'.map (·.2))) (et_test (ev_op (ev_var rfl) (ev_var rfl) (rv_notInPws (q := (t, w)) hTP hp'))) (fun hb H1 e1 => ?_) (fun hb H1 e1 => ?_)
      · have hnot : w ∉ M'.map (·.2) := by simpa using hb
        have hp1 := hp'.ex e1
        refine s_app hp1.1 (ev_var rfl) (ev_var rfl) (by rw [List.length_map]; omega) fun H2 e2 => ?_
        have hp2 := hp1.ex e2
        refine ⟨M' ++ [(t, w)], _, rfl, (e.trans (ExB.of (e1.trans e2))).trans ExB.upd, ⟨by rw [upd_same, List.map_append]; rfl, fun q hq => ?_⟩, by rw [List.length_append]; simp; omega, ?_⟩
        · rcases List.mem_append.mp hq with hq | hq
          · exact (hp2.2 q hq).n (ExN.upd hp2.1)
          · rw [List.mem_singleton.mp hq]
            exact hTP.n ((ExN.of (e1.trans e2)).trans (ExN.upd hp2.1))
        · rw [hfold, List.map_append]
          unfold addP
          rw [if_neg hnot]
          rfl
      · have hin : w ∈ M'.map (·.2) := by simpa using hb
        refine ⟨M', _, rfl, e.trans (ExB.of e1), hp'.ex e1, by omega, ?_⟩
        rw [hfold]
        unfold addP
        rw [if_pos hin]
  · rintro σ' H' ⟨M', c', rfl, e, hp', hz', hm⟩
    rw [List.length_map, hl] at hz' hm
    rw [List.take_length] at hm
    exact k H' M' c' e hp' (by omega) hm
theorem tps_app {H : Hp} : ∀ {ts : List Addr} {ws : List Pr2} {t : Addr} {w : Pr2}, Tps H ts ws → H t = some (.tup [.str (S w.1), .str (S w.2)]) → Tps H (ts ++ [t]) (ws ++ [w])
  | [], [], t, w, _, h => ⟨h, trivial⟩
  | a :: ts, x :: ws, t, w, h, h2 => ⟨h.1, tps_app h.2 h2⟩
  | [], _ :: _, _, _, h, _ => h.elim
  | _ :: _, [], _, _, h, _ => h.elim
theorem tps_keep {H H' : Hp} (k : ∀ (a : Addr) (o : List V), H a = some (.tup o) → H' a = some (.tup o)) : ∀ {ts : List Addr} {ws : List Pr2}, Tps H ts ws → Tps H' ts ws
  | [], [], _ => trivial
  | a :: ts, x :: ws, h => ⟨k _ _ h.1, tps_keep k h.2⟩
  | [], _ :: _, h => h.elim
  | _ :: _, [], h => h.elim
theorem Wins.ex {H H' : Hp} {p : Addr} {ws : List Pr2} (h : Wins H p ws) (e : Ex H H') : Wins H' p ws := by
  obtain ⟨ts, h1, h2⟩ := h
  exact ⟨ts, e _ _ h1, tps_keep (fun a o => e a _) h2⟩
theorem s_appW {σ : L2.St} {H : Hp} {D : Ends} {i : Nat} {t1 t2 : TE} {p : Addr} {ws : List Pr2} {w : Pr2} (hv : σ[i]? = some (some (.ref p))) (h : Wins H p ws) (hz : ws.length ≤ 10) (h1 : ∀ H1, Ex H H1 → Ev t1 σ H1 (.str (S w.1))) (h2 : ∀ H1, Ex H H1 → Ev t2 σ H1 (.str (S w.2)))
    (k : ∀ H', ExB p H H' → Wins H' p (ws ++ [w]) → D.nx σ H') : tDrop (tBM K "list" rAppend (tVar i) (tCons (tTup (tCons t1 (tCons t2 tNil))) tNil)) D σ H := by
  obtain ⟨ts, hl, ht⟩ := h
  have hlen := (tps_at ht).1
  refine s_appU hl (ev_var hv) (eu_tup (ea_cons (h1 H (Ex.refl H)) (ea_cons (h2 H (Ex.refl H)) ea_nil)) (by simp)) (by rw [List.length_map]; omega) fun t H3 _ e3 h3 => ?_
  have hp3 := e3 _ _ hl
  refine k _ ((ExB.of e3).trans ExB.upd) ⟨ts ++ [t], by rw [upd_same, List.map_append]; rfl, tps_app (tps_keep (fun a o ha => ?_) ht) ?_⟩
  · have ha3 := e3 _ _ ha
    rw [upd_ne (ne_lt ha3 hp3)]
    exact ha3
  · rw [upd_ne (ne_lt h3 hp3)]
    exact h3
end
end K57
namespace K57
open PySem PySem.Spec PyProof.Rows L2 Lc Evl
section
variable {P : Program} {w : World} {K : PySem.W.Frag} {mg : Str → Option Value} {base : Heap}
/-! ### the law's windows -/
theorem Pws.exL {H H' : Hp} {p wp : Addr} {M : List (Addr × Pr2)} {xs : List V} (h : Pws H p M) (hw : H wp = some (.lst xs)) (n : p ≠ wp) (e : ExB wp H H') : Pws H' p M := ⟨e _ _ n h.1, fun q hq => ⟨e _ _ (ne_lt (h.2 q hq).1 hw) (h.2 q hq).1, (h.2 q hq).2⟩⟩
theorem Tri.exL {H H' : Hp} {t wp : Addr} {b a : List Nat} {z : Str} {xs : List V} (h : Tri H t b a z) (hw : H wp = some (.lst xs)) (e : ExB wp H H') : Tri H' t b a z := e _ _ (ne_lt h hw) h
/-! ### the card -/
theorem make_cardA {H : Hp} {t t2 : Bool} {p r : Addr} {ps : List Int} {L : List (Addr × Jm)} {E : XK} {Q : Addr → Hp → Prop} (hs : H p = some (cT t (ps.map V.int))) (hj : H r = some (cT t2 (L.map fun q => V.ref q.1)) ∧ ∀ q ∈ L, TI K H q) (h1 : ps.length ≤ 1000) (h2 : L.length ≤ 1000)
    (q1 : wrg ps (L.map (·.2)) = "" → ∀ c H', H c = none → Ex H H' → IsC K H' c ps (L.map (·.2)) → Q c H') (q2 : wrg ps (L.map (·.2)) ≠ "" → BadC K "InvalidCard" "part" H E (.str (wrg ps (L.map (·.2))))) :
    ∀ x dx, H x = none → H dx = none → dx ≠ x → sp_Card_init K [.ref x, .ref p, .ref r] (upd (upd H dx (.own x)) x (.ins (cC K) dx [])) (fun v H2 => v = .non ∧ Q x H2) E := fun x dx hx hd hdx => by
  have e1 : Ex H (upd (upd H dx (.own x)) x (.ins (cC K) dx [])) := (Ex.new hd).trans (Ex.new (by rw [upd_ne (Ne.symm hdx)]; exact hx))
  refine ⟨x, dx, p, r, t, t2, ps, L, rfl, upd_same, e1 _ _ hs, ⟨e1 _ _ hj.1, fun q hq => (hj.2 q hq).ex e1⟩, h1, h2, fun hw H' eb hc => ⟨rfl, q1 hw x H' hx ?_ hc⟩, fun hw => (q2 hw).ex e1⟩
  intro c o ho
  exact eb c o (fun z => by rw [z, hx] at ho; cases ho) (e1 c o ho)
def sp_law_card (K : PySem.W.Frag) : Sp := fun vs H Q _ => ∃ (p r : Addr) (ps : List Int) (L : List (Addr × Jm)), vs = [.ref p, .ref r] ∧ H p = some (.lst (ps.map V.int)) ∧ Rws H r L ∧ OkP ps ∧ OkG ps (L.map (·.2)) ∧
  ∀ c H', H c = none → Ex H H' → IsC K H' c ps (L.map (·.2)) → Q (.ref c) H'
theorem ok_law_card (T : Tx K mg w) : OkD P w K mg base 9 d_law_card ps_law_card (sp_law_card K) := by
  refine (h_law_card T).ok sc_law_card (fun vs H Q E h => ?_) (fun cdv A outer s H vs Q E hr h => ⟨_,
      (pss_one (ps_ret (pe_make (mk_Card T) (ok_Card_init (P := P) (w := w) (base := base) T) (hr.mono (by decide)) (by rfl) (m_Card T) (b_Card_init T) .nil passN (pa_cons (pe_callTy (show CallR _ (.type "list") (rListOf K) from call_list_of) (by rfl) (m_list T) (by decide +kernel) (pa_cons (pv 0) pa_nil)) (pa_cons (pe_lc (own := [("jump", 2)]) (g := gName 2) rfl sc_law_card.nd (pi_list (pv 1)) (blkOk_by (own := [("jump", 2)]) (N := ns_law_card) (sc := (defScope st_law_card)) (by decide +kernel)) (fun _ _ _ _ _ => pg_name (i := 2) sc_law_card.nd rfl (Or.inl rfl)) (fun _ _ _ _ _ => pts_nil) (fun _ _ _ _ _ => (pe_make (mk_Jump T) (ok_Jump_init (P := P) (w := w) (base := base) T) (hr.mono (by decide)) (by rfl) (m_Jump T) (b_Jump_init T) .nil passN (pa_cons (pe_ix (show IxR _ (rIxT K) from ix_tup) (pv 2) pe_int (fun _ _ => rfl)) (pa_cons (pe_ix (show IxR _ (rIxT K) from ix_tup) (pv 2) pe_int (fun _ _ => rfl)) (pa_cons (pe_ix (show IxR _ (rIxT K) from ix_tup) (pv 2) pe_int (fun _ _ => rfl)) pa_nil)))))) pa_nil))))), ?_⟩)
  · obtain ⟨p, r, ps, L, rfl, _⟩ := h
    rfl
  · obtain ⟨p, r, ps, L, rfl, hp, hr, hok, hg, q⟩ := h
    have hl : L.length ≤ 12 := by
      have := hg.1
      rwa [List.length_map] at this
    have hpl := hok.2.1
    refine Lc.ret_fst ?_
    refine Lc.cons_fst (el_listOf (by exact ev_var rfl) (.inl (sq_of hp)) H (Ex.refl H) _ fun w H1 hw e1 h1 => ?_)
    refine Lc.cons_fst ?_
    refine og_L (R := RTI K (L.map (·.2))) keep_RTI (by exact ev_var rfl) (sq_of (hr.ex e1).1) (by rw [List.length_map]; omega) (fun x => rfl) (fun i v H2 e2 hi Q1 q1 => ?_) fun ys j H2 hly hR hj e2 h2 => ?_
    · obtain ⟨⟨t, b, a, z⟩, hq1, hq2, rfl⟩ := ref_at hi
      obtain ⟨ht, hV⟩ := ((hr.ex e1).2 _ hq2).n (ExN.of e2)
      dsimp only at ht hV ⊢
      exact ev_make hV (ev_t0 (te := tVar 2) (ev_var rfl) ht) (ev_t1 (te := tVar 2) (ev_var rfl) ht) (ev_t2 (te := tVar 2) (ev_var rfl) ht) H2 (Ex.refl H2) Q1 fun p H3 hp e3 hj => q1 _ H3 e3 fun x hx => by
        have e0 := snd_at hq1 hx
        subst e0
        exact ⟨p, rfl, hj, hV⟩
    · rw [List.length_map] at hly
      obtain ⟨N, rfl, hN, hT⟩ := objs_of (T := TI K H2) ys (L.map (·.2)) (by rw [List.length_map]; exact hly) fun k y x hy hx => hR k y hy x hx
      have hNl : N.length = L.length := by
        have := congrArg List.length hN
        rwa [List.length_map, List.length_map] at this
      refine make_cardA (t := false) (t2 := false) (ps := ps) (L := N) (e2 _ _ h1) ⟨h2, hT⟩ (by omega) (by omega) (fun _ c H3 hc e3 hC => ?_) (fun hn => ?_)
      · rw [hN] at hC
        exact q c H3 (fresh_back (e1.trans e2) hc) ((e1.trans e2).trans e3) hC
      · rw [hN] at hn
        exact absurd (wrg_o hok hg) hn
end
end K57
namespace Lc
open PySem PySem.Spec PyProof.Rows L2 Evl
section
variable {K : PySem.W.Frag} {σ : L2.St} {H H' : Hp} {te : TE} {b : Addr}
/-! ### signs drawn, joined -/
def EvC (b : Addr) (te : TE) (σ : L2.St) (Pc : Nat → Prop) : Prop := ∀ H1, Bx H1 b → ∀ Q : VK, (∀ c H2, Pc c → ExB b H1 H2 → Bx H2 b → Q (.str (S [c])) H2) → te σ H1 Q
/-- a sign of a text, its place drawn -/
theorem ec_ix {ta tb : TE} {al : List Nat} {Pd : Int → Prop} (ha : ∀ H1, Ev ta σ H1 (.str (S al))) (hb : EvI b tb σ Pd) (hl : al.length ≤ 1000) (hp : ∀ d, Pd d → 0 ≤ d ∧ d < (al.length : Int)) : EvC b (tOp rIxS ta tb) σ (· ∈ al) := fun H1 b1 Q q =>
  ha H1 H1 (Ex.refl H1) _ fun H2 e2 => hb H2 (b1.ex e2) _ fun d H3 hd e3 b3 => by
    obtain ⟨d0, d1⟩ := hp d hd
    refine ⟨S al, d, al.getD d.toNat 0, rfl, rfl, sz_of (by rw [S_len]; omega), atI_i d0 d1 0, ?_⟩
    exact q _ H3 (getD_in (by omega)) ((ExB.of e2).trans e3) b3
theorem bx_lcC {j n : Nat} {vs : List Nat} {ta : TA} {Pc : Nat → Prop} {Q : VK} (hw : ∀ x, wipe ((wipe σ vs).set j (some x)) vs = wipe σ vs) (hn : EvA ta σ H [.int (n : Int)]) (he : ∀ x, EvC b te ((wipe σ vs).set j (some x)) Pc) (hb : Bx H b) (hn1 : n ≤ 1000)
    (k : ∀ (cs : List Nat) p H', cs.length = n → (∀ c ∈ cs, Pc c) → H p = none → H' p = some (.lst (cs.map fun c => V.str (S [c]))) → ExB b H H' → Bx H' b → Q (.ref p) H') :
    tLc (iRng1 ta) (gName j) tYes te vs σ H Q := by
  refine hn H (Ex.refl H) _ fun H1 e1 => ⟨(n : Int), rfl, by omega, by omega, fun D hD => ?_⟩
  have hb1 := hb.ex e1
  have hDb : D ≠ b := bx_ne hb1 hD
  refine lc_range (lo := 0) (n := n) (fun i H' => ∃ cs : List Nat, cs.length = i ∧ (∀ c ∈ cs, Pc c) ∧ H' D = some (.lst (cs.map fun c => V.str (S [c]))) ∧ ExB b H1 H' ∧ Bx H' b) ⟨[], rfl, by simp, upd_same, ExB.of (Ex.new hD), hb1.ex (Ex.new hD)⟩ ?_ ?_
  · rintro u H' hu ⟨cs, rfl, hca, hDl, ep, bp'⟩
    refine ⟨hw _, ?_⟩
    refine he _ H' bp' _ fun c H3 hc e3 b3 => ?_
    refine ⟨_, e3 D _ hDb hDl, Nat.lt_of_lt_of_le (show _ < 2000 by rw [List.length_map]; omega) (by decide), cs ++ [c], by simp, ?_, ?_, ?_, ?_⟩
    · intro d hd
      rcases List.mem_append.mp hd with hd | hd
      · exact hca d hd
      · rw [List.mem_singleton.mp hd]
        exact hc
    · rw [upd_same, List.map_append]
      rfl
    · exact (ep.trans e3).mut hD
    · exact b3.put2 hDb
  · rintro H' ⟨cs, hcl, hca, hDl, ep, bp'⟩
    exact k cs D H' hcl hca (fresh_back e1 hD) hDl ((ExB.of e1).trans ep) bp'
theorem bx_joinC {j n : Nat} {vs : List Nat} {ta : TA} {Pc : Nat → Prop} {Q : VK} (hw : ∀ x, wipe ((wipe σ vs).set j (some x)) vs = wipe σ vs) (hn : EvA ta σ H [.int (n : Int)]) (he : ∀ x, EvC b te ((wipe σ vs).set j (some x)) Pc) (hb : Bx H b) (hn1 : n ≤ 1000)
    (k : ∀ (cs : List Nat) H', cs.length = n → (∀ c ∈ cs, Pc c) → ExB b H H' → Bx H' b → Q (.str (S cs)) H') :
    tM1 (fun x xs H Q => ∃ a p, ∃ ys : List Str, x = .str a ∧ xs = [.ref p] ∧ (SqL K H p (ys.map V.str) ∨ SqT K H p (ys.map V.str)) ∧ (ys.map (·.length)).sum + ys.length * a.length ≤ 16777216 ∧ Q (.str (Txt.join a ys)) H) (tC (.str (S [])))
      (tLc (iRng1 ta) (gName j) tYes te vs) σ H Q := by
  refine ⟨⟨_, rfl⟩, bx_lcC hw hn he hb hn1 fun cs p H' hl hc hp h2 e b2 => ?_⟩
  refine ⟨S [], p, cs.map fun c => S [c], rfl, rfl, .inl (SqL.of (by rw [List.map_map]; exact h2)), join_sz _ (by omega), ?_⟩
  rw [join_S]
  exact k cs H' hl hc e b2
/-! ### numbers drawn along a text, a new row -/
theorem rb_S {Pd : Int → Prop} {l : List Nat} {tl : TE} {j : Nat} {vs : List Nat} (h : ∀ H1, Ev tl σ H1 (.str (S l))) (hz : l.length ≤ 40000) (hw : ∀ x, wipe ((wipe σ vs).set j (some x)) vs = wipe σ vs)
    (he : ∀ x, EvI b te ((wipe σ vs).set j (some x)) Pd) : EvRB b (tLc (iStr tl) (gName j) tYes te vs) σ H fun row => row.length = l.length ∧ ∀ x ∈ row, Pd x := fun H0 e0 b0 Q q => h H0 H0 (Ex.refl H0) _ fun H1 e1 => ⟨S l, rfl, fun Dl hD => by
  have b1 := b0.ex e1
  have hDb : Dl ≠ b := bx_ne b1 hD
  refine ⟨fun i m H' => m = l.length - i ∧ i ≤ l.length ∧ ∃ row : List Int, row.length = i ∧ (∀ x ∈ row, Pd x) ∧ H' Dl = some (.lst (row.map V.int)) ∧ ExB b H1 H' ∧ Bx H' b, ⟨l.length, by simp, Nat.zero_le _, [], rfl, by simp, upd_same, ExB.of (Ex.new hD), b1.ex (Ex.new hD)⟩, ?_⟩
  rintro i m H' ⟨rfl, hi, row, rfl, hrow, hDl, ep, bp⟩
  by_cases hlt : row.length < l.length
  · refine .inr ⟨by show row.length < (S l).cps.size; rw [its_sz]; exact hlt, fun H2 => row.length + 1 ≤ l.length ∧ ∃ row' : List Int, row'.length = row.length + 1 ∧ (∀ x ∈ row', Pd x) ∧ H2 Dl = some (.lst (row'.map V.int)) ∧ ExB b H1 H2 ∧ Bx H2 b, fun H2 p2 => ⟨l.length - (row.length + 1), by omega, rfl, p2.1, p2.2⟩, fun x H2 hy => ?_⟩
    obtain ⟨rfl, c, hc, rfl⟩ := hy
    refine ⟨hw _, ?_⟩
    show te _ H2 fun y H4 => _
    refine he _ H2 bp _ fun d H4 hd e4 b4 => ⟨row.map V.int, e4 _ _ hDb hDl, sz_lt (by rw [List.length_map]; omega), hlt, row ++ [d], by simp, fun x hx => ?_, by rw [upd_same, List.map_append]; rfl, (ep.trans e4).mut hD, b4.put2 hDb⟩
    rcases List.mem_append.mp hx with hx | hx
    · exact hrow x hx
    · rw [List.mem_singleton.mp hx]
      exact hd
  · exact .inl ⟨by show (S l).cps.size ≤ row.length; rw [its_sz]; omega, q Dl row H' (fresh_back e1 hD) ((ExB.of e1).trans ep) bp hDl ⟨by omega, hrow⟩⟩⟩
/-! ### either rule -/
theorem ix_or {X : Cx} {r1 r2 : R2} (h1 : IxR X r1) (h2 : IxR X r2) : IxR X fun x y H Q => r1 x y H Q ∨ r2 x y H Q := fun value slice pins s σ H x y v u Q I rx ry h hs => by
  rcases h with h | h
  · exact h1 value slice pins s σ H x y v u Q I rx ry h hs
  · exact h2 value slice pins s σ H x y v u Q I rx ry h hs
theorem call_or {X : Cx} {f : Value} {r1 r2 : List V → Hp → VK → Prop} (h1 : CallR X f r1) (h2 : CallR X f r2) : CallR X f fun xs H Q => r1 xs H Q ∨ r2 xs H Q := fun pins s σ H xs us Q I rx h => by
  rcases h with h | h
  · exact h1 pins s σ H xs us Q I rx h
  · exact h2 pins s σ H xs us Q I rx h
end
end Lc
namespace K57
open PySem PySem.Spec PyProof.Rows L2 Lc Evl
section
variable {P : Program} {w : World} {K : PySem.W.Frag} {mg : Str → Option Value} {base : Heap}
theorem mem_set {l : List Nat} {i x c : Nat} (h : c ∈ l.set i x) : c = x ∨ c ∈ l := by
  rcases List.mem_or_eq_of_mem_set h with h | h
  · exact .inr h
  · exact .inl h
/-! ### the law's jumps -/
def sp_law_worth (K : PySem.W.Frag) : Sp := fun vs H Q _ => ∃ (p : Addr) (ps : List Int) (l : List Nat), vs = [.ref p, .str (S l)] ∧ SqL K H p (ps.map V.int) ∧ ps.length ≤ 4 ∧ l.length ≤ 1000 ∧ Pl l ∧ Kn ps.length l ∧ RetV (.int (wof ps l)) H Q
theorem ok_law_worth (T : Tx K mg w) : OkD P w K mg base 2 d_law_worth ps_law_worth (sp_law_worth K) := by
  refine (h_law_worth T).ok sc_law_worth (fun vs H Q E h => ?_) (fun cdv A outer s H vs Q E hr h => ⟨_,
      (pss_one (ps_ret (pe_callB (cr_sum rfl) (by rfl) (m_sum T) (by decide +kernel) (pa_cons (pe_lc (own := [("sign", 2)]) (g := gName 2) rfl sc_law_worth.nd (pi_str (pv 1)) (blkOk_by (own := [("sign", 2)]) (N := ns_law_worth) (sc := (defScope st_law_worth)) (by decide +kernel)) (fun _ _ _ _ _ => pg_name (i := 2) sc_law_worth.nd rfl (Or.inl rfl)) (fun _ _ _ _ _ => (pts_one (pt_cmpR op_ge (pe_call (ok_law_kind (P := P) (w := w) (base := base) T) (hr.mono (by decide)) (by rfl) (m_law_kind T) (k_law_kind T) (b_law_kind T) .nil passN (pa_cons (pv 2) pa_nil)) pe_int (nomark _)))) (fun _ _ _ _ _ => (pe_ix (show IxR _ (rIxL K) from ix_list) (pv 0) (pe_call (ok_law_kind (P := P) (w := w) (base := base) T) (hr.mono (by decide)) (by rfl) (m_law_kind T) (k_law_kind T) (b_law_kind T) .nil passN (pa_cons (pv 2) pa_nil)) (fun _ _ => rfl)))) pa_nil)))), ?_⟩)
  · obtain ⟨p, ps, l, rfl, _⟩ := h
    rfl
  · obtain ⟨p, ps, l, rfl, hp, h4, hl, hpl, hk, q⟩ := h
    refine s_ret (v := .int (wof ps l)) ?_ fun H2 e2 => q H2 e2
    unfold wof
    refine ev_cbL (xs := ((l.filter fun c => decide (0 ≤ kd c)).map fun c => ps.getD (kd c).toNat 0).map V.int) ?_ fun p H1 hp e => rc_sum (sq_of hp)
    rw [List.map_map]
    have h2 := given_filter l 0 (fun c => decide (0 ≤ kd c)) (V.int ∘ fun c => ps.getD (kd c).toNat 0)
    rw [← h2]
    refine el_lcS (l := l) (fun i => decide (0 ≤ kd (l.getD i 0))) (fun i => (V.int ∘ fun c => ps.getD (kd c).toNat 0) (l.getD i 0)) (by exact ev_var rfl) (by omega) (fun x => rfl) (fun i c H3 e3 hi => ?_) (fun i c H3 e3 hi hf => ?_)
    · obtain ⟨e0, hm, _⟩ := getD_lt hi
      rw [e0]
      exact et_test (ev_op (ev_call (ea_cons (by exact ev_var rfl) ea_nil) fun H4 e4 Q4 q4 E4 => ⟨c, rfl, (kl_kd c (pl_dab hpl c hm)).2.2, q4⟩) ev_c rv_I0)
    · obtain ⟨e0, hm, _⟩ := getD_lt hi
      rw [e0] at hf ⊢
      have h0 := of_decide_eq_true hf
      have h1 := hk c hm
      exact ev_op (by exact ev_var rfl) (ev_call (ea_cons (by exact ev_var rfl) ea_nil) fun H4 e4 Q4 q4 E4 => ⟨c, rfl, (kl_kd c (pl_dab hpl c hm)).2.2, q4⟩) (rv_ixL (ex_l e3 hp) (atI_int h0 (by omega)))
/-- a sign of the first m of a text, its place drawn -/
theorem take_ix {σ : L2.St} {H : Hp} {b : Addr} {i m : Nat} {al : List Nat} {te : TE} {Q : VK} (hv : σ[i]? = some (some (.ref b))) (hb : Bx H b) (he : Ev te σ H (.int (m : Int))) (h0 : 0 < m) (hm : m ≤ al.length) (hl : al.length ≤ 100)
    (k : ∀ c H', c ∈ al.take m → ExB b H H' → Bx H' b → Q (.str (S [c])) H') : tOp rIxS (tC (.str (S al))) (tCall sp_law_take [] E0 (tCons (tVar i) (tCons te tNil))) σ H Q := by
  refine op_c (sp_take_then (b := b) (many := (m : Int)) hv hb he (by omega) (Nat.lt_of_le_of_lt (show (m : Int).natAbs ≤ 100 by omega) (by decide)) fun d H3 d0 d1 x3 b3 => ?_)
  refine ⟨S al, d, al.getD d.toNat 0, rfl, rfl, sz_of (by rw [S_len]; omega), atI_i d0 (by show d < (al.length : Int); omega) 0, ?_⟩
  refine k _ H3 ?_ x3 b3
  rw [List.mem_take_iff_getElem]
  refine ⟨d.toNat, by omega, ?_⟩
  rw [List.getD_eq_getElem?_getD, List.getElem?_eq_getElem (by omega)]
  rfl
theorem put46 {cs : List Nat} {i : Nat} (h : i < cs.length) : (46 :: cs).take (i + 1) ++ [46] ++ (46 :: cs).drop (i + 2) = 46 :: cs.set i 46 := by
  rw [List.take_succ_cons, List.cons_append, List.cons_append, List.drop_succ_cons]
  congr 1
  rw [List.set_eq_take_append_cons_drop, if_pos h, List.append_assoc]
  rfl
def sp_law_jump (K : PySem.W.Frag) : Sp := fun vs H Q _ => ∃ (b p : Addr) (ps : List Int), vs = [.ref b, .ref p] ∧ Bx H b ∧ p ≠ b ∧ H p = some (.lst (ps.map V.int)) ∧ OkP ps ∧
  ∀ t x H', H t = none → TJ H' (t, x) → Fits ps.length ps x → ExB b H H' → Bx H' b → Q (.ref t) H'
theorem ok_law_jump (T : Tx K mg w) : OkD P w K mg base 3 d_law_jump ps_law_jump (sp_law_jump K) := by
  refine (h_law_jump T).ok sc_law_jump (fun vs H Q E h => ?_) (fun cdv A outer s H vs Q E hr h => ⟨_,
      (pss_cons (ps_set (i := 2) sc_law_jump.nd rfl (Or.inl rfl) (pe_op op_add pe_int (pe_callTy call_int1 (by rfl) (m_int T) (by decide +kernel) (pa_cons (pe_cmpR op_eq (pe_call (ok_law_take (P := P) (w := w) (base := base) T) (hr.mono (by decide)) (by rfl) (m_law_take T) (k_law_take T) (b_law_take T) .nil passN (pa_cons (pv 0) (pa_cons pe_int pa_nil))) pe_int (nomark _)) pa_nil))))
      (pss_cons (ps_set (i := 3) sc_law_jump.nd rfl (Or.inl rfl) pe_str)
      (pss_cons (ps_set (i := 4) sc_law_jump.nd rfl (Or.inl rfl) pe_str)
      (pss_cons (ps_for (passes_of rfl) rfl (pi_range1 rfl (m_range T) (pa_cons (pe_op op_sub (pv 2) pe_int) pa_nil)) (pg_name (i := 5) sc_law_jump.nd rfl (Or.inl rfl)) (pss_cons (ps_set (i := 3) sc_law_jump.nd rfl (Or.inl rfl) (pe_op op_add_str (pv 3) (pe_ix ix_str pe_str (pe_call (ok_law_take (P := P) (w := w) (base := base) T) (hr.mono (by decide)) (by rfl) (m_law_take T) (k_law_take T) (b_law_take T) .nil passN (pa_cons (pv 0) (pa_cons (pe_callB call_len (by rfl) (m_len T) (by decide +kernel) (pa_cons (pv 1) pa_nil)) pa_nil))) (fun _ _ => rfl))))
      (pss_one (ps_set (i := 4) sc_law_jump.nd rfl (Or.inl rfl) (pe_op op_add_str (pv 4) (pe_ix ix_str pe_str (pe_call (ok_law_take (P := P) (w := w) (base := base) T) (hr.mono (by decide)) (by rfl) (m_law_take T) (k_law_take T) (b_law_take T) .nil passN (pa_cons (pv 0) (pa_cons (pe_op op_add (pe_callB call_len (by rfl) (m_len T) (by decide +kernel) (pa_cons (pv 1) pa_nil)) pe_int) pa_nil))) (fun _ _ => rfl)))))))
      (pss_cons (ps_set (i := 3) sc_law_jump.nd rfl (Or.inl rfl) (pe_op op_add_str (pv 3) pe_str))
      (pss_cons (ps_for (passes_of rfl) rfl (pi_range1 rfl (m_range T) (pa_cons (pe_op op_sub (pv 2) pe_int) pa_nil)) (pg_name (i := 5) sc_law_jump.nd rfl (Or.inl rfl)) (pss_one (ps_if (pt_cmpR op_ge (pe_call (ok_law_worth (P := P) (w := w) (base := base) T) (hr.mono (by decide)) (by rfl) (m_law_worth T) (k_law_worth T) (b_law_worth T) .nil passN (pa_cons (pv 1) (pa_cons (pv 4) pa_nil))) (pe_call (ok_law_worth (P := P) (w := w) (base := base) T) (hr.mono (by decide)) (by rfl) (m_law_worth T) (k_law_worth T) (b_law_worth T) .nil passN (pa_cons (pv 1) (pa_cons (pv 3) pa_nil))) (nomark _)) (pss_one (ps_set (i := 4) sc_law_jump.nd rfl (Or.inl rfl) (pe_op op_add_str (pe_op op_add_str (pe_slice sl_str (pv 4) po_none (po_some (pe_op op_sub (pe_op op_sub (pv 2) pe_int) (pv 5)))) pe_str) (pe_slice sl_str (pv 4) (po_some (pe_op op_sub (pv 2) (pv 5))) po_none)))) pss_nil)))
      (pss_one (ps_ret (pe_tup (pa_cons (pv 3) (pa_cons (pv 4) (pa_cons (pe_ix ix_list (pe_lst (pa_cons pe_str (pa_cons pe_str (pa_cons pe_str pa_nil)))) (pe_call (ok_law_take (P := P) (w := w) (base := base) T) (hr.mono (by decide)) (by rfl) (m_law_take T) (k_law_take T) (b_law_take T) .nil passN (pa_cons (pv 0) (pa_cons pe_int pa_nil))) (fun _ _ => rfl)) pa_nil)))))))))))), ?_⟩)
  · obtain ⟨b, p, ps, rfl, _⟩ := h
    rfl
  · obtain ⟨b, p, ps, rfl, hb, npb, hp, hok, q⟩ := h
    obtain ⟨n1, n4, hpr⟩ := id hok
    have k1 : Str.ofString "" = S [] := by decide +kernel
    have k2 : Str.ofString "." = S [46] := by decide +kernel
    have k3 : Str.ofString "abcd" = S kL := by decide +kernel
    have k4 : Str.ofString ".abcd" = S dab := by decide +kernel
    simp only [k1, k2, k3, k4]
    have lp : ∀ {H1}, ExB b H H1 → RC (fun xs H Q => ∃ x n, xs = [x] ∧ LenV K x H n ∧ Q (.int n) H) [.ref p] H1 (.int (ps.length : Int)) := fun e => by
      have := rc_lenL (K := K) (sq_of (K := K) (e _ _ npb hp))
      rwa [List.length_map] at this
    refine Lc.q_first (op_c (cb_on (Lc.cons_fst (Lc.op_fst ?_))))
    refine sp_take_then (b := b) (many := 4) rfl hb (by exact ev_c) (by decide) (by decide) fun d H1 d0 d1 x1 b1 => ?_
    obtain ⟨m, hm, hsz⟩ : ∃ m : Nat, (m = 2 ∨ m = 3) ∧ (3 : Int) + (if decide (V.int d = V.int 3) = true then 1 else 0) = (m : Int) + 1 := by
      by_cases h3 : V.int d = V.int 3
      · exact ⟨3, .inr rfl, by rw [if_pos (decide_eq_true h3)]; rfl⟩
      · exact ⟨2, .inl rfl, by rw [if_neg (by rw [decide_eq_true_eq]; exact h3)]; rfl⟩
    refine ⟨rfl, .inr ⟨_, rfl, _, _, rfl, rfl, ?_⟩⟩
    dsimp only
    rw [hsz]
    try dsimp only [List.set]
    refine q_asg (v := .str (S [])) ev_c fun H2 e2 => ?_
    try dsimp only [List.set]
    refine q_asg (v := .str (S [46])) ev_c fun H3 e3 => ?_
    try dsimp only [List.set]
    have x3 : ExB b H H3 := x1.trans (ExB.of (e2.trans e3))
    have b3 := b1.ex (e2.trans e3)
    clear x1 b1 e2 e3 hsz
    refine q_forR1 (n := (m : Int)) (ea_cons (ev_is (ev_op (by exact ev_var rfl) ev_c rv_I0) (by congr 1; omega)) ea_nil) (by omega) (fun k σ' H' => ExB b H H' ∧ Bx H' b ∧ ∃ (cs ds : List Nat) (v5 : Option V), cs.length = k ∧ ds.length = k ∧ (∀ c ∈ cs, c ∈ kL.take ps.length) ∧ (∀ c ∈ ds, c ∈ dab.take (ps.length + 1)) ∧ σ' = [some (.ref b), some (.ref p), some (.int ((m : Int) + 1)), some (.str (S cs)), some (.str (S (46 :: ds))), v5])
      (fun H4 e4 => ⟨x3.trans (ExB.of e4), b3.ex e4, [], [], none, rfl, rfl, (fun c hc => by cases hc), (fun c hc => by cases hc), rfl⟩) ?_ ?_
    · clear x3 b3
      rintro k σ' H3 hk ⟨x3, b3, cs, ds, v5, hcl, hdl, hcs, hds, rfl⟩
      try dsimp only [List.set]
      refine Lc.q_first (Lc.op_fst (ev_var rfl H3 (Ex.refl H3) _ fun H4 e4 => ?_))
      refine take_ix (b := b) (m := ps.length) (al := kL) rfl (b3.ex e4) (ev_cb (ea_cons (by exact ev_var rfl) ea_nil) (lp (x3.trans (ExB.of e4)))) (by omega) n4 (by decide) fun c H5 hc x5 b5 => ?_
      refine ⟨S cs, S [c], rfl, rfl, sz_of (by rw [S_len, S_len]; simp; omega), ?_⟩
      rw [S_app]
      try dsimp only [List.set]
      refine Lc.asg_fst (Lc.op_fst (ev_var rfl H5 (Ex.refl H5) _ fun H6 e6 => ?_))
      refine take_ix (b := b) (m := ps.length + 1) (al := dab) rfl (b5.ex e6) (ev_is (ev_op (ev_cb (ea_cons (by exact ev_var rfl) ea_nil) (lp (((x3.trans (ExB.of e4)).trans x5).trans (ExB.of e6)))) ev_c rv_I0) (by rw [Int.natCast_add]; rfl)) (by omega) (by show ps.length + 1 ≤ 5; omega) (by decide) fun c2 H7 hc2 x7 b7 => ?_
      refine ⟨S (46 :: ds), S [c2], rfl, rfl, sz_of (by rw [S_len, S_len]; simp; omega), ?_⟩
      rw [S_app]
      have x37 : ExB b H H7 := (((x3.trans (ExB.of e4)).trans x5).trans (ExB.of e6)).trans x7
      refine ⟨x37, b7, cs ++ [c], ds ++ [c2], _, by rw [List.length_append, hcl]; rfl, by rw [List.length_append, hdl]; rfl, fun y hy => ?_, fun y hy => ?_, rfl⟩
      · rcases List.mem_append.mp hy with hy | hy
        · exact hcs y hy
        · rw [List.mem_singleton.mp hy]
          exact hc
      · rcases List.mem_append.mp hy with hy | hy
        · exact hds y hy
        · rw [List.mem_singleton.mp hy]
          exact hc2
    clear x3 b3
    rintro σ' H3 ⟨x3, b3, cs, ds, v5, hcl, hdl, hcs, hds, rfl⟩
    rw [Int.toNat_natCast] at hcl hdl
    have c1 : COk ps.length cs := ⟨by omega, fun c hc => List.mem_of_mem_take (hcs c hc), fun c hc => kn_kL ps.length n4 c (hcs c hc)⟩
    have hd : ∀ c ∈ ds, c ∈ 46 :: kL ∧ kd c < (ps.length : Int) := fun c hc => ⟨List.mem_of_mem_take (hds c hc), kn_dL ps.length n4 _ (hds c hc)⟩
    clear hcs hds
    refine q_asg (v := .str (S (cs ++ [46]))) (ev_op (by exact ev_var rfl) ev_c (rv_catSS (by simp; omega))) fun H4 e4 => ?_
    try dsimp only [List.set]
    have pb : Pl (cs ++ [46]) := fun c hc => by
      rcases List.mem_append.mp hc with hc | hc
      · exact .inr (c1.2.1 c hc)
      · exact .inl (List.mem_singleton.mp hc)
    have kb : Kn ps.length (cs ++ [46]) := fun c hc => by
      rcases List.mem_append.mp hc with hc | hc
      · exact c1.2.2 c hc
      · rw [List.mem_singleton.mp hc, kd_46]
        omega
    refine q_forR1 (n := (cs.length : Int)) (ea_cons (ev_is (ev_op (by exact ev_var rfl) ev_c rv_I0) (by congr 1; omega)) ea_nil) (by omega) (fun k σ' H' => ExB b H H' ∧ Bx H' b ∧ ∃ (ds : List Nat) (v5 : Option V), ds.length = cs.length ∧ (∀ c ∈ ds, c ∈ 46 :: kL ∧ kd c < (ps.length : Int)) ∧ Lw ps cs ds k ∧ σ' = [some (.ref b), some (.ref p), some (.int ((m : Int) + 1)), some (.str (S (cs ++ [46]))), some (.str (S (46 :: ds))), v5])
      (fun H5 e5 => ⟨x3.trans (ExB.of (e4.trans e5)), b3.ex (e4.trans e5), ds, _, by omega, hd, .inr fun i hi => by rw [List.getD_eq_getElem?_getD, List.getElem?_eq_none (by omega)]; rfl, rfl⟩) ?_ ?_
    · clear x3 b3 hdl hd
      rintro k σ' H3 hk ⟨x3, b3, ds, v5, hdl, hd, hlw, rfl⟩
      try dsimp only [List.set]
      have sp := sq_of (K := K) (x3 _ _ npb hp)
      have pa : Pl (46 :: ds) := fun c hc => by
        rcases List.mem_cons.mp hc with hc | hc
        · exact .inl hc
        · exact List.mem_cons.mp (hd c hc).1
      have ka : Kn ps.length (46 :: ds) := fun c hc => by
        rcases List.mem_cons.mp hc with hc | hc
        · rw [hc, kd_46]
          omega
        · exact (hd c hc).2
      refine s_when (b := decide (wof ps (46 :: ds) ≥ wof ps (cs ++ [46]))) (et_test (ev_op (ev_call (ea_cons (by exact ev_var rfl) (ea_cons (by exact ev_var rfl) ea_nil)) fun H4 e4 Q4 q4 E4 => ⟨p, ps, _, rfl, ex_l e4 sp, n4, by simp; omega, pa, ka, q4⟩) (ev_call (ea_cons (by exact ev_var rfl) (ea_cons (by exact ev_var rfl) ea_nil)) fun H4 e4 Q4 q4 E4 => ⟨p, ps, _, rfl, ex_l e4 sp, n4, by simp; omega, pb, kb, q4⟩) rv_I0)) (fun hc H4 e4 => ?_) (fun hc H4 e4 => ?_)
      · have hc := of_decide_eq_true hc
        have hik : cs.length - k - 1 < ds.length := by omega
        refine s_asg (v := .str (S (46 :: ds.set (cs.length - k - 1) 46))) (ev_is (ev_op (ev_op (ev_to (k := cs.length - k - 1 + 1) (by exact ev_var rfl) (ev_is (ev_op (ev_op (by exact ev_var rfl) ev_c rv_I0) (by exact ev_var rfl) rv_I0) (by congr 1; omega)) (by simp; omega)) ev_c (rv_catSS (by rw [List.length_take]; simp; omega))) (ev_from (k := cs.length - k - 1 + 2) (by exact ev_var rfl) (ev_is (ev_op (by exact ev_var rfl) (by exact ev_var rfl) rv_I0) (by congr 1; omega)) (by simp; omega)) (rv_catSS (by rw [List.length_append, List.length_take, List.length_drop]; simp; omega))) (by rw [put46 hik])) fun H5 e5 => ?_
        refine ⟨x3.trans (ExB.of (e4.trans e5)), b3.ex (e4.trans e5), ds.set (cs.length - k - 1) 46, _, by rw [List.length_set]; exact hdl, fun c hc => ?_, lw_step hdl (by omega) hlw (by omega), rfl⟩
        rcases mem_set hc with h | h
        · rw [h]
          exact ⟨List.mem_cons_self, by rw [kd_46]; omega⟩
        · exact hd c h
      · have hc := of_decide_eq_false hc
        exact ⟨x3.trans (ExB.of e4), b3.ex e4, ds, _, hdl, hd, .inl (by omega), rfl⟩
    clear x3 b3 hdl hd e4
    rintro σ' H3 ⟨x3, b3, ds, v5, hdl, hd, hlw, rfl⟩
    rw [Int.toNat_natCast] at hlw
    have hw := lw_end ⟨n1, n4, hpr⟩ c1 hdl hlw
    refine Lc.ret_fst ?_
    refine ⟨_, rfl, _, rfl, ?_⟩
    refine Lc.cons_fst (Lc.op_fst ?_)
    refine el_lst (vs := [.str "right", .str "left", .str "both"]) (ea_cons ev_c (ea_cons ev_c (ea_cons ev_c ea_nil))) (by simp) H3 (Ex.refl H3) _ fun l H5 hl e5 h5 => ?_
    refine sp_take_then (b := b) (many := 3) rfl (b3.ex e5) (by exact ev_c) (by decide) (by decide) fun u H6 u0 u1 e6 b6 => ?_
    have hlb : l ≠ b := bx_ne b3 hl
    obtain ⟨z, hz, hat⟩ := way3 u0 u1
    refine ⟨l, _, u, _, rfl, rfl, sq_of (e6 _ _ hlb h5), hat, ?_⟩
    refine ⟨sz_of (by simp), fun t ht => ?_⟩
    have e36 := (x3.trans (ExB.of e5)).trans e6
    have jk := jok_mk c1 hdl (fun c hc => (hd c hc).1) (fun c hc => (hd c hc).2) hz hw
    exact q t (cs ++ [46], 46 :: ds, z) _ (fresh_b e36 b6 ht) ⟨upd_same, jk.1⟩ jk.2 (e36.trans (ExB.of (Ex.new ht))) (b6.ex (Ex.new ht))

end
end K57
namespace Lc
open PySem PySem.Spec PyProof.Rows L2 Evl
section
variable {K : PySem.W.Frag} {H : Hp}
/-! ### a row among rows -/
def dL (v : List Int) : PyData := .list ((v.map V.int).map dat)
theorem ints_atm {v : List Int} : ∀ x ∈ v.map V.int, Atm x := fun x hx => by
  obtain ⟨i, _, rfl⟩ := List.mem_map.mp hx
  exact atm_int
theorem dL_ok (v : List Int) : (dL v).canLay0 = true ∧ (dL v).depth ≤ 1 := by
  obtain ⟨b1, b2, _⟩ := lay_all (dats_ok (ints_atm (v := v)))
  refine ⟨b1, ?_⟩
  unfold dL
  simp only [PyData.depth]
  omega
theorem dL_sh (v : List Int) : SeqAt.shaped (dL v) = true := by
  obtain ⟨a, b⟩ := dL_ok v
  unfold SeqAt.shaped
  rw [Bool.and_eq_true]
  exact ⟨a, decide_eq_true (by omega)⟩
theorem eqvAll_ints : ∀ u v : List Int, PyData.eqvAll ((u.map V.int).map dat) ((v.map V.int).map dat) = decide (u = v)
  | [], [] => by simp [PyData.eqvAll]
  | [], y :: v => by simp [PyData.eqvAll]
  | x :: u, [] => by simp [PyData.eqvAll]
  | x :: u, y :: v => by
    have ih := eqvAll_ints u v
    simp only [List.map_cons, PyData.eqvAll]
    rw [ih]
    have e : PyData.eqv (dat (V.int x)) (dat (V.int y)) = decide (x = y) := by
      show PyData.eqv (.int x) (.int y) = _
      simp only [PyData.eqv]
      rw [Bool.eq_iff_iff]
      simp
    rw [e, Bool.eq_iff_iff]
    simp
theorem eqv_dL (u v : List Int) : PyData.eqv (dL u) (dL v) = true ↔ u = v := by
  unfold dL
  rw [PyData.eqv, eqvAll_ints, decide_eq_true_eq]
theorem any_dL (G : List (List Int)) (v : List Int) : ((G.map dL).any fun z => PyData.eqv z (dL v)) = decide (v ∈ G) := by
  rw [Bool.eq_iff_iff, List.any_map]
  simp only [List.any_eq_true, Function.comp, eqv_dL, decide_eq_true_eq]
  exact ⟨fun ⟨y, hy, h⟩ => h ▸ hy, fun h => ⟨v, h, rfl⟩⟩
theorem dpLr {x : Addr} {v : List Int} (h : H x = some (.lst (v.map V.int))) : Dp K H (.ref x) (dL v) := .lst (sq_of h) (dp_dats ints_atm)
theorem dpsL : ∀ {rs : List Addr} {G : List (List Int)}, Rw .lst H rs G → DpAll K H (rs.map V.ref) (G.map dL)
  | [], [], _ => .nil
  | r :: rs, g :: G, h => .cons (dpLr (h.row 0 (by simp))) (dpsL ⟨by have := h.len; simpa using this, fun k hk => h.row (k + 1) (by simpa using hk)⟩)
  | [], g :: G, h => absurd h.len (by simp)
  | r :: rs, [], h => absurd h.len (by simp)
theorem shL (G : List (List Int)) : SeqAt.shaped (.list (G.map dL)) = true := by
  have h : ∀ (G : List (List Int)), PyData.canLayAll0 (G.map dL) = true ∧ PyData.depthAll (G.map dL) ≤ 1 := fun G => by
    induction G with
    | nil => exact ⟨rfl, by simp [PyData.depthAll]⟩
    | cons g G ih =>
      obtain ⟨a, b⟩ := dL_ok g
      refine ⟨?_, ?_⟩
      · show (PyData.canLay0 (dL g) && PyData.canLayAll0 (G.map dL)) = true
        rw [a, ih.1]
        rfl
      · rw [List.map_cons]
        simp only [PyData.depthAll]
        omega
  obtain ⟨a, b⟩ := h G
  unfold SeqAt.shaped
  rw [Bool.and_eq_true]
  refine ⟨a, decide_eq_true ?_⟩
  simp only [PyData.depth]
  omega
theorem rv_notInG {x p : Addr} {rs : List Addr} {v : List Int} {G : List (List Int)} (hx : H x = some (.lst (v.map V.int))) (hp : H p = some (.lst (rs.map V.ref))) (hr : Rw .lst H rs G) : RV (rNotInD K) (.ref x) (.ref p) H (.bl (!decide (v ∈ G))) := fun H1 e Q k =>
  ⟨dL v, G.map dL, dpLr (e _ _ hx), .lst (sq_of (e _ _ hp)) (dpsL (hr.ex e)), dL_sh v, shL G, by rw [any_dL]; exact k H1 (Ex.refl H1)⟩
theorem rv_inG {x p : Addr} {rs : List Addr} {v : List Int} {G : List (List Int)} (hx : H x = some (.lst (v.map V.int))) (hp : H p = some (.lst (rs.map V.ref))) (hr : Rw .lst H rs G) : RV (rInD K) (.ref x) (.ref p) H (.bl (decide (v ∈ G))) := fun H1 e Q k =>
  ⟨dL v, G.map dL, dpLr (e _ _ hx), .lst (sq_of (e _ _ hp)) (dpsL (hr.ex e)), dL_sh v, shL G, by rw [any_dL]; exact k H1 (Ex.refl H1)⟩
end
/-! ### what a window loses, sign by sign of both sides -/
def cvw (m st : Nat) (p : List Nat × List Nat) (z : List Int) : Nat → List Int
  | 0 => z
  | i + 1 => bmp m st (-1) (bmp m st 1 (cvw m st p z i) i (p.1.getD i 46)) i (p.2.getD i 46)
def cvec (k m st : Nat) (p : List Nat × List Nat) : List Int := cvw m st p (List.replicate (k * m) 0) p.1.length
theorem cvw_len (m st : Nat) (p : List Nat × List Nat) (z : List Int) : ∀ n, (cvw m st p z n).length = z.length
  | 0 => rfl
  | n + 1 => by
    show (bmp m st (-1) (bmp m st 1 (cvw m st p z n) n _) n _).length = _
    rw [bmp_len, bmp_len, cvw_len m st p z n]
theorem dot_bmp {k m st : Nat} {d : Int} {v F : List Int} {i c : Nat} (hm : 0 < m) (hv : v.length = k * m) (hc : c = 46 ∨ (97 ≤ c ∧ c < 97 + k)) : dot (bmp m st d v i c) F = dot v F + d * (if c = 46 then 0 else F.getD (plc m st i c) 0) := by
  unfold bmp
  by_cases h : c = 46
  · rw [if_pos h, if_pos h, Int.mul_zero, Int.add_zero]
  · rw [if_neg h, if_neg h, dot_set _ _ _ _ (by rw [hv]; exact plc_lt hm (hc.resolve_left h))]
theorem dot_cvw {k m st : Nat} {p : List Nat × List Nat} {z F : List Int} (hm : 0 < m) (h1 : KnW k p.1) (h2 : KnW k p.2) (hl : p.2.length = p.1.length) (hz : z.length = k * m) : ∀ n, n ≤ p.1.length → dot (cvw m st p z n) F = dot z F + wt m st F p.1 n - wt m st F p.2 n
  | 0, _ => by
    show dot z F = dot z F + 0 - 0
    omega
  | n + 1, h => by
    have ih := dot_cvw (st := st) (F := F) hm h1 h2 hl hz n (by omega)
    show dot (bmp m st (-1) (bmp m st 1 (cvw m st p z n) n (p.1.getD n 46)) n (p.2.getD n 46)) F = dot z F + (wt m st F p.1 n + _) - (wt m st F p.2 n + _)
    rw [dot_bmp (k := k) hm (by rw [bmp_len, cvw_len, hz]) (h2.at_ (by omega)), dot_bmp (k := k) hm (by rw [cvw_len, hz]) (h1.at_ (by omega)), ih]
    omega
theorem dot_cvec {k m st : Nat} {p : List Nat × List Nat} {F : List Int} (hm : 0 < m) (h1 : KnW k p.1) (h2 : KnW k p.2) (hl : p.2.length = p.1.length) : dot (cvec k m st p) F = wt m st F p.1 p.1.length - wt m st F p.2 p.2.length := by
  unfold cvec
  rw [dot_cvw hm h1 h2 hl (by rw [List.length_replicate]) _ (Nat.le_refl _), dot_zero, hl]
  omega
theorem cvec_len (k m st : Nat) (p : List Nat × List Nat) : (cvec k m st p).length = k * m := by
  unfold cvec
  rw [cvw_len, List.length_replicate]
end Lc
namespace K57
open PySem PySem.Spec PyProof.Rows L2 Lc Evl
section
variable {P : Program} {w : World} {K : PySem.W.Frag} {mg : Str → Option Value} {base : Heap}
/-! ### the sides of a jump -/
def sp_law_sides (K : PySem.W.Frag) : Sp := fun vs H Q _ => ∃ (t : Addr) (x : Jm), vs = [.ref t] ∧ TJ H (t, x) ∧ ∀ p H', H p = none → Ex H H' → Wins H' p (winsJ x) → Q (.ref p) H'
theorem ok_law_sides (T : Tx K mg w) : OkD P w K mg base 1 d_law_sides ps_law_sides (sp_law_sides K) := by
  refine (h_law_sides T).ok sc_law_sides (fun vs H Q E h => ?_) (fun cdv A outer s H vs Q E hr h => ⟨_,
      (pss_cons (ps_set (i := 1) sc_law_sides.nd rfl (Or.inl rfl) (pe_lst pa_nil))
      (Evl.pss_cut (ps_if (pt_cmpR op_ne (pe_ix ix_tup (pv 0) pe_int (fun _ _ => rfl)) pe_str (nomark _)) (pss_one (ps_expr (pe_bm PySem.F.plainAttrs_list PySem.F.slot_list_append PySem.F.type_list_append mt_append (pv 1) (pa_cons (pe_tup (pa_cons (pe_ix ix_tup (pv 0) pe_int (fun _ _ => rfl)) (pa_cons (pe_ix ix_tup (pv 0) pe_int (fun _ _ => rfl)) pa_nil))) pa_nil)))) pss_nil)
      (Evl.pss_cut (ps_if (pt_cmpR op_ne (pe_ix ix_tup (pv 0) pe_int (fun _ _ => rfl)) pe_str (nomark _)) (pss_one (ps_expr (pe_bm PySem.F.plainAttrs_list PySem.F.slot_list_append PySem.F.type_list_append mt_append (pv 1) (pa_cons (pe_tup (pa_cons (pe_revS (pe_ix ix_tup (pv 0) pe_int (fun _ _ => rfl))) (pa_cons (pe_revS (pe_ix ix_tup (pv 0) pe_int (fun _ _ => rfl))) pa_nil))) pa_nil)))) pss_nil)
      (pss_one (ps_ret (pv 1)))))), ?_⟩)
  · obtain ⟨t, x, rfl, _⟩ := h
    rfl
  · obtain ⟨t, x, rfl, ⟨ht, hV⟩, q⟩ := h
    dsimp only at ht hV
    obtain ⟨lb, la⟩ := isJ_len hV
    have k1 : Str.ofString "left" = "left" := rfl
    refine q_asgL (el_lst ea_nil (by simp)) fun wp H3 hwp e3 h3 => ?_
    have t3 := ht.ex e3
    try dsimp only [List.set]
    refine q_cut (M := fun σ' H' => ExB wp H3 H' ∧ Wins H' wp (if x.2.2 = "left" then [] else [(x.1, x.2.1)]) ∧ σ' = [some (.ref t), some (.ref wp)]) ?_ ?_
    · refine s_when (b := !decide (x.2.2 = "left")) (et_test (ev_op (ev_t2 (te := tVar 0) (by exact ev_var rfl) t3) ev_c rv_neTT)) (fun hc H4 e4 => ?_) (fun hc H4 e4 => ?_)
      · refine s_appW (ws := []) (w := (x.1, x.2.1)) rfl ⟨[], e4 _ _ h3, trivial⟩ (by simp) (fun H5 e5 => ev_t0 (te := tVar 0) (by exact ev_var rfl) ((t3.ex e4).ex e5)) (fun H5 e5 => ev_t1 (te := tVar 0) (by exact ev_var rfl) ((t3.ex e4).ex e5)) fun H5 e5 w5 => ⟨(ExB.of e4).trans e5, ?_, rfl⟩
        rw [if_neg (by simpa using hc)]
        exact w5
      · refine ⟨ExB.of e4, ?_, rfl⟩
        rw [if_pos (by simpa using hc)]
        exact ⟨[], e4 _ _ h3, trivial⟩
    rintro σ' H4 ⟨e4, w4, rfl⟩
    have t4 := t3.exL h3 e4
    have l1 : (if x.2.2 = "left" then [] else [(x.1, x.2.1)] : List Pr2).length ≤ 1 := by split <;> simp
    refine q_cut (M := fun σ' H' => ExB wp H4 H' ∧ Wins H' wp (winsJ x) ∧ σ' = [some (.ref t), some (.ref wp)]) ?_ ?_
    · refine s_when (b := !decide (x.2.2 = "right")) (et_test (ev_op (ev_t2 (te := tVar 0) (by exact ev_var rfl) t4) ev_c rv_neTT)) (fun hc H5 e5 => ?_) (fun hc H5 e5 => ?_)
      · refine s_appW (w := (x.1.reverse, x.2.1.reverse)) rfl (w4.ex e5) (by omega) (fun H6 e6 => ev_revS (w := S x.1) (ev_t0 (te := tVar 0) (by exact ev_var rfl) ((t4.ex e5).ex e6)) (by rw [S_len]; omega)) (fun H6 e6 => ev_revS (w := S x.2.1) (ev_t1 (te := tVar 0) (by exact ev_var rfl) ((t4.ex e5).ex e6)) (by rw [S_len]; omega)) fun H6 e6 w6 => ⟨(ExB.of e5).trans e6, ?_, rfl⟩
        unfold winsJ winsOf
        rw [if_neg (c := x.2.2 = "right") (by simpa using hc)]
        exact w6
      · refine ⟨ExB.of e5, ?_, rfl⟩
        unfold winsJ winsOf
        rw [if_pos (c := x.2.2 = "right") (by simpa using hc), List.append_nil]
        exact w4.ex e5
    rintro σ' H5 ⟨e5, w5, rfl⟩
    have ex5 : Ex H H5 := ex_of_b hwp e3 (e4.trans e5)
    exact s_ret (by exact ev_var rfl) fun H6 e6 => q wp H6 hwp (ex5.trans e6) (w5.ex e6)
/-! ### whether a table keeps the conditions -/
def sp_law_falls (K : PySem.W.Frag) : Sp := fun vs H Q _ => ∃ (r a : Addr) (rs : List Addr) (RW : List (List Int)) (F : List Int), vs = [.ref r, .ref a] ∧ H r = some (.lst (rs.map V.ref)) ∧ Rw .lst H rs RW ∧ H a = some (.lst (F.map V.int)) ∧ (∀ v ∈ RW, v.length = F.length) ∧ F.length ≤ 1000 ∧ RW.length ≤ 20000 ∧ Sml F ∧ RetV (.bl (RW.all fun v => !decide (dot v F < 0))) H Q
theorem ok_law_falls (T : Tx K mg w) : OkD P w K mg base 1 d_law_falls ps_law_falls (sp_law_falls K) := by
  refine (h_law_falls T).ok sc_law_falls (fun vs H Q E h => ?_) (fun cdv A outer s H vs Q E hr h => ⟨_,
      (pss_cons (ps_for (passes_of rfl) rfl (pi_list (pv 0)) (pg_name (i := 2) sc_law_falls.nd rfl (Or.inr rfl)) (pss_one (ps_if (pt_cmpR op_lt (pe_callB (cr_sum rfl) (by rfl) (m_sum T) (by decide +kernel) (pa_cons (pe_lc (own := [("i", 3)]) (g := gName 3) rfl sc_law_falls.nd (pi_range1 rfl (m_range T) (pa_cons (pe_callB call_len (by rfl) (m_len T) (by decide +kernel) (pa_cons (pv 1) pa_nil)) pa_nil)) (blkOk_by (own := [("i", 3)]) (N := ns_law_falls) (sc := (defScope st_law_falls)) (by decide +kernel)) (fun _ _ _ _ _ => pg_name (i := 3) sc_law_falls.nd rfl (Or.inl rfl)) (fun _ _ _ _ _ => pts_nil) (fun _ _ _ _ _ => (pe_op op_mul (pe_ix (show IxR _ (rIxL K) from ix_list) (pv 2) (pv 3) (fun _ _ => rfl)) (pe_ix (show IxR _ (rIxL K) from ix_list) (pv 1) (pv 3) (fun _ _ => rfl))))) pa_nil)) pe_int (nomark _)) (pss_one (ps_ret pe_bl)) pss_nil)))
      (pss_one (ps_ret pe_bl))), ?_⟩)
  · obtain ⟨r, a, rs, RW, F, rfl, _⟩ := h
    rfl
  · obtain ⟨r, a, rs, RW, F, rfl, hr, hR, ha, hw, hF, hRl, hsm, q⟩ := h
    refine q_forLn (by exact ev_var rfl) (sq_of hr) (fun i σ' H' => Ex H H' ∧ ((RW.take i).all fun v => !decide (dot v F < 0)) = true ∧ ∃ v2, σ' = [some (.ref r), some (.ref a), v2, none])
      (fun H1 e1 => ⟨e1, rfl, none, rfl⟩) (fun i σ' H' _ h => sq_of (h.1 _ _ hr)) ?_ ?_
    · rintro i x σ' H1 hi ⟨e1, hall, v2, rfl⟩
      obtain ⟨hk, rfl, hrow⟩ := (hR.ex e1).at_ hi
      have hmem : RW.getD i [] ∈ RW := by
        rw [List.getD_eq_getElem?_getD, List.getElem?_eq_getElem hk]
        exact List.getElem_mem hk
      have hci : RW[i]? = some (RW.getD i []) := by rw [List.getD_eq_getElem?_getD, List.getElem?_eq_getElem hk]; rfl
      have hvw := hw _ hmem
      generalize hv : RW.getD i [] = v at hrow hvw hci hmem
      try dsimp only [List.set]
      have hsum : Ev (tCB (rSum K) (tCons (tLc (iRng1 (tCons (tCB (fun xs H Q => ∃ x n, xs = [x] ∧ LenV K x H n ∧ Q (.int n) H) (tCons (tVar 1) tNil)) tNil)) (gName 3) tYes (tOp (rI CMul fun i j => V.int (i * j)) (tOp (rIxL K) (tVar 2) (tVar 3)) (tOp (rIxL K) (tVar 1) (tVar 3))) [3]) tNil)) [some (.ref r), some (.ref a), some (.ref (rs.getD i 0)), none] H1 (.int (dot v F)) := by
        have ha1 := e1 _ _ ha
        have hl := rc_lenL (K := K) (sq_of (K := K) ha1)
        rw [List.length_map] at hl
        have h6 := el_mapR (σ := [some (.ref r), some (.ref a), some (.ref (rs.getD i 0)), none]) (H := H1) (ta := tCons (tCB (fun xs H Q => ∃ x n, xs = [x] ∧ LenV K x H n ∧ Q (.int n) H) (tCons (tVar 1) tNil)) tNil) (te := tOp (rI CMul fun i j => V.int (i * j)) (tOp (rIxL K) (tVar 2) (tVar 3)) (tOp (rIxL K) (tVar 1) (tVar 3))) (j := 3) (vs := [3]) (n := F.length) (fun j => V.int (v.getD j 0 * F.getD j 0)) (ea_cons (ev_cb (ea_cons (by exact ev_var rfl) ea_nil) hl) ea_nil) (by omega) (fun x => rfl) fun j H2 hj e2 => by
          have h7 := atI_int (row := v) (i := (j : Int)) (by omega) (by omega)
          have h8 := atI_int (row := F) (i := (j : Int)) (by omega) (by omega)
          rw [Int.toNat_natCast] at h7 h8
          have hm : F.getD j 0 ∈ F := by
            rw [List.getD_eq_getElem?_getD, List.getElem?_eq_getElem hj]
            exact List.getElem_mem hj
          exact ev_op (ev_op (by exact ev_var rfl) (by exact ev_var rfl) (rv_ixL (sq_of (e2 _ _ hrow)) h7)) (ev_op (by exact ev_var rfl) (by exact ev_var rfl) (rv_ixL (sq_of (e2 _ _ ha1)) h8)) (rv_I (.inr (hsm _ hm)))
        have e : (List.range F.length).map (fun j => V.int (v.getD j 0 * F.getD j 0)) = ((List.range F.length).map fun j => v.getD j 0 * F.getD j 0).map V.int := by
          rw [List.map_map]
          rfl
        rw [e] at h6
        have h9 := ev_cbL h6 fun p H1 hp e => rc_sum (K := K) (sq_of hp)
        rw [dot_range v F hvw] at h9
        exact h9
      refine s_when (b := decide (dot v F < 0)) (et_test (ev_op hsum ev_c rv_I0)) (fun hb H2 e2 => ?_) fun hb H2 e2 => ?_
      · refine s_ret ev_c fun H3 e3 => ?_
        have hno : (RW.all fun v => !decide (dot v F < 0)) = false := by
          rw [Bool.eq_false_iff]
          intro hh
          rw [List.all_eq_true] at hh
          have h1 := hh v hmem
          rw [hb] at h1
          cases h1
        rw [hno] at q
        exact q H3 ((e1.trans e2).trans e3)
      · refine ⟨e1.trans e2, ?_, _, rfl⟩
        rw [List.take_add_one, hci, List.all_append, hall]
        simp [hb]
    · rintro σ' H1 ⟨e1, hall, v2, rfl⟩
      rw [List.length_map, hR.len, List.take_length] at hall
      refine s_ret ev_c fun H3 e3 => ?_
      rw [hall] at q
      exact q H3 (e1.trans e3)

end
end K57
namespace K57
open PySem PySem.Spec PyProof.Rows L2 Lc Evl
section
variable {P : Program} {w : World} {K : PySem.W.Frag} {mg : Str → Option Value} {base : Heap}
theorem q_cutS {σ : L2.St} {H : Hp} {ts tz : TS} {D : Ends} (h : ts { D with nx := tz D } σ H) : tSeq ts tz D σ H := h
/-! ### the conditions of the sides -/
theorem el_rep {σ : L2.St} {H : Hp} {tl tn : TE} {x : V} {n : Nat} (h : EvL tl σ H [x]) (h2 : ∀ H1, Ex H H1 → Ev tn σ H1 (.int (n : Int))) (hn : n ≤ 100000) : EvL (tOp rRep tl tn) σ H (List.replicate n x) := fun H1 e Q q =>
  h H1 e _ fun l H2 hl e2 h2l => h2 H2 (e.trans e2) H2 (Ex.refl H2) _ fun H3 e3 => ⟨l, (n : Int), [x], rfl, rfl, e3 _ _ h2l, by omega, by omega, by rw [Int.toNat_natCast, List.length_singleton, Nat.one_mul]; exact sz_of hn, fun p hp => by
    have e4 : (List.replicate n [x]).flatten = List.replicate n x := List.flatten_replicate_singleton
    rw [Int.toNat_natCast, e4]
    exact q p _ (fresh_back (e2.trans e3) hp) ((e2.trans e3).trans (Ex.new hp)) upd_same⟩
theorem kd_w {k c : Nat} (hk : k ≤ 4) (h : c = 46 ∨ (97 ≤ c ∧ c < 97 + k)) : c ∈ SG ∧ ((c = 46 ∧ kd c = -1) ∨ (c ≠ 46 ∧ kd c = ((c - 97 : Nat) : Int))) := by
  have h5 : c = 46 ∨ c = 97 ∨ c = 98 ∨ c = 99 ∨ c = 100 := by omega
  rcases h5 with rfl | rfl | rfl | rfl | rfl <;> decide
/-- one entry of a row bent -/
theorem s_bmp {m st i c k : Nat} {d : Int} {v : List Int} {rA : Addr} {H : Hp} {D : Ends} {g : Int → Int → Int} {s0 s1 s2 s3 s4 s5 s7 : Option V} (hm : 0 < m) (hk : k ≤ 4) (hc : c = 46 ∨ (97 ≤ c ∧ c < 97 + k)) (hv : v.length = k * m) (hr : H rA = some (.lst (v.map V.int))) (hm12 : m ≤ 12) (hg : ∀ x, g x 1 = x + d) (hs : s1 = some (.int (m : Int)))
    (q : ∀ H', ExB rA H H' → H' rA = some (.lst ((bmp m st d v i c).map V.int)) → D.nx [s0, s1, s2, s3, s4, s5, some (.ref rA), s7, some (.int (((st + i) % m : Nat) : Int)), some (.int (kd c))] H') :
    tIfS (tTest (tOp (rI0 fun i j => V.bl (decide (i ≥ j))) (tVar 9) (tC (.int 0)))) (tAsg (tOp (rI0 fun i j => V.int (g i j)) (tOp (rIxL K) (tVar 6) (tOp (rI0 fun i j => V.int (i + j)) (tOp (rI CMul fun i j => V.int (i * j)) (tVar 9) (tVar 1)) (tVar 8))) (tC (.int 1))) (gSub (tVar 6) (tOp (rI0 fun i j => V.int (i + j)) (tOp (rI CMul fun i j => V.int (i * j)) (tVar 9) (tVar 1)) (tVar 8)) rSetL)) tNext D [s0, s1, s2, s3, s4, s5, some (.ref rA), s7, some (.int (((st + i) % m : Nat) : Int)), some (.int (kd c))] H := by
  subst hs
  obtain ⟨_, hkd⟩ := kd_w hk hc
  refine s_when (b := decide (kd c ≥ 0)) (et_test (ev_op (by exact ev_var rfl) ev_c rv_I0)) (fun hb H1 e1 => ?_) fun hb H1 e1 => ?_
  · have h0 := of_decide_eq_true hb
    obtain ⟨hc46, hkd⟩ := hkd.resolve_left fun h => by omega
    have hcr := hc.resolve_left hc46
    have hp := plc_lt (st := st) (i := i) hm hcr
    have hix : ∀ H2, Ev (tOp (rI0 fun i j => V.int (i + j)) (tOp (rI CMul fun i j => V.int (i * j)) (tVar 9) (tVar 1)) (tVar 8)) [s0, some (.int (m : Int)), s2, s3, s4, s5, some (.ref rA), s7, some (.int (((st + i) % m : Nat) : Int)), some (.int (kd c))] H2 (.int ((plc m st i c : Nat) : Int)) := fun H2 => ev_is (ev_op (x := .int (kd c * (m : Int))) (ev_op (by exact ev_var rfl) (by exact ev_var rfl) (rv_I (.inr ⟨by omega, by omega⟩))) (by exact ev_var rfl) rv_I0) (by
      rw [hkd]
      unfold plc
      rw [Int.natCast_add, Int.natCast_mul])
    have hat := atI_int (row := v) (i := ((plc m st i c : Nat) : Int)) (by omega) (by omega)
    rw [Int.toNat_natCast] at hat
    have hr1 := e1 _ _ hr
    refine s_setAt (i := plc m st i c) (v := .int (v.getD (plc m st i c) 0 + d)) hr1 (ev_is (ev_op (ev_op (by exact ev_var rfl) (hix _) (rv_ixL (sq_of hr1) hat)) ev_c rv_I0) (by rw [hg])) (by exact ev_var rfl) (hix _) (by rw [List.length_map, hv]; exact hp) fun H2 e2 => q _ ((ExB.of (e1.trans e2)).trans ExB.upd) ?_
    rw [upd_same]
    unfold bmp
    rw [if_neg hc46, List.map_set]
  · have h0 := of_decide_eq_false hb
    have hc46 : c = 46 := by
      rcases hkd with h | h
      · exact h.1
      · omega
    refine q _ (ExB.of e1) ?_
    unfold bmp
    rw [if_pos hc46]
    exact e1 _ _ hr
def PvE (PV : List Pr2) : Prop := ∀ q ∈ PV, q.2.length = q.1.length
def sp_law_conditions (K : PySem.W.Frag) : Sp := fun vs H Q _ => ∃ (sd : Addr) (m k : Nat) (SD : List Pr2), vs = [.ref sd, .int (m : Int), .int (k : Int)] ∧ Wins H sd SD ∧ SD.length ≤ 100 ∧ PvK k SD ∧ PvE SD ∧ 0 < m ∧ m ≤ 12 ∧ k ≤ 4 ∧
  ∀ p rs RW H', H p = none → Ex H H' → H' p = some (.lst (rs.map V.ref)) → Rw .lst H' rs RW → (∀ v, v ∈ RW ↔ ∃ q ∈ SD, ∃ st, st < m ∧ v = cvec k m st q) → RW.length ≤ 2000 → Q (.ref p) H'
theorem ok_law_conditions (T : Tx K mg w) : OkD P w K mg base 2 d_law_conditions ps_law_conditions (sp_law_conditions K) := by
  refine (h_law_conditions T).ok sc_law_conditions (fun vs H Q E h => ?_) (fun cdv A outer s H vs Q E hr h => ⟨_,
      (pss_cons (ps_set (i := 3) sc_law_conditions.nd rfl (Or.inl rfl) (pe_lst pa_nil))
      (pss_cons (ps_for (passes_of rfl) rfl (pi_list (pv 0)) (pg_name (i := 4) sc_law_conditions.nd rfl (Or.inl rfl)) (pss_one (ps_for (passes_of rfl) rfl (pi_range1 rfl (m_range T) (pa_cons (pv 1) pa_nil)) (pg_name (i := 5) sc_law_conditions.nd rfl (Or.inl rfl)) (pss_cons (ps_set (i := 6) sc_law_conditions.nd rfl (Or.inl rfl) (pe_op op_rep (pe_lst (pa_cons pe_int pa_nil)) (pe_op op_mul (pv 2) (pv 1))))
      (pss_cons (ps_for (passes_of rfl) rfl (pi_range1 rfl (m_range T) (pa_cons (pe_callB call_len_str (by rfl) (m_len T) (by decide +kernel) (pa_cons (pe_ix ix_tup (pv 4) pe_int (fun _ _ => rfl)) pa_nil)) pa_nil)) (pg_name (i := 7) sc_law_conditions.nd rfl (Or.inl rfl)) (pss_cons (ps_set (i := 8) sc_law_conditions.nd rfl (Or.inl rfl) (pe_op op_mod (pe_callTy call_int1 (by rfl) (m_int T) (by decide +kernel) (pa_cons (pe_op op_add (pv 5) (pv 7)) pa_nil)) (pv 1)))
      (pss_cons (ps_set (i := 9) sc_law_conditions.nd rfl (Or.inl rfl) (pe_call (ok_law_kind (P := P) (w := w) (base := base) T) (hr.mono (by decide)) (by rfl) (m_law_kind T) (k_law_kind T) (b_law_kind T) .nil passN (pa_cons (pe_ix ix_str (pe_ix ix_tup (pv 4) pe_int (fun _ _ => rfl)) (pv 7) (fun _ _ => rfl)) pa_nil)))
      (pss_cons (ps_if (pt_cmpR op_ge (pv 9) pe_int (nomark _)) (pss_one (ps_asg (pe_op op_add (pe_ix ix_list (pv 6) (pe_op op_add (pe_op op_mul (pv 9) (pv 1)) (pv 8)) (fun _ _ => rfl)) pe_int) (pg_sub (pv 6) (pe_op op_add (pe_op op_mul (pv 9) (pv 1)) (pv 8)) set_list))) pss_nil)
      (pss_cons (ps_set (i := 9) sc_law_conditions.nd rfl (Or.inl rfl) (pe_call (ok_law_kind (P := P) (w := w) (base := base) T) (hr.mono (by decide)) (by rfl) (m_law_kind T) (k_law_kind T) (b_law_kind T) .nil passN (pa_cons (pe_ix ix_str (pe_ix ix_tup (pv 4) pe_int (fun _ _ => rfl)) (pv 7) (fun _ _ => rfl)) pa_nil)))
      (pss_one (ps_if (pt_cmpR op_ge (pv 9) pe_int (nomark _)) (pss_one (ps_asg (pe_op op_sub (pe_ix ix_list (pv 6) (pe_op op_add (pe_op op_mul (pv 9) (pv 1)) (pv 8)) (fun _ _ => rfl)) pe_int) (pg_sub (pv 6) (pe_op op_add (pe_op op_mul (pv 9) (pv 1)) (pv 8)) set_list))) pss_nil)))))))
      (pss_one (ps_if (pt_cmpR (show OpR _ _ (rNotInD K) from op_notInD (hu65 hr)) (pv 6) (pv 3) (by rfl)) (pss_one (ps_expr (pe_bm PySem.F.plainAttrs_list PySem.F.slot_list_append PySem.F.type_list_append mt_append (pv 3) (pa_cons (pv 6) pa_nil)))) pss_nil)))))))
      (pss_one (ps_ret (pv 3))))), ?_⟩)
  · obtain ⟨sd, m, k, SD, rfl, _⟩ := h
    rfl
  · obtain ⟨sd, m, k, SD, rfl, ⟨ts, hsd, htp⟩, hSl, hPv, hPe, hm, hm12, hk, q⟩ := h
    obtain ⟨tl, tat⟩ := tps_at htp
    have hkm : k * m ≤ 4 * 12 := Nat.mul_le_mul hk hm12
    refine q_asgL (el_lst ea_nil (by simp)) fun p H1 hp e1 h1 => ?_
    try dsimp only [List.set]
    refine q_forLn (by exact ev_var rfl) (sq_of (e1 _ _ hsd)) (fun i σ' H' => Ex H H' ∧ ∃ rs RW, H' p = some (.lst (rs.map V.ref)) ∧ Rw .lst H' rs RW ∧ (∀ x ∈ rs, x ≠ p) ∧ (∀ v, v ∈ RW ↔ ∃ q ∈ SD.take i, ∃ st, st < m ∧ v = cvec k m st q) ∧ RW.length ≤ 20 * i ∧ ∃ v4 v5 v6 v7 v8 v9, σ' = [some (.ref sd), some (.int (m : Int)), some (.int (k : Int)), some (.ref p), v4, v5, v6, v7, v8, v9])
      (fun H2 e2 => ⟨e1.trans e2, [], [], e2 _ _ h1, ⟨rfl, fun k hk => absurd hk (Nat.not_lt_zero _)⟩, (fun x hx => by cases hx), (fun v => ⟨fun h => (by cases h), fun ⟨q, hq, _⟩ => (by cases hq)⟩), Nat.le_refl _, _, _, _, _, _, _, rfl⟩) (fun i σ' H' _ h => sq_of (h.1 _ _ hsd)) ?_ ?_
    · rintro i x σ' H2 hi ⟨e2, rs, RW, g1, g2, g3, g4, g5, v4, v5, v6, v7, v8, v9, rfl⟩
      rw [List.getElem?_map] at hi
      cases hti : ts[i]? with
      | none => rw [hti] at hi; cases hi
      | some t =>
      rw [hti] at hi
      cases hi
      have hit : i < ts.length := (List.getElem?_eq_some_iff.mp hti).1
      have hSi : SD[i]? = some (SD[i]'(by omega)) := List.getElem?_eq_getElem (by omega)
      generalize (SD[i]'(by omega)) = pq at hSi
      have ht := tat i t pq hti hSi
      have hmem := List.mem_of_getElem? hSi
      obtain ⟨⟨kn1, kn2⟩, l1, l2⟩ := hPv pq hmem
      have hle := hPe pq hmem
      try dsimp only [List.set]
      have ix0 : ∀ {σ : L2.St} {H1 : Hp}, Ex H H1 → σ[4]? = some (some (.ref t)) → Ev (tOp (rIxT K) (tVar 4) (tC (.int 0))) σ H1 (.str (S pq.1)) := fun e h0 => ev_op (ev_var h0) ev_c (rv_ixT (st_of (e _ _ ht)) rfl)
      have ix1 : ∀ {σ : L2.St} {H1 : Hp}, Ex H H1 → σ[4]? = some (some (.ref t)) → Ev (tOp (rIxT K) (tVar 4) (tC (.int 1))) σ H1 (.str (S pq.2)) := fun e h0 => ev_op (ev_var h0) ev_c (rv_ixT (st_of (e _ _ ht)) rfl)
      refine s_forR1 (n := (m : Int)) (ea_cons (by exact ev_var rfl) ea_nil) (by omega) (fun j σ' H' => Ex H H' ∧ ∃ rs RW, H' p = some (.lst (rs.map V.ref)) ∧ Rw .lst H' rs RW ∧ (∀ x ∈ rs, x ≠ p) ∧ (∀ v, v ∈ RW ↔ (∃ q ∈ SD.take i, ∃ st, st < m ∧ v = cvec k m st q) ∨ ∃ st, st < j ∧ v = cvec k m st pq) ∧ RW.length ≤ 20 * i + j ∧ ∃ v5 v6 v7 v8 v9, σ' = [some (.ref sd), some (.int (m : Int)), some (.int (k : Int)), some (.ref p), some (.ref t), v5, v6, v7, v8, v9])
        (fun H3 e3 => ⟨e2.trans e3, rs, RW, e3 _ _ g1, g2.ex e3, g3, (fun v => by rw [g4]; exact ⟨.inl, fun h => h.elim id fun ⟨st, h, _⟩ => absurd h (Nat.not_lt_zero _)⟩), by omega, _, _, _, _, _, rfl⟩) ?_ ?_
      · clear e2 g1 g2 g3 g4 g5
        rintro j σ' H3 hj ⟨e3, rs, RW, g1, g2, g3, g4, g5, v5, v6, v7, v8, v9, rfl⟩
        try dsimp only [List.set]
        refine q_asgL (xs := List.replicate (k * m) (V.int 0)) (el_rep (el_lst (ea_cons ev_c ea_nil) (by simp)) (fun H4 e4 => ev_is (ev_op (x := .int (k : Int)) (y := .int (m : Int)) (by exact ev_var rfl) (by exact ev_var rfl) (rv_I (.inl ⟨by omega, by omega⟩))) (by rw [Int.natCast_mul])) (by omega)) fun rA H4 hrA e4 h4 => ?_
        try dsimp only [List.set]
        have hz4 : H4 rA = some (.lst ((cvw m j pq (List.replicate (k * m) 0) 0).map V.int)) := by
          rw [h4]
          show _ = some (HO.lst ((List.replicate (k * m) (0 : Int)).map V.int))
          rw [List.map_replicate]
        have hpr : p ≠ rA := fun z => by rw [z, hrA] at g1; cases g1
        have htr : ∀ {b : Addr} {o : HO}, H b = some o → b ≠ rA := fun hb z => by rw [z, fresh_back e3 hrA] at hb; cases hb
        have hrs : ∀ x ∈ rs, x ≠ rA := fun x hx z => by
          obtain ⟨n, hn, rfl⟩ := mem_getD hx
          have h := g2.row n (by rw [← g2.len]; exact hn)
          rw [z, hrA] at h
          cases h
        refine q_forR1 (n := (pq.1.length : Int)) (ea_cons (ev_cb (ea_cons (ix0 (e3.trans e4) rfl) ea_nil) (rc_lenStr (by omega))) ea_nil) (by omega) (fun n σ' H' => ExB rA H4 H' ∧ n ≤ pq.1.length ∧ H' rA = some (.lst ((cvw m j pq (List.replicate (k * m) 0) n).map V.int)) ∧ ∃ v7 v8 v9, σ' = [some (.ref sd), some (.int (m : Int)), some (.int (k : Int)), some (.ref p), some (.ref t), some (.int (j : Int)), some (.ref rA), v7, v8, v9])
          (fun H5 e5 => ⟨ExB.of e5, Nat.zero_le _, e5 _ _ hz4, _, _, _, rfl⟩) ?_ ?_
        · rintro n σ' H5 hn ⟨x5, hn2, g6, v7, v8, v9, rfl⟩
          have hnl : n < pq.1.length := by omega
          try dsimp only [List.set]
          have E5 : Ex H H5 := fun b o hb => x5 b o (htr hb) ((e3.trans e4) b o hb)
          refine q_asg (v := .int (((j + n) % m : Nat) : Int)) (ev_is (ev_op (ev_cb (ea_cons (ev_op (by exact ev_var rfl) (by exact ev_var rfl) rv_I0) ea_nil) rc_intI) (by exact ev_var rfl) (rv_I (show (0 : Int) < (m : Int) by omega))) (by rw [Int.natCast_emod, Int.natCast_add])) fun H6 e6 => ?_
          try dsimp only [List.set]
          have c1 := kn1.at_ hnl
          have c2 := kn2.at_ (i := n) (by omega)
          obtain ⟨sg1, _⟩ := kd_w hk c1
          obtain ⟨sg2, _⟩ := kd_w hk c2
          have gd1 : pq.1.getD n 0 = pq.1.getD n 46 := by rw [List.getD_eq_getElem?_getD, List.getD_eq_getElem?_getD, List.getElem?_eq_getElem hnl]; rfl
          have gd2 : pq.2.getD n 0 = pq.2.getD n 46 := by rw [List.getD_eq_getElem?_getD, List.getD_eq_getElem?_getD, List.getElem?_eq_getElem (by omega)]; rfl
          refine q_asg (v := .int (kd (pq.1.getD n 46))) (ev_call (ea_cons (ev_is (ev_op (ix0 (E5.trans e6) rfl) (by exact ev_var rfl) (rv_ixSS (i := (n : Int)) (by omega) (by omega) (by omega))) (by rw [Int.toNat_natCast, gd1])) ea_nil) fun H7 e7 Q7 q7 E7 => ⟨_, rfl, sg1, q7⟩) fun H7 e7 => ?_
          try dsimp only [List.set]
          refine q_cutS (s_bmp (k := k) (d := 1) (v := cvw m j pq (List.replicate (k * m) 0) n) hm hk c1 (by rw [cvw_len, List.length_replicate]) ((e6.trans e7) _ _ g6) hm12 (fun x => rfl) rfl fun H8 x8 g8 => ?_)
          try dsimp only [List.set]
          have x58 : ExB rA H5 H8 := (ExB.of (e6.trans e7)).trans x8
          have E8 : Ex H H8 := fun b o hb => x58 b o (htr hb) (E5 b o hb)
          refine q_asg (v := .int (kd (pq.2.getD n 46))) (ev_call (ea_cons (ev_is (ev_op (ix1 E8 rfl) (by exact ev_var rfl) (rv_ixSS (i := (n : Int)) (by omega) (by omega) (by omega))) (by rw [Int.toNat_natCast, gd2])) ea_nil) fun H9 e9 Q9 q9 E9 => ⟨_, rfl, sg2, q9⟩) fun H9 e9 => ?_
          try dsimp only [List.set]
          refine s_bmp (k := k) (d := -1) (v := bmp m j 1 (cvw m j pq (List.replicate (k * m) 0) n) n (pq.1.getD n 46)) hm hk c2 (by rw [bmp_len, cvw_len, List.length_replicate]) (e9 _ _ g8) hm12 (fun x => rfl) rfl fun H10 x10 g10 => ?_
          exact ⟨((x5.trans x58).trans (ExB.of e9)).trans x10, by omega, g10, _, _, _, rfl⟩
        rintro σ' H5 ⟨x5, _, g6, v7, v8, v9, rfl⟩
        rw [Int.toNat_natCast] at g6
        have E5 : Ex H H5 := fun b o hb => x5 b o (htr hb) ((e3.trans e4) b o hb)
        have gp := x5 _ _ hpr (e4 _ _ g1)
        have gR := (g2.ex e4).exB x5 hrs
        have g6 : H5 rA = some (.lst ((cvec k m j pq).map V.int)) := g6
        refine s_when (b := !decide (cvec k m j pq ∈ RW)) (et_test (ev_op (by exact ev_var rfl) (by exact ev_var rfl) (rv_notInG g6 gp gR))) (fun hb H6 e6 => ?_) fun hb H6 e6 => ?_
        · have hnot : cvec k m j pq ∉ RW := by simpa using hb
          refine s_app (e6 _ _ gp) (by exact ev_var rfl) (by exact ev_var rfl) (by rw [List.length_map, gR.len]; omega) fun H7 e7 => ?_
          have e67 := e6.trans e7
          have gR7 : Rw .lst (upd H7 p (.lst (rs.map V.ref ++ [.ref rA]))) rs RW := (gR.ex e67).exB ExB.upd g3
          refine ⟨(E5.trans e67).mut hp, rs ++ [rA], RW ++ [cvec k m j pq], by rw [upd_same, List.map_append]; rfl, ?_, ?_, ?_, by rw [List.length_append]; simp; omega, _, _, _, _, _, rfl⟩
          · refine ⟨by rw [List.length_append, List.length_append, gR7.len]; rfl, fun n hn => ?_⟩
            by_cases hnl : n < RW.length
            · have a1 : (rs ++ [rA]).getD n 0 = rs.getD n 0 := by rw [List.getD_eq_getElem?_getD, List.getElem?_append_left (by rw [gR7.len]; exact hnl), ← List.getD_eq_getElem?_getD]
              have a2 : (RW ++ [cvec k m j pq]).getD n [] = RW.getD n [] := by rw [List.getD_eq_getElem?_getD, List.getElem?_append_left hnl, ← List.getD_eq_getElem?_getD]
              rw [a1, a2]
              exact gR7.row n hnl
            · have hn2 : n = RW.length := by
                rw [List.length_append, List.length_singleton] at hn
                omega
              have a1 : (rs ++ [rA]).getD n 0 = rA := by rw [hn2, ← gR7.len, List.getD_eq_getElem?_getD, List.getElem?_append_right (Nat.le_refl _), Nat.sub_self]; rfl
              have a2 : (RW ++ [cvec k m j pq]).getD n [] = cvec k m j pq := by rw [hn2, List.getD_eq_getElem?_getD, List.getElem?_append_right (Nat.le_refl _), Nat.sub_self]; rfl
              rw [a1, a2, upd_ne (Ne.symm hpr)]
              exact e67 _ _ g6
          · intro x hx
            rcases List.mem_append.mp hx with hx | hx
            · exact g3 x hx
            · rw [List.mem_singleton.mp hx]
              exact Ne.symm hpr
          · intro v
            rw [List.mem_append, List.mem_singleton, g4]
            constructor
            · rintro ((h | ⟨st, h, e⟩) | e)
              · exact .inl h
              · exact .inr ⟨st, by omega, e⟩
              · exact .inr ⟨j, by omega, e⟩
            · rintro (h | ⟨st, h, e⟩)
              · exact .inl (.inl h)
              · by_cases hs : st < j
                · exact .inl (.inr ⟨st, hs, e⟩)
                · have : st = j := by omega
                  rw [this] at e
                  exact .inr e
        · have hin : cvec k m j pq ∈ RW := by simpa using hb
          refine ⟨E5.trans e6, rs, RW, e6 _ _ gp, gR.ex e6, g3, fun v => ?_, by omega, _, _, _, _, _, rfl⟩
          rw [g4]
          constructor
          · rintro (h | ⟨st, h, e⟩)
            · exact .inl h
            · exact .inr ⟨st, by omega, e⟩
          · rintro (h | ⟨st, h, e⟩)
            · exact .inl h
            · by_cases hs : st < j
              · exact .inr ⟨st, hs, e⟩
              · have : st = j := by omega
                rw [this] at e
                rw [e]
                exact (g4 _).mp hin
      · clear e2 g1 g2 g3 g4 g5
        rintro σ' H3 ⟨e3, rs, RW, g1, g2, g3, g4, g5, v5, v6, v7, v8, v9, rfl⟩
        rw [Int.toNat_natCast] at g4 g5
        refine ⟨e3, rs, RW, g1, g2, g3, fun v => ?_, by omega, _, _, _, _, _, _, rfl⟩
        rw [g4, take_snoc hSi]
        constructor
        · rintro (⟨q, hq, h⟩ | h)
          · exact ⟨q, List.mem_append_left _ hq, h⟩
          · exact ⟨pq, List.mem_append_right _ (by simp), h⟩
        · rintro ⟨q, hq, h⟩
          rcases List.mem_append.mp hq with hq | hq
          · exact .inl ⟨q, hq, h⟩
          · rw [List.mem_singleton.mp hq] at h
            exact .inr h
    · rintro σ' H2 ⟨e2, rs, RW, g1, g2, g3, g4, g5, v4, v5, v6, v7, v8, v9, rfl⟩
      rw [List.length_map, tl] at g4 g5
      rw [List.take_length] at g4
      exact s_ret (by exact ev_var rfl) fun H3 e3 => q p rs RW H3 hp (e2.trans e3) (e3 _ _ g1) (g2.ex e3) g4 (by omega)

end
end K57
namespace K57
open PySem PySem.Spec PyProof.Rows L2 Lc Evl
section
variable {P : Program} {w : World} {K : PySem.W.Frag} {mg : Str → Option Value} {base : Heap}
/-! ### how many tables, and how high -/
def tot (B n : Nat) : Nat := if B ^ n ≤ 20001 then B ^ n else 20001
theorem tot_succ {B n : Nat} (hB : 0 < B) : tot B (n + 1) = if 20001 < tot B n * B then 20001 else tot B n * B := by
  unfold tot
  by_cases h : B ^ n ≤ 20001
  · rw [if_pos h, Nat.pow_succ]
    by_cases h2 : B ^ n * B ≤ 20001
    · rw [if_pos h2, if_neg (by omega)]
    · rw [if_neg h2, if_pos (by omega)]
  · rw [if_neg h]
    have h1 : B ^ n ≤ B ^ (n + 1) := Nat.pow_le_pow_right hB (Nat.le_succ n)
    rw [if_neg (by omega)]
    by_cases hb1 : B = 1
    · subst hb1
      rw [Nat.one_pow] at h
      omega
    · rw [if_pos (by
        have := Nat.mul_le_mul_left 20001 (show 2 ≤ B by omega)
        omega)]
theorem tot_le (B n : Nat) : tot B n ≤ 20001 := by
  unfold tot
  split <;> omega
theorem tot_eq {B n : Nat} (h : B ^ n ≤ 20000) : tot B n = B ^ n := by
  unfold tot
  rw [if_pos (by omega)]
theorem tot_small {B n : Nat} (h : tot B n ≤ 20000) : B ^ n = tot B n := by
  unfold tot at h ⊢
  split at h
  · rename_i h2
    rw [if_pos h2]
  · omega
theorem tot_big {B n : Nat} (h : 20000 < tot B n) : 20000 < B ^ n := by
  unfold tot at h
  split at h
  · omega
  · omega
def sp_law_total (K : PySem.W.Frag) : Sp := fun vs H Q _ => ∃ (B n : Nat), vs = [.int ((B : Int) - 1), .int (n : Int)] ∧ 0 < B ∧ n ≤ 1000 ∧ RetV (.int (tot B n : Nat)) H Q
theorem ok_law_total (T : Tx K mg w) : OkD P w K mg base 1 d_law_total ps_law_total (sp_law_total K) := by
  refine (h_law_total T).ok sc_law_total (fun vs H Q E h => ?_) (fun cdv A outer s H vs Q E hr h => ⟨_,
      (pss_cons (ps_set (i := 2) sc_law_total.nd rfl (Or.inl rfl) pe_int)
      (pss_cons (ps_for (passes_of rfl) rfl (pi_range1 rfl (m_range T) (pa_cons (pv 1) pa_nil)) (pg_name (i := 3) sc_law_total.nd rfl (Or.inl rfl)) (pss_one (ps_set (i := 2) sc_law_total.nd rfl (Or.inl rfl) (pe_callB (call_min2 rfl) (by rfl) (m_min T) (by decide +kernel) (pa_cons (pe_op op_mul (pv 2) (pe_op op_add (pv 0) pe_int)) (pa_cons pe_int pa_nil))))))
      (pss_one (ps_ret (pv 2))))), ?_⟩)
  · obtain ⟨B, n, rfl, _⟩ := h
    rfl
  · obtain ⟨B, n, rfl, hB, hn, q⟩ := h
    refine q_asg (v := .int 1) ev_c fun H1 e1 => ?_
    try dsimp only [List.set]
    refine q_forR1 (n := (n : Int)) (ea_cons (by exact ev_var rfl) ea_nil) (by omega) (fun i σ' H' => Ex H H' ∧ ∃ v3, σ' = [some (.int ((B : Int) - 1)), some (.int (n : Int)), some (.int (tot B i : Nat)), v3])
      (fun H2 e2 => ⟨e1.trans e2, none, by unfold tot; rw [Nat.pow_zero]; rfl⟩) ?_ ?_
    · rintro i σ' H2 hi ⟨e2, v3, rfl⟩
      try dsimp only [List.set]
      have hl := tot_le B i
      have hs := tot_succ (B := B) (n := i) hB
      refine s_asg (v := .int (tot B (i + 1) : Nat)) (ev_is (ev_cb (ea_cons (ev_op (x := .int (tot B i : Nat)) (y := .int (B : Int)) (by exact ev_var rfl) (ev_is (ev_op (by exact ev_var rfl) ev_c rv_I0) (by rw [Int.sub_add_cancel])) (rv_I (.inl ⟨by omega, by omega⟩))) (ea_cons ev_c ea_nil)) rc_min2) (by
        rw [hs]
        congr 1
        rw [← Int.natCast_mul]
        by_cases h : 20001 < tot B i * B
        · rw [if_pos h, if_pos (by omega)]
          rfl
        · rw [if_neg h, if_neg (by omega)])) fun H3 e3 => ⟨e2.trans e3, _, rfl⟩
    · rintro σ' H2 ⟨e2, v3, rfl⟩
      rw [Int.toNat_natCast]
      exact s_ret (by exact ev_var rfl) fun H3 e3 => q H3 (e2.trans e3)
def sp_law_greatest (K : PySem.W.Frag) : Sp := fun vs H Q _ => ∃ (lim n : Nat), vs = [.int (lim : Int), .int (n : Int)] ∧ 0 < lim ∧ lim ≤ 20000 ∧ 0 < n ∧ n ≤ 1000 ∧ ∀ (g : Nat) H', Ex H H' → tot (g + 1) n ≤ lim → lim < tot (g + 2) n → g ≤ 20000 → Q (.int (g : Int)) H'
theorem ok_law_greatest (T : Tx K mg w) : OkD P w K mg base 2 d_law_greatest ps_law_greatest (sp_law_greatest K) := by
  refine (h_law_greatest T).ok sc_law_greatest (fun vs H Q E h => ?_) (fun cdv A outer s H vs Q E hr h => ⟨_,
      (pss_cons (ps_set (i := 2) sc_law_greatest.nd rfl (Or.inl rfl) pe_int)
      (pss_cons (ps_set (i := 3) sc_law_greatest.nd rfl (Or.inl rfl) (pe_op op_add (pv 0) pe_int))
      (pss_cons (ps_for (passes_of rfl) rfl (pi_range1 rfl (m_range T) (pa_cons pe_int pa_nil)) (pg_name (i := 4) sc_law_greatest.nd rfl (Or.inl rfl)) (pss_cons (ps_set (i := 5) sc_law_greatest.nd rfl (Or.inl rfl) (pe_op op_fdivW (pe_op op_add (pv 2) (pv 3)) pe_int))
      (pss_one (ps_if (pt_cmpR op_le (pe_call (ok_law_total (P := P) (w := w) (base := base) T) (hr.mono (by decide)) (by rfl) (m_law_total T) (k_law_total T) (b_law_total T) .nil passN (pa_cons (pv 5) (pa_cons (pv 1) pa_nil))) (pv 0) (nomark _)) (pss_one (ps_set (i := 2) sc_law_greatest.nd rfl (Or.inl rfl) (pv 5))) (pss_one (ps_set (i := 3) sc_law_greatest.nd rfl (Or.inl rfl) (pv 5)))))))
      (pss_one (ps_ret (pv 2)))))), ?_⟩)
  · obtain ⟨lim, n, rfl, _⟩ := h
    rfl
  · obtain ⟨lim, n, rfl, hl0, hl, hn0, hn, q⟩ := h
    refine q_asg (v := .int 0) ev_c fun H1 e1 => ?_
    try dsimp only [List.set]
    refine q_asg (v := .int ((lim + 1 : Nat) : Int)) (ev_is (ev_op (by exact ev_var rfl) ev_c rv_I0) (by rw [Int.natCast_add]; rfl)) fun H2 e2 => ?_
    try dsimp only [List.set]
    have t0 : tot (0 + 1) n ≤ lim := by
      rw [tot_eq (by rw [Nat.zero_add, Nat.one_pow]; decide), Nat.zero_add, Nat.one_pow]
      exact hl0
    have t1 : lim < tot (lim + 1 + 1) n := by
      unfold tot
      split
      · have : lim + 1 + 1 ≤ (lim + 1 + 1) ^ n := Nat.le_self_pow (by omega) _
        omega
      · omega
    refine q_forR1 (n := 16) (ea_cons ev_c ea_nil) (by omega) (fun i σ' H' => Ex H H' ∧ ∃ (l t : Nat) (v4 v5 : Option V), l < t ∧ t ≤ 20001 ∧ t - l ≤ 2 ^ (15 - i) ∧ tot (l + 1) n ≤ lim ∧ lim < tot (t + 1) n ∧ σ' = [some (.int (lim : Int)), some (.int (n : Int)), some (.int (l : Int)), some (.int (t : Int)), v4, v5])
      (fun H3 e3 => ⟨(e1.trans e2).trans e3, 0, lim + 1, none, none, by omega, by omega, by
        show lim + 1 - 0 ≤ 2 ^ (15 - 0)
        have : (2 : Nat) ^ (15 - 0) = 32768 := by decide
        omega, t0, t1, rfl⟩) ?_ ?_
    · rintro i σ' H3 hi ⟨e3, l, t, v4, v5, hlt, ht, hw, hl1, ht1, rfl⟩
      try dsimp only [List.set]
      have hw2 : (t - l + 1) / 2 ≤ 2 ^ (15 - (i + 1)) := by
        by_cases h15 : i < 15
        · have : 15 - i = (15 - (i + 1)) + 1 := by omega
          rw [this, Nat.pow_succ] at hw
          omega
        · have h1 : 15 - i = 0 := by omega
          have h2 : 15 - (i + 1) = 0 := by omega
          rw [h1] at hw
          rw [h2]
          omega
      obtain ⟨md, hmd⟩ : ∃ md, (l + t) / 2 = md := ⟨_, rfl⟩
      refine q_asg (v := .int (md : Int)) (ev_is (ev_op (ev_op (by exact ev_var rfl) (by exact ev_var rfl) rv_I0) ev_c (rv_I ⟨by decide, by decide⟩)) (by rw [← hmd, Int.natCast_ediv, Int.natCast_add]; rfl)) fun H4 e4 => ?_
      try dsimp only [List.set]
      refine s_if (b := decide ((tot (md + 1) n : Int) ≤ (lim : Int))) (et_test (ev_op (ev_call (ea_cons (by exact ev_var rfl) (ea_cons (by exact ev_var rfl) ea_nil)) fun H5 e5 Q5 q5 E5 => ⟨md + 1, n, by rw [Int.natCast_add]; show [V.int (md : Int), V.int (n : Int)] = [V.int ((md : Int) + 1 - 1), V.int (n : Int)]; rw [Int.add_sub_cancel], by omega, hn, q5⟩) (by exact ev_var rfl) rv_I0)) (fun hb H5 e5 => ?_) fun hb H5 e5 => ?_
      · have hb := of_decide_eq_true hb
        exact s_asg (by exact ev_var rfl) fun H6 e6 => ⟨((e3.trans e4).trans e5).trans e6, md, t, _, _, by omega, ht, by omega, by omega, ht1, rfl⟩
      · have hb := of_decide_eq_false hb
        have hne : md ≠ l := fun z => by rw [z] at hb; omega
        exact s_asg (by exact ev_var rfl) fun H6 e6 => ⟨((e3.trans e4).trans e5).trans e6, l, md, _, _, by omega, by omega, by omega, hl1, by omega, rfl⟩
    · rintro σ' H3 ⟨e3, l, t, v4, v5, hlt, ht, hw, hl1, ht1, rfl⟩
      have : t = l + 1 := by
        have h0 : (15 : Nat) - (16 : Int).toNat = 0 := by decide
        rw [h0] at hw
        omega
      subst this
      exact s_ret (by exact ev_var rfl) fun H4 e4 => q l H4 (e3.trans e4) hl1 ht1 (by omega)
/-! ### the tables that are due -/
theorem lsb_snoc (B : Nat) : ∀ s n, lsb B (s + 1) n = lsb B s n ++ [((n / B ^ s % B : Nat) : Int)]
  | 0, n => by
    show [((n % B : Nat) : Int)] = [] ++ [((n / 1 % B : Nat) : Int)]
    rw [Nat.div_one]
    rfl
  | s + 1, n => by
    have ih := lsb_snoc B s (n / B)
    show ((n % B : Nat) : Int) :: lsb B (s + 1) (n / B) = (((n % B : Nat) : Int) :: lsb B s (n / B)) ++ [((n / B ^ (s + 1) % B : Nat) : Int)]
    rw [ih, Nat.pow_succ, Nat.mul_comm (B ^ s) B, ← Nat.div_div_eq_div_mul]
    rfl
theorem rev_L {σ : L2.St} {H : Hp} {te : TE} {a : Addr} {xs : List V} (h : Ev te σ H (.ref a)) (hx : SqL K H a xs) : EvL (L2.tRevL K te) σ H xs.reverse := fun H1 e Q q => h H1 e _ fun H2 e2 => ⟨a, xs, rfl, ex_l (e.trans e2) hx, fun p hp => q p _ (fresh_back e2 hp) (e2.trans (Ex.new hp)) upd_same⟩
def dueL (B s : Nat) (RW : List (List Int)) (n : Nat) : List (List Int) := ((List.range n).map (dgt B s)).filter fun F => RW.all fun v => !decide (dot v F < 0)
theorem dueL_succ (B s : Nat) (RW : List (List Int)) (n : Nat) : dueL B s RW (n + 1) = dueL B s RW n ++ (if (RW.all fun v => !decide (dot v (dgt B s n) < 0)) = true then [dgt B s n] else []) := by
  unfold dueL
  rw [List.range_succ, List.map_append, List.filter_append]
  simp only [List.map_cons, List.map_nil, List.filter_cons, List.filter_nil]
theorem dueL_len (B s : Nat) (RW : List (List Int)) (n : Nat) : (dueL B s RW n).length ≤ n := by
  have h2 := List.length_filter_le (fun F => RW.all fun v => !decide (dot v F < 0)) ((List.range n).map (dgt B s))
  rw [List.length_map, List.length_range] at h2
  exact h2
def sp_law_due (K : PySem.W.Frag) : Sp := fun vs H Q _ => ∃ (r : Addr) (B s : Nat) (rs : List Addr) (RW : List (List Int)), vs = [.ref r, .int ((B : Int) - 1), .int (s : Int)] ∧ H r = some (.lst (rs.map V.ref)) ∧ Rw .lst H rs RW ∧ (∀ v ∈ RW, v.length = s) ∧ RW.length ≤ 2000 ∧ 0 < B ∧ B ≤ 20000 ∧ s ≤ 100 ∧ B ^ s ≤ 20000 ∧
  ∀ p ds H', H p = none → Ex H H' → H' p = some (.lst (ds.map V.ref)) → Rw .lst H' ds (dueL B s RW (B ^ s)) → Q (.ref p) H'
theorem ok_law_due (T : Tx K mg w) : OkD P w K mg base 2 d_law_due ps_law_due (sp_law_due K) := by
  refine (h_law_due T).ok sc_law_due (fun vs H Q E h => ?_) (fun cdv A outer s H vs Q E hr h => ⟨_,
      (pss_cons (ps_set (i := 3) sc_law_due.nd rfl (Or.inl rfl) (pe_lst pa_nil))
      (pss_cons (ps_for (passes_of rfl) rfl (pi_range1 rfl (m_range T) (pa_cons (pe_call (ok_law_total (P := P) (w := w) (base := base) T) (hr.mono (by decide)) (by rfl) (m_law_total T) (k_law_total T) (b_law_total T) .nil passN (pa_cons (pv 1) (pa_cons (pv 2) pa_nil))) pa_nil)) (pg_name (i := 4) sc_law_due.nd rfl (Or.inl rfl)) (pss_cons (ps_set (i := 5) sc_law_due.nd rfl (Or.inl rfl) (pe_lst pa_nil))
      (pss_cons (ps_for (passes_of rfl) rfl (pi_range1 rfl (m_range T) (pa_cons (pv 2) pa_nil)) (pg_name (i := 6) sc_law_due.nd rfl (Or.inl rfl)) (pss_cons (ps_expr (pe_bm PySem.F.plainAttrs_list PySem.F.slot_list_append PySem.F.type_list_append mt_append (pv 5) (pa_cons (pe_op op_mod (pe_callTy call_int1 (by rfl) (m_int T) (by decide +kernel) (pa_cons (pv 4) pa_nil)) (pe_op op_add (pv 1) pe_int)) pa_nil)))
      (pss_one (ps_set (i := 4) sc_law_due.nd rfl (Or.inl rfl) (pe_op op_fdivW (pv 4) (pe_op op_add (pv 1) pe_int))))))
      (pss_cons (ps_set (i := 5) sc_law_due.nd rfl (Or.inl rfl) (L2.pe_revL (pv 5)))
      (pss_one (ps_if (pt_val (pe_call (ok_law_falls (P := P) (w := w) (base := base) T) (hr.mono (by decide)) (by rfl) (m_law_falls T) (k_law_falls T) (b_law_falls T) .nil passN (pa_cons (pv 0) (pa_cons (pv 5) pa_nil)))) (pss_one (ps_expr (pe_bm PySem.F.plainAttrs_list PySem.F.slot_list_append PySem.F.type_list_append mt_append (pv 3) (pa_cons (pv 5) pa_nil)))) pss_nil))))))
      (pss_one (ps_ret (pv 3))))), ?_⟩)
  · obtain ⟨r, B, s, rs, RW, rfl, _⟩ := h
    rfl
  · obtain ⟨r, B, s, rs, RW, rfl, hr, hR, hw, hRl, hB, hB2, hs, hBs, q⟩ := h
    refine q_asgL (el_lst ea_nil (by simp)) fun p H1 hp e1 h1 => ?_
    try dsimp only [List.set]
    refine q_forR1 (n := ((B ^ s : Nat) : Int)) (ea_cons (ev_call (ea_cons (by exact ev_var rfl) (ea_cons (by exact ev_var rfl) ea_nil)) fun H2 e2 Q2 q2 E2 => ⟨B, s, rfl, hB, by omega, by rw [tot_eq hBs]; exact q2⟩) ea_nil) (by omega) (fun i σ' H' => Ex H H' ∧ ∃ ds, H' p = some (.lst (ds.map V.ref)) ∧ Rw .lst H' ds (dueL B s RW i) ∧ (∀ x ∈ ds, x ≠ p) ∧ ∃ v4 v5 v6, σ' = [some (.ref r), some (.int ((B : Int) - 1)), some (.int (s : Int)), some (.ref p), v4, v5, v6])
      (fun H2 e2 => ⟨e1.trans e2, [], e2 _ _ h1, ⟨rfl, fun k hk => absurd hk (Nat.not_lt_zero _)⟩, (fun x hx => by cases hx), _, _, _, rfl⟩) ?_ ?_
    · rintro i σ' H2 hi ⟨e2, ds, g1, g2, g3, v4, v5, v6, rfl⟩
      have hil : i < B ^ s := by omega
      try dsimp only [List.set]
      refine q_asgL (xs := []) (el_lst ea_nil (by simp)) fun f H3 hf e3 h3 => ?_
      try dsimp only [List.set]
      have hpf : p ≠ f := fun z => by rw [z, hf] at g1; cases g1
      have hf0 : H f = none := fresh_back e2 hf
      have hdsf : ∀ x ∈ ds, x ≠ f := fun x hx z => by
        obtain ⟨n, hn, rfl⟩ := mem_getD hx
        have h := g2.row n (by rw [← g2.len]; exact hn)
        rw [z, hf] at h
        cases h
      have htr : ∀ {b : Addr} {o : HO}, H b = some o → b ≠ f := fun hb z => by rw [z, hf0] at hb; cases hb
      refine q_forR1 (n := (s : Int)) (ea_cons (by exact ev_var rfl) ea_nil) (by omega) (fun k σ' H' => ExB f H3 H' ∧ H' f = some (.lst ((lsb B k i).map V.int)) ∧ ∃ v6, σ' = [some (.ref r), some (.int ((B : Int) - 1)), some (.int (s : Int)), some (.ref p), some (.int ((i / B ^ k : Nat) : Int)), some (.ref f), v6])
        (fun H4 e4 => ⟨ExB.of e4, e4 _ _ h3, _, by rw [Nat.pow_zero, Nat.div_one]⟩) ?_ ?_
      · rintro k σ' H4 hk ⟨x4, g4, v6, rfl⟩
        try dsimp only [List.set]
        have hll : (lsb B k i).length = k := by
          have := congrArg List.length (lsb_rev B k i)
          rwa [List.length_reverse, dgt_len] at this
        have hbb : ∀ H5, Ev (tOp (rI0 fun i j => V.int (i + j)) (tVar 1) (tC (.int 1))) [some (.ref r), some (.int ((B : Int) - 1)), some (.int (s : Int)), some (.ref p), some (.int ((i / B ^ k : Nat) : Int)), some (.ref f), some (.int (k : Int))] H5 (.int (B : Int)) := fun H5 => ev_is (ev_op (by exact ev_var rfl) ev_c rv_I0) (by rw [Int.sub_add_cancel])
        refine q_cutS (s_app g4 (by exact ev_var rfl) (v := .int ((i / B ^ k % B : Nat) : Int)) (ev_is (ev_op (ev_cb (ea_cons (by exact ev_var rfl) ea_nil) rc_intI) (hbb _) (rv_I (show (0 : Int) < (B : Int) by omega))) (by rw [Int.natCast_emod])) (by rw [List.length_map, hll]; omega) fun H5 e5 => ?_)
        try dsimp only
        refine s_asg (v := .int ((i / B ^ (k + 1) : Nat) : Int)) (ev_is (ev_op (by exact ev_var rfl) (hbb _) (rv_I ⟨by omega, by
          have : (B : Int).natAbs.log2 ≤ (B : Int).natAbs := Nat.log2_le_self _
          rw [Int.natAbs_natCast] at this ⊢
          have h2 : B.log2 < 15 := (Nat.log2_lt (by omega)).mpr (Nat.lt_of_le_of_lt hB2 (by decide))
          omega⟩)) (by rw [Nat.pow_succ, ← Nat.div_div_eq_div_mul, Int.natCast_ediv (i / B ^ k) B])) fun H6 e6 => ?_
        refine ⟨((x4.trans (ExB.of e5)).trans ExB.upd).trans (ExB.of e6), ?_, _, rfl⟩
        refine e6 _ _ ?_
        rw [upd_same, lsb_snoc, List.map_append]
        rfl
      rintro σ' H4 ⟨x4, g4, v6, rfl⟩
      rw [Int.toNat_natCast] at g4
      have E4 : Ex H H4 := fun b o hb => x4 b o (htr hb) ((e2.trans e3) b o hb)
      have gp := x4 _ _ hpf (e3 _ _ g1)
      have gR := (g2.ex e3).exB x4 hdsf
      refine q_asgL (rev_L (K := K) (by exact ev_var rfl) (sq_of g4)) fun a H5 ha e5 h5 => ?_
      try dsimp only [List.set]
      rw [← List.map_reverse, lsb_rev] at h5
      have hpa : p ≠ a := fun z => by rw [z, ha] at gp; cases gp
      have hln := dgt_len B s i
      have hsm : Sml (dgt B s i) := fun x hx => by
        have := dgt_in hB s i x hx
        omega
      have hsucc := dueL_succ B s RW i
      have hdl := dueL_len B s RW i
      refine s_when (b := RW.all fun v => !decide (dot v (dgt B s i) < 0)) (et_B (ev_call (ea_cons (by exact ev_var rfl) (ea_cons (by exact ev_var rfl) ea_nil)) fun H6 e6 Q6 q6 E6 => ⟨r, a, rs, RW, dgt B s i, rfl, ((E4.trans e5).trans e6) _ _ hr, hR.ex ((E4.trans e5).trans e6), e6 _ _ h5, fun v hv => by rw [hw v hv, hln], by omega, by omega, hsm, q6⟩)) (fun hb H6 e6 => ?_) fun hb H6 e6 => ?_
      · have e56 := e5.trans e6
        have gp6 := e56 _ _ gp
        refine s_app gp6 (by exact ev_var rfl) (by exact ev_var rfl) (by rw [List.length_map, gR.len]; omega) fun H7 e7 => ?_
        have gR7 : Rw .lst (upd H7 p (.lst (ds.map V.ref ++ [.ref a]))) ds (dueL B s RW i) := (gR.ex (e56.trans e7)).exB ExB.upd g3
        refine ⟨(E4.trans (e56.trans e7)).mut hp, ds ++ [a], by rw [upd_same, List.map_append]; rfl, ?_, fun x hx => ?_, _, _, _, rfl⟩
        · rw [hsucc, if_pos hb]
          refine ⟨by rw [List.length_append, List.length_append, gR7.len]; rfl, fun n hn => ?_⟩
          by_cases hnl : n < (dueL B s RW i).length
          · have a1 : (ds ++ [a]).getD n 0 = ds.getD n 0 := by rw [List.getD_eq_getElem?_getD, List.getElem?_append_left (by rw [gR7.len]; exact hnl), ← List.getD_eq_getElem?_getD]
            have a2 : (dueL B s RW i ++ [dgt B s i]).getD n [] = (dueL B s RW i).getD n [] := by rw [List.getD_eq_getElem?_getD, List.getElem?_append_left hnl, ← List.getD_eq_getElem?_getD]
            rw [a1, a2]
            exact gR7.row n hnl
          · have hn2 : n = (dueL B s RW i).length := by
              rw [List.length_append, List.length_singleton] at hn
              omega
            have a1 : (ds ++ [a]).getD n 0 = a := by rw [hn2, ← gR7.len, List.getD_eq_getElem?_getD, List.getElem?_append_right (Nat.le_refl _), Nat.sub_self]; rfl
            have a2 : (dueL B s RW i ++ [dgt B s i]).getD n [] = dgt B s i := by rw [hn2, List.getD_eq_getElem?_getD, List.getElem?_append_right (Nat.le_refl _), Nat.sub_self]; rfl
            rw [a1, a2, upd_ne (Ne.symm hpa)]
            exact (e6.trans e7) _ _ h5
        · rcases List.mem_append.mp hx with hx | hx
          · exact g3 x hx
          · rw [List.mem_singleton.mp hx]
            exact Ne.symm hpa
      · refine ⟨E4.trans (e5.trans e6), ds, (e5.trans e6) _ _ gp, ?_, g3, _, _, _, rfl⟩
        rw [hsucc, hb]
        simp only [Bool.false_eq_true, if_false, List.append_nil]
        exact gR.ex (e5.trans e6)
    · rintro σ' H2 ⟨e2, ds, g1, g2, g3, v4, v5, v6, rfl⟩
      rw [Int.toNat_natCast] at g2
      exact s_ret (by exact ev_var rfl) fun H3 e3 => q p ds H3 hp (e2.trans e3) (e3 _ _ g1) (g2.ex e3)

end
end K57
namespace K57
open PySem PySem.Spec PyProof.Rows L2 Lc Evl
section
variable {P : Program} {w : World} {K : PySem.W.Frag} {mg : Str → Option Value} {base : Heap}
theorem ev_per {σ : L2.St} {H : Hp} {te : TE} {o : Addr} {p b : Int} {G : List (List Int)} (T : Tx K mg w) (h : Ev te σ H (.ref o)) (hw : Wt K H o p b G) : Ev (tFld K te "period") σ H (.int p) := by
  obtain ⟨_, dx, t, rs, h1, _⟩ := hw
  exact ev_fldW T h h1 (n_Weights_period T) rfl
theorem ev_mdl {σ : L2.St} {H : Hp} {te : TE} {o : Addr} {p b : Int} {G : List (List Int)} (T : Tx K mg w) (h : Ev te σ H (.ref o)) (hw : Wt K H o p b G) : Ev (tFld K te "modulus") σ H (.int b) := by
  obtain ⟨_, dx, t, rs, h1, _⟩ := hw
  exact ev_fldW T h h1 (n_Weights_modulus T) rfl
theorem ev_tab {σ : L2.St} {H : Hp} {te : TE} {o dx t : Addr} {p b : Int} (T : Tx K mg w) (h : Ev te σ H (.ref o)) (h1 : H o = some (.ins (cW K) dx (WF p b t))) : Ev (tFld K te "table") σ H (.ref t) := ev_fldW T h h1 (n_Weights_table T) rfl
theorem rc_isW {H : Hp} {o : Addr} {p b : Int} {G : List (List Int)} (h : Wt K H o p b G) : RC (rIsOwn (cW K)) [.ref o, .ref (cW K)] H (.bl true) := fun H1 e _ q => by
  obtain ⟨_, dx, t, rs, h, _⟩ := h
  exact ⟨o, dx, _, rfl, e _ _ h, q H1 (Ex.refl H1)⟩
theorem rv_rowT {H : Hp} {g : Addr} {G : List (List Int)} {rs : List Addr} {i : Int} (hg : H g = some (.tup (rs.map V.ref))) (hr : Rw .tup H rs G) (h0 : 0 ≤ i) (h1 : i < G.length) : RV (rIxT K) (.ref g) (.int i) H (.ref (rs.getD i.toNat 0)) := rv_ixT (st_of hg) (atI_ref h0 (by rw [hr.len]; exact h1))
theorem ev_isI {σ : L2.St} {H : Hp} {te : TE} {i : Int} (h : Ev te σ H (.int i)) : Ev (tCall sp_law_is_integer [] E0 (tCons te tNil)) σ H (.bl true) := ev_call (ea_cons h ea_nil) fun H1 e1 Q q E => ⟨i, rfl, q⟩
/-! ### the weights found -/
theorem chk_cell {m k i j : Nat} (F : List Int) (hi : i < k) (hj : j < m) : ((chk m k F).getD i []).getD j 0 = F.getD (i * m + j) 0 := by
  rw [chk_at F hi, List.getD_eq_getElem?_getD, List.getD_eq_getElem?_getD, List.getElem?_take_of_lt hj, List.getElem?_drop]
theorem chk_rl {m k i : Nat} {F : List Int} (hF : F.length = k * m) (hi : i < k) : ((chk m k F).getD i []).length = m := chk_row hF _ (row_mem (by rw [chk_len]; exact hi))
theorem rv_isnotB {H : Hp} {a b : Bool} : RV (fun x y H Q => ∃ a b, x = V.bl a ∧ y = V.bl b ∧ Q (.bl (!decide (a = b))) H) (.bl a) (.bl b) H (.bl (!decide (a = b))) := fun H1 _ _ q => ⟨a, b, rfl, rfl, q H1 (Ex.refl H1)⟩
theorem plc_lin {m k i j : Nat} (hi : i < k) (hj : j < m) : i * m + j < k * m := by
  have := Nat.mul_le_mul_right m (show i + 1 ≤ k by omega)
  rw [Nat.add_mul, Nat.one_mul] at this
  omega
def sp_law_is_weights (K : PySem.W.Frag) : Sp := fun vs H Q _ => ∃ (o f : Addr) (m k : Nat) (F : List Int), vs = [.ref o, .int (m : Int), .int (k : Int), .ref f] ∧ Wt K H o (m : Int) 0 (chk m k F) ∧ H f = some (.lst (F.map V.int)) ∧ F.length = k * m ∧ m ≤ 12 ∧ k ≤ 12 ∧ RetV (.bl true) H Q
theorem ok_law_is_weights (T : Tx K mg w) : OkD P w K mg base 2 d_law_is_weights ps_law_is_weights (sp_law_is_weights K) := by
  refine (h_law_is_weights T).ok sc_law_is_weights (fun vs H Q E h => ?_) (fun cdv A outer s H vs Q E hr h => ⟨_,
      (pss_cons (ps_if (pt_not (pt_val (pe_callB (call_isOwn (C := He.ga K "Weights")) (by rfl) (m_isinstance T) (by decide +kernel) (pa_cons (pv 0) (pa_cons (pe_glob (v := .ref (He.ga K "Weights")) rfl (m_Weights T) rfl) pa_nil))))) (pss_one (ps_ret pe_bl)) pss_nil)
      (pss_cons (ps_if (PW.pt (pw_or (pt_not (pt_val (pe_call (ok_law_is_integer (P := P) (w := w) (base := base) T) (hr.mono (by decide)) (by rfl) (m_law_is_integer T) (k_law_is_integer T) (b_law_is_integer T) .nil passN (pa_cons (pe_fld (pv 0) rfl) pa_nil)))) (pw_or1 (pt_not (pt_val (pe_call (ok_law_is_integer (P := P) (w := w) (base := base) T) (hr.mono (by decide)) (by rfl) (m_law_is_integer T) (k_law_is_integer T) (b_law_is_integer T) .nil passN (pa_cons (pe_fld (pv 0) rfl) pa_nil))))))) (pss_one (ps_ret pe_bl)) pss_nil)
      (pss_cons (ps_if (PW.pt (pw_or (pt_cmpR op_ne (pe_fld (pv 0) rfl) (pv 1) (nomark _)) (pw_or1 (pt_cmpR op_ne (pe_fld (pv 0) rfl) pe_int (nomark _))))) (pss_one (ps_ret pe_bl)) pss_nil)
      (pss_cons (ps_if (PW.pt (pw_or (pt_not (pt_val (pe_callB call_isi (by rfl) (m_isinstance T) (by decide +kernel) (pa_cons (pe_fld (pv 0) rfl) (pa_cons (pe_bltn (v := .ty "tuple") (u := .type "tuple") (by rfl) (m_tuple T) (by decide +kernel) rfl) pa_nil))))) (pw_or1 (pt_cmpR op_ne (pe_callB call_len (by rfl) (m_len T) (by decide +kernel) (pa_cons (pe_fld (pv 0) rfl) pa_nil)) (pv 2) (nomark _))))) (pss_one (ps_ret pe_bl)) pss_nil)
      (pss_cons (ps_for (passes_of rfl) rfl (pi_range1 rfl (m_range T) (pa_cons (pv 2) pa_nil)) (pg_name (i := 4) sc_law_is_weights.nd rfl (Or.inl rfl)) (pss_cons (ps_set (i := 5) sc_law_is_weights.nd rfl (Or.inl rfl) (pe_ix ix_tup (pe_fld (pv 0) rfl) (pv 4) (fun _ _ => rfl)))
      (pss_cons (ps_if (PW.pt (pw_or (pt_not (pt_val (pe_callB call_isi (by rfl) (m_isinstance T) (by decide +kernel) (pa_cons (pv 5) (pa_cons (pe_bltn (v := .ty "tuple") (u := .type "tuple") (by rfl) (m_tuple T) (by decide +kernel) rfl) pa_nil))))) (pw_or1 (pt_cmpR op_ne (pe_callB call_len (by rfl) (m_len T) (by decide +kernel) (pa_cons (pv 5) pa_nil)) (pv 1) (nomark _))))) (pss_one (ps_ret pe_bl)) pss_nil)
      (pss_one (ps_for (passes_of rfl) rfl (pi_range1 rfl (m_range T) (pa_cons (pv 1) pa_nil)) (pg_name (i := 6) sc_law_is_weights.nd rfl (Or.inl rfl)) (pss_one (ps_if (PW.pt (pw_or (pt_not (pt_val (pe_call (ok_law_is_integer (P := P) (w := w) (base := base) T) (hr.mono (by decide)) (by rfl) (m_law_is_integer T) (k_law_is_integer T) (b_law_is_integer T) .nil passN (pa_cons (pe_ix ix_tup (pv 5) (pv 6) (fun _ _ => rfl)) pa_nil)))) (pw_or1 (pt_cmpR op_ne (pe_ix ix_tup (pv 5) (pv 6) (fun _ _ => rfl)) (pe_ix ix_list (pv 3) (pe_op op_add (pe_op op_mul (pv 4) (pv 1)) (pv 6)) (fun _ _ => rfl)) (nomark _))))) (pss_one (ps_ret pe_bl)) pss_nil)))))))
      (pss_one (ps_ret pe_bl))))))), ?_⟩)
  · obtain ⟨o, f, m, k, F, rfl, _⟩ := h
    rfl
  · obtain ⟨o, f, m, k, F, rfl, h1, hf, hF, hm12, hk12, q⟩ := h
    have hp0 := h1.1
    obtain ⟨_, dx, t, rs, a1, a2, a3⟩ := id h1
    obtain ⟨w1, w2, w3, w4, w5⟩ := part_w hp0
    have lk : (chk m k F).length = k := chk_len m k F
    have hkm : k * m ≤ 12 * 12 := Nat.mul_le_mul hk12 hm12
    refine q_when (b := !true) (et_not (et_B (ev_cb (ea_cons (by exact ev_var rfl) (ea_cons ev_c ea_nil)) (rc_isW h1)))) (fun hc => by cases hc) (fun _ H1 e1 => ?_)
    refine q_when (b := (!true || !true)) (et_or (et_not (et_B (ev_isI (ev_per (te := tVar 0) T (ev_var rfl) (h1.ex e1))))) fun _ => et_not (et_B (ev_isI (ev_mdl (te := tVar 0) T (ev_var rfl) (h1.ex e1))))) (fun hc => by cases hc) (fun _ H2 e2 => ?_)
    have e12 := e1.trans e2
    refine q_when (b := (!decide ((m : Int) = (m : Int)) || !decide ((0 : Int) = 0))) (et_or (et_test (ev_op (ev_per (te := tVar 0) T (ev_var rfl) (h1.ex e12)) (by exact ev_var rfl) rv_neII)) fun _ => et_test (ev_op (ev_mdl (te := tVar 0) T (ev_var rfl) (h1.ex e12)) ev_c rv_neII)) (fun hc => by simp at hc) (fun _ H3 e3 => ?_)
    have e13 := e12.trans e3
    have l1 := rc_lenT (K := K) (st_of (K := K) (e13 _ _ a2))
    rw [List.length_map, a3.len, lk] at l1
    refine q_when (b := (!true || !decide ((k : Int) = (k : Int)))) (et_or (et_not (et_B (ev_cb (ea_cons (ev_tab (te := tVar 0) T (ev_var rfl) (e13 _ _ a1)) (ea_cons ev_c ea_nil)) (rc_isTup (e13 _ _ a2))))) fun _ => et_test (ev_op (ev_cb (ea_cons (ev_tab (te := tVar 0) T (ev_var rfl) (e13 _ _ a1)) ea_nil) l1) (by exact ev_var rfl) rv_neII)) (fun hc => by simp at hc) (fun _ H4 e4 => ?_)
    have e14 := e13.trans e4
    clear l1 e1 e2 e3 e4 e12 e13
    refine q_forR1 (n := (k : Int)) (ea_cons (by exact ev_var rfl) ea_nil) (by omega) (fun i σ' H' => Ex H H' ∧ ∃ (v4 v5 v6 : Option V), σ' = [some (.ref o), some (.int (m : Int)), some (.int (k : Int)), some (.ref f), v4, v5, v6])
      (fun H5 e5 => ⟨e14.trans e5, none, none, none, rfl⟩) ?_ ?_
    · rintro i σ' H' hi ⟨e, v4, v5, v6, rfl⟩
      have hil : i < k := by omega
      try dsimp only [List.set]
      have hrowT := rv_rowT (K := K) (i := (i : Int)) (e _ _ a2) (a3.ex e) (by omega) (by rw [lk]; omega)
      have hT := (a3.ex e).row i (by rw [lk]; exact hil)
      have lw := chk_rl hF hil
      refine q_asg (ev_op (ev_tab (te := tVar 0) T (ev_var rfl) (e _ _ a1)) (by exact ev_var rfl) hrowT) fun H5 e5 => ?_
      rw [Int.toNat_natCast]
      have l4 := rc_lenT (K := K) (st_of (K := K) (e5 _ _ hT))
      rw [List.length_map, lw] at l4
      refine q_when (b := (!true || !decide ((m : Int) = (m : Int)))) (et_or (et_not (et_B (ev_cb (ea_cons (by exact ev_var rfl) (ea_cons ev_c ea_nil)) (rc_isTup (e5 _ _ hT))))) fun _ => et_test (ev_op (ev_cb (ea_cons (by exact ev_var rfl) ea_nil) l4) (by exact ev_var rfl) rv_neII)) (fun hc => by simp at hc) (fun _ H6 e6 => ?_)
      have e46 := (e.trans e5).trans e6
      refine s_forR1 (n := (m : Int)) (ea_cons (by exact ev_var rfl) ea_nil) (by omega) (fun j σ' H' => Ex H H' ∧ ∃ (v6 : Option V), σ' = [some (.ref o), some (.int (m : Int)), some (.int (k : Int)), some (.ref f), some (.int (i : Int)), some (.ref (rs.getD i 0)), v6])
        (fun H7 e7 => ⟨e46.trans e7, v6, rfl⟩) ?_ ?_
      · rintro j σ' H' hj ⟨ei, v6', rfl⟩
        have hjl : j < m := by omega
        try dsimp only [List.set]
        have hT2 := (a3.ex ei).row i (by rw [lk]; exact hil)
        have hF2 := ei _ _ hf
        have him := plc_lin hil hjl
        have hat := atI_int (row := (chk m k F).getD i []) (i := (j : Int)) (by omega) (by rw [lw]; omega)
        have hat2 := atI_int (row := F) (i := ((i * m + j : Nat) : Int)) (by omega) (by rw [hF]; omega)
        rw [Int.toNat_natCast] at hat hat2
        rw [chk_cell F hil hjl] at hat
        have hx : ∀ Hx, Ex H' Hx → Ev (tOp (rIxT K) (tVar 5) (tVar 6)) [some (.ref o), some (.int (m : Int)), some (.int (k : Int)), some (.ref f), some (.int (i : Int)), some (.ref (rs.getD i 0)), some (.int (j : Int))] Hx (.int (F.getD (i * m + j) 0)) := fun Hx ex => ev_op (ev_var rfl) (ev_var rfl) (rv_ixT (st_of (ex _ _ hT2)) hat)
        have hix : Ev (tOp (rI0 fun i j => V.int (i + j)) (tOp (rI CMul fun i j => V.int (i * j)) (tVar 4) (tVar 1)) (tVar 6)) [some (.ref o), some (.int (m : Int)), some (.int (k : Int)), some (.ref f), some (.int (i : Int)), some (.ref (rs.getD i 0)), some (.int (j : Int))] H' (.int ((i * m + j : Nat) : Int)) := ev_is (ev_op (x := .int ((i : Int) * (m : Int))) (ev_op (by exact ev_var rfl) (by exact ev_var rfl) (rv_I (.inl ⟨by omega, by omega⟩))) (by exact ev_var rfl) rv_I0) (by rw [Int.natCast_add, Int.natCast_mul])
        refine s_when (b := (!true || !decide (F.getD (i * m + j) 0 = F.getD (i * m + j) 0))) (et_or (et_not (et_B (ev_isI (hx H' (Ex.refl H'))))) fun _ => et_test (ev_op (hx H' (Ex.refl H')) (ev_op (by exact ev_var rfl) hix (rv_ixL (sq_of hF2) hat2)) rv_neII)) (fun hc => by simp at hc) (fun _ H8 e8 => ?_)
        exact ⟨ei.trans e8, _, rfl⟩
      · rintro σ' H' ⟨ei, v6', rfl⟩
        exact ⟨ei, _, _, _, rfl⟩
    · rintro σ' H' ⟨e, v4, v5, v6, rfl⟩
      exact s_ret ev_c fun H5 e5 => q H5 (e.trans e5)
def sp_law_is_due (K : PySem.W.Frag) : Sp := fun vs H Q _ => ∃ (a du c : Addr) (m k : Nat) (W : List (Addr × List Int)) (ds : List Addr) (ps : List Int) (G : List Jm), vs = [.ref a, .ref du, .int (m : Int), .int (k : Int), .ref c] ∧ H a = some (.lst (W.map fun q => V.ref q.1)) ∧ (∀ q ∈ W, Wt K H q.1 (m : Int) 0 (chk m k q.2)) ∧
  H du = some (.lst (ds.map V.ref)) ∧ Rw .lst H ds (W.map (·.2)) ∧ (∀ q ∈ W, q.2.length = k * m) ∧ W.length ≤ 20000 ∧ m ≤ 12 ∧ k ≤ 4 ∧ IsC K H c ps G ∧ ps.length = k ∧ PvK k (pairsV G) ∧ (∀ q ∈ W, Sml q.2 ∧ fallB m q.2 (pairsV G) = true) ∧ RetV (.bl true) H Q
theorem ok_law_is_due (T : Tx K mg w) : OkD P w K mg base 5 d_law_is_due ps_law_is_due (sp_law_is_due K) := by
  refine (h_law_is_due T).ok sc_law_is_due (fun vs H Q E h => ?_) (fun cdv A outer s H vs Q E hr h => ⟨_,
      (pss_cons (ps_if (PW.pt (pw_or (pt_not (pt_val (pe_callB call_isi (by rfl) (m_isinstance T) (by decide +kernel) (pa_cons (pv 0) (pa_cons (pe_bltn (v := .ty "list") (u := .type "list") (by rfl) (m_list T) (by decide +kernel) rfl) pa_nil))))) (pw_or1 (pt_cmpR op_ne (pe_callB call_len (by rfl) (m_len T) (by decide +kernel) (pa_cons (pv 0) pa_nil)) (pe_callB call_len (by rfl) (m_len T) (by decide +kernel) (pa_cons (pv 1) pa_nil)) (nomark _))))) (pss_one (ps_ret pe_bl)) pss_nil)
      (pss_cons (ps_for (passes_of rfl) rfl (pi_range1 rfl (m_range T) (pa_cons (pe_callB call_len (by rfl) (m_len T) (by decide +kernel) (pa_cons (pv 1) pa_nil)) pa_nil)) (pg_name (i := 5) sc_law_is_due.nd rfl (Or.inl rfl)) (pss_cons (ps_if (pt_not (pt_val (pe_call (ok_law_is_weights (P := P) (w := w) (base := base) T) (hr.mono (by decide)) (by rfl) (m_law_is_weights T) (k_law_is_weights T) (b_law_is_weights T) .nil passN (pa_cons (pe_ix ix_list (pv 0) (pv 5) (fun _ _ => rfl)) (pa_cons (pv 2) (pa_cons (pv 3) (pa_cons (pe_ix ix_list (pv 1) (pv 5) (fun _ _ => rfl)) pa_nil))))))) (pss_one (ps_ret pe_bl)) pss_nil)
      (pss_one (ps_if (PW.pt (pw_and (pt_cmpR op_lt (pv 5) pe_int (nomark _)) (pw_and1 (pt_cmpR op_isnot_bl (pe_meth (pe_ix ix_list (pv 0) (pv 5) (fun _ _ => rfl)) (c_Weights T) (me_Weights_falls T) (ok_Weights_falls (P := P) (w := w) (base := base) T) (hr.mono (by decide)) (b_Weights_falls T) .nil passN (pa_cons (pv 4) pa_nil)) pe_bl (nomark _))))) (pss_one (ps_ret pe_bl)) pss_nil))))
      (pss_one (ps_ret pe_bl)))), ?_⟩)
  · obtain ⟨a, du, c, m, k, W, ds, ps, G, rfl, _⟩ := h
    rfl
  · obtain ⟨a, du, c, m, k, W, ds, ps, G, rfl, ha, hW, hdu, hD, hlen, hW2, hm12, hk4, hC, hpk, hPv, hfl, q⟩ := h
    have hDl := hD.len
    rw [List.length_map] at hDl
    have l1 := rc_lenL (K := K) (sq_of (K := K) ha)
    have l2 := rc_lenL (K := K) (sq_of (K := K) hdu)
    rw [List.length_map] at l1
    rw [List.length_map, hDl] at l2
    refine q_when (b := (!true || !decide ((W.length : Int) = (W.length : Int)))) (et_or (et_not (et_B (ev_cb (ea_cons (by exact ev_var rfl) (ea_cons ev_c ea_nil)) (rc_isLst ha)))) fun _ => et_test (ev_op (ev_cb (ea_cons (by exact ev_var rfl) ea_nil) l1) (ev_cb (ea_cons (by exact ev_var rfl) ea_nil) l2) rv_neII)) (fun hc => by simp at hc) (fun _ H1 e1 => ?_)
    have l3 := rc_lenL (K := K) (sq_of (K := K) (e1 _ _ hdu))
    rw [List.length_map, hDl] at l3
    refine q_forR1 (n := (W.length : Int)) (ea_cons (ev_cb (ea_cons (by exact ev_var rfl) ea_nil) l3) ea_nil) (by omega) (fun i σ' H' => Ex H H' ∧ ∃ v5, σ' = [some (.ref a), some (.ref du), some (.int (m : Int)), some (.int (k : Int)), some (.ref c), v5])
      (fun H2 e2 => ⟨e1.trans e2, _, rfl⟩) ?_ ?_
    · rintro i σ' H2 hi ⟨e, v5, rfl⟩
      have hil : i < W.length := by omega
      try dsimp only [List.set]
      have hWi : W[i]? = some (W[i]'hil) := List.getElem?_eq_getElem hil
      generalize (W[i]'hil) = pq at hWi
      have hmem := List.mem_of_getElem? hWi
      have hWt := (hW pq hmem).ex e
      have hat : atI (W.map fun q => V.ref q.1) (i : Int) = some (.ref pq.1) := by
        have h := atI_i (xs := W.map fun q => V.ref q.1) (i := (i : Int)) (by omega) (by rw [List.length_map]; omega) V.non
        rw [h, Int.toNat_natCast, List.getD_eq_getElem?_getD, List.getElem?_map, hWi]
        rfl
      have hat2 := atI_ref (rs := ds) (i := (i : Int)) (by omega) (by omega)
      rw [Int.toNat_natCast] at hat2
      have hrow := (hD.ex e).row i (by rw [List.length_map]; exact hil)
      have hDi : (W.map (·.2)).getD i [] = pq.2 := by
        rw [List.getD_eq_getElem?_getD, List.getElem?_map, hWi]
        rfl
      rw [hDi] at hrow
      refine q_when (b := !true) (et_not (et_B (ev_call (ea_cons (ev_op (by exact ev_var rfl) (by exact ev_var rfl) (rv_ixL (sq_of (e _ _ ha)) hat)) (ea_cons (by exact ev_var rfl) (ea_cons (by exact ev_var rfl) (ea_cons (ev_op (by exact ev_var rfl) (by exact ev_var rfl) (rv_ixL (sq_of (e _ _ hdu)) hat2)) ea_nil)))) fun H3 e3 Q3 q3 E3 => ⟨pq.1, ds.getD i 0, m, k, pq.2, rfl, hWt.ex e3, e3 _ _ hrow, hlen pq hmem, hm12, by omega, q3⟩))) (fun hc => by cases hc) fun _ H3 e3 => ?_
      have e23 := e.trans e3
      have hlk : (chk m k pq.2).length = k := chk_len m k pq.2
      have hflat := chk_flat (hlen pq hmem)
      refine s_when (b := (decide ((i : Int) < 20) && !decide (true = true))) (et_and (et_test (ev_op (by exact ev_var rfl) ev_c rv_I0)) fun _ => et_test (ev_op (x := .bl true) (y := .bl true) (fun H4 e4 Q4 q4 => ?_) ev_c rv_isnotB)) (fun hc => by simp at hc) (fun _ H4 e4 => ⟨e23.trans e4, _, rfl⟩)
      have e24 := e23.trans e4
      refine (ev_op (by exact ev_var rfl) (by exact ev_var rfl) (rv_ixL (sq_of (e23 _ _ ha)) hat)) H4 e4 _ fun H5 e5 => ?_
      have hW5 := ((hW pq hmem).ex e24).ex e5
      obtain ⟨_, dx, t, rs, a1, a2, a3⟩ := id hW5
      refine ⟨pq.1, dx, _, rfl, a1, rfl, (ea_cons (by exact ev_var rfl) ea_nil) H5 (Ex.refl H5) _ fun H6 e6 => ⟨pq.1, c, (m : Int), 0, chk m k pq.2, ps, G, rfl, hW5.ex e6, hC.ex ((e24.trans e5).trans e6), by omega, fun _ => by rw [hlk]; exact hPv, by rw [hflat]; exact (hfl pq hmem).1, fun _ H7 e7 => ?_, fun hn => absurd (by rw [hlk]; omega) hn⟩⟩
      rw [Int.toNat_natCast, hflat, (hfl pq hmem).2]
      exact q4 H7 ((e5.trans e6).trans e7)
    · rintro σ' H2 ⟨e, v5, rfl⟩
      exact s_ret ev_c fun H5 e5 => q H5 (e.trans e5)

end
end K57
namespace K57
open PySem PySem.Spec PyProof.Rows L2 Lc Evl
section
variable {P : Program} {w : World} {K : PySem.W.Frag} {mg : Str → Option Value} {base : Heap}
def EvW (K : PySem.W.Frag) (te : TE) (σ : L2.St) (H : Hp) (p b : Int) (T : List (List Int)) : Prop := ∀ H1, Ex H H1 → ∀ Q : VK, (∀ o H2, Ex H1 H2 → Wt K H2 o p b T → Q (.ref o) H2) → te σ H1 Q
theorem ew_mk {σ : L2.St} {H : Hp} {ta : TA} {p b : Int} {G : List (List Int)} (ha : ∀ H1, Ex H H1 → ∀ Q' : List V → Hp → Prop, (∀ t H2, Ex H1 H2 → Tb H2 t G → Q' [.int p, .int b, .ref t] H2) → ta σ H1 Q') (hpn : part p b G = none) : EvW K (tMake (cW K) (sp_Weights_init K) [] E0 ta) σ H p b (red b G) := fun H1 e Q q =>
  ha H1 e _ fun t H2 e2 ht x dx hx hd hne => mk_W (Q := Q) hx hd hne ht (sm_of hpn) (fun _ H3 e3 hw => q x H3 (e2.trans e3) hw) fun z hz => by rw [hpn] at hz; cases hz
theorem rc_isBl {H : Hp} {b : Bool} : RC (rIsi K) [.bl b, .ty "bool"] H (.bl true) := fun H1 e _ q => ⟨.bl b, .ty "bool", .type "bool", .type "bool", true, rfl, .ty _, .base (.bl _), kit_ty (by decide +kernel), q H1 (Ex.refl H1)⟩
theorem ei_take {σ : L2.St} {b : Addr} {i : Nat} {te : TE} {many : Int} {E : XK} (hv : σ[i]? = some (some (.ref b))) (he : ∀ H1, Ev te σ H1 (.int many)) (h0 : 0 < many) (h1 : many.natAbs < 2 ^ 128) : EvI b (tCall sp_law_take [] E (tCons (tVar i) (tCons te tNil))) σ fun d => 0 ≤ d ∧ d < many :=
  fun H1 hb Q q => sp_take_then hv hb (he H1) h0 h1 fun d H' d0 d1 e b2 => q d H' ⟨d0, d1⟩ e b2
/-! ### rows and falling tables -/
def RowsOf (k m : Nat) (PV : List Pr2) (RW : List (List Int)) : Prop := ∀ v, v ∈ RW ↔ ∃ q ∈ PV, ∃ st, st < m ∧ v = cvec k m st q
theorem rows_fall {k m : Nat} {PV : List Pr2} {RW : List (List Int)} {F : List Int} (hm : 0 < m) (hk : PvK k PV) (he : PvE PV) (h : RowsOf k m PV RW) : (RW.all fun v => !decide (dot v F < 0)) = fallB m F PV := by
  rw [Bool.eq_iff_iff, fallB_iff, List.all_eq_true]
  constructor
  · intro h2 q hq st hst
    have h3 := h2 _ ((h _).mpr ⟨q, hq, st, hst, rfl⟩)
    rw [dot_cvec hm (hk q hq).1.1 (hk q hq).1.2 (he q hq)] at h3
    have h4 := of_decide_eq_false (not_t h3)
    omega
  · intro h2 v hv
    obtain ⟨q, hq, st, hst, rfl⟩ := (h v).mp hv
    have h3 := h2 q hq st hst
    rw [dot_cvec hm (hk q hq).1.1 (hk q hq).1.2 (he q hq)]
    rw [decide_eq_false (by omega)]
    rfl
theorem rows_len {k m : Nat} {PV : List Pr2} {RW : List (List Int)} (h : RowsOf k m PV RW) : ∀ v ∈ RW, v.length = k * m := fun v hv => by
  obtain ⟨q, _, st, _, rfl⟩ := (h v).mp hv
  exact cvec_len k m st q
theorem due_fall {B s k m : Nat} {PV : List Pr2} {RW : List (List Int)} (hm : 0 < m) (hk : PvK k PV) (he : PvE PV) (h : RowsOf k m PV RW) (n : Nat) : dueL B s RW n = fallL B s m PV n := by
  unfold dueL fallL
  congr 1
  funext F
  exact rows_fall hm hk he h
theorem due_mem {B s : Nat} {RW : List (List Int)} {F : List Int} (hB : 0 < B) (hl : F.length = s) (hF : ∀ x ∈ F, 0 ≤ x ∧ x < (B : Int)) : F ∈ dueL B s RW (B ^ s) ↔ (RW.all fun v => !decide (dot v F < 0)) = true := by
  unfold dueL
  rw [List.mem_filter]
  constructor
  · exact fun h => h.2
  · intro h
    obtain ⟨n, hn, e⟩ := dgt_of hB s F hl hF
    exact ⟨List.mem_map.mpr ⟨n, List.mem_range.mpr hn, e⟩, h⟩
theorem IsC.n {H H' : Hp} {c : Addr} {ps : List Int} {G : List Jm} (h : IsC K H c ps G) (e : ExN H H') : IsC K H' c ps G := by
  obtain ⟨dx, wa, ja, pa, L, M, h1, h2, h3, h4, h5, h6, h7⟩ := h
  refine ⟨dx, wa, ja, pa, L, M, e _ _ (fun _ z => by cases z) h1, e _ _ (fun _ z => by cases z) h2, ⟨e _ _ (fun _ z => by cases z) h3.1, fun q hq => ?_⟩, h4, e _ _ (fun _ z => by cases z) h5, fun q hq => (h6 q hq).n e, h7⟩
  obtain ⟨⟨d2, g1⟩, g2⟩ := h3.2 q hq
  exact ⟨⟨d2, e _ _ (fun _ z => by cases z) g1⟩, g2⟩
theorem rv_eqBB {H : Hp} {a b : Bool} : RV rEq (.bl a) (.bl b) H (.bl (decide (a = b))) := by
  have h2 := rv_eq (H := H) (x := .bl a) (y := .bl b) rfl
  have e : decide (V.bl a = V.bl b) = decide (a = b) := decide_eq_decide.mpr ⟨fun h => by injection h, fun h => by rw [h]⟩
  rwa [e] at h2
theorem rv_neBB {H : Hp} {a b : Bool} : RV rNe (.bl a) (.bl b) H (.bl (!decide (a = b))) := by
  have h2 := rv_ne (H := H) (x := .bl a) (y := .bl b) rfl
  have e : decide (V.bl a = V.bl b) = decide (a = b) := decide_eq_decide.mpr ⟨fun h => by injection h, fun h => by rw [h]⟩
  rwa [e] at h2
theorem asg_is {σ : L2.St} {H : Hp} {te : TE} {tz : TS} {D : Ends} {i : Nat} (h : te σ H fun v H1 => tz D (σ.set i (some v)) H1) : tSeq (tAsg te (gName i)) tz D σ H := h
/-! ### one table drawn -/
def sp_law_asked (K : PySem.W.Frag) : Sp := fun vs H Q _ => ∃ (b c r d : Addr) (m k B : Nat) (ps : List Int) (G : List Jm) (rs ds : List Addr) (RW : List (List Int)), vs = [.ref b, .ref c, .ref r, .int (m : Int), .int ((B : Int) - 1), .ref d] ∧ Bx H b ∧ IsC K H c ps G ∧ ps.length = k ∧ 1 ≤ k ∧ k ≤ 4 ∧ PvK k (pairsV G) ∧ PvE (pairsV G) ∧ 0 < m ∧ m ≤ 12 ∧ 0 < B ∧ B ≤ 20000 ∧
  H r = some (.lst (rs.map V.ref)) ∧ Rw .lst H rs RW ∧ RW.length ≤ 2000 ∧ RowsOf k m (pairsV G) RW ∧ H d = some (.lst (ds.map V.ref)) ∧ Rw .lst H ds (dueL B (k * m) RW (B ^ (k * m))) ∧ r ≠ b ∧ d ≠ b ∧ (∀ x ∈ rs, x ≠ b) ∧ (∀ x ∈ ds, x ≠ b) ∧ ∀ H', ExB b H H' → Bx H' b → Q (.bl true) H'
theorem ok_law_asked (T : Tx K mg w) : OkD P w K mg base 6 d_law_asked ps_law_asked (sp_law_asked K) := by
  refine (h_law_asked T).ok sc_law_asked (fun vs H Q E h => ?_) (fun cdv A outer s H vs Q E hr h => ⟨_,
      (pss_cons (ps_set (i := 6) sc_law_asked.nd rfl (Or.inl rfl) (pe_op op_mul (pe_callB call_len (by rfl) (m_len T) (by decide +kernel) (pa_cons (pe_fld (pv 1) rfl) pa_nil)) (pv 3)))
      (pss_cons (ps_set (i := 7) sc_law_asked.nd rfl (Or.inr rfl) (pe_lc (own := [("i", 10)]) (g := gName 10) rfl sc_law_asked.nd (pi_range1 rfl (m_range T) (pa_cons (pv 6) pa_nil)) (blkOk_by (own := [("i", 10)]) (N := ns_law_asked) (sc := (defScope st_law_asked)) (by decide +kernel)) (fun _ _ _ _ _ => pg_name (i := 10) sc_law_asked.nd rfl (Or.inl rfl)) (fun _ _ _ _ _ => pts_nil) (fun _ _ _ _ _ => (pe_call (ok_law_take (P := P) (w := w) (base := base) T) (hr.mono (by decide)) (by rfl) (m_law_take T) (k_law_take T) (b_law_take T) .nil passN (pa_cons (pv 0) (pa_cons (pe_op op_add (pv 4) pe_int) pa_nil))))))
      (pss_cons (ps_setLc (i := 8) (own := [("start", 11)]) (g := gName 11) rfl sc_law_asked.nd rfl rfl (sw_true rfl rfl rfl (by decide +kernel)) (pi_range3 rfl (m_range T) (pa_cons pe_int (pa_cons (pv 6) (pa_cons (pv 3) pa_nil)))) (blkOk_by (own := [("start", 11)]) (N := ns_law_asked) (sc := (defScope st_law_asked)) (by decide +kernel)) (fun _ _ _ _ _ => pg_name (i := 11) sc_law_asked.nd rfl (Or.inl rfl)) (fun _ _ _ _ _ => pts_nil) (fun _ _ _ _ _ => (pe_slice (show SlR _ (rSlL K) from sl_list) (pv 7) (po_some (pv 11)) (po_some (pe_op op_add (pv 11) (pv 3))))))
      (pss_cons (ps_set (i := 9) sc_law_asked.nd rfl (Or.inl rfl) (pe_meth (pe_make (mk_Weights T) (ok_Weights_init (P := P) (w := w) (base := base) T) (hr.mono (by decide)) (by rfl) (m_Weights T) (b_Weights_init T) .nil passN (pa_cons (pv 3) (pa_cons pe_int (pa_cons (pv 8) pa_nil)))) (c_Weights T) (me_Weights_falls T) (ok_Weights_falls (P := P) (w := w) (base := base) T) (hr.mono (by decide)) (b_Weights_falls T) .nil passN (pa_cons (pv 1) pa_nil)))
      (pss_cons (ps_if (PW.pt (pw_or (pt_not (pt_val (pe_callB call_isi (by rfl) (m_isinstance T) (by decide +kernel) (pa_cons (pv 9) (pa_cons (pe_bltn (v := .ty "bool") (u := .type "bool") (by rfl) (m_bool T) (by decide +kernel) rfl) pa_nil))))) (pw_or1 (pt_cmpR op_ne (pv 9) (pe_call (ok_law_falls (P := P) (w := w) (base := base) T) (hr.mono (by decide)) (by rfl) (m_law_falls T) (k_law_falls T) (b_law_falls T) .nil passN (pa_cons (pv 2) (pa_cons (pv 7) pa_nil))) (nomark _))))) (pss_one (ps_ret pe_bl)) pss_nil)
      (pss_one (ps_ret (pe_cmpR op_eq (pe_cmpR (show OpR _ _ (rInD K) from op_inD (hu65 hr)) (pv 7) (pv 5) (by rfl)) (pv 9) (nomark _))))))))), ?_⟩)
  · obtain ⟨b, c, r, d, m, k, B, ps, G, rs, ds, RW, rfl, _⟩ := h
    rfl
  · obtain ⟨b, c, r, d, m, k, B, ps, G, rs, ds, RW, rfl, hb, hC, hpk, hk1, hk4, hPv, hPe, hm, hm12, hB, hB2, hr', hR, hRl, hRo, hd, hD, hrb, hdb, hrsb, hdsb, q⟩ := h
    obtain ⟨dx, wa, ja, pa, L, M, h1, h2, _⟩ := id hC
    have hkm : k * m ≤ 4 * 12 := Nat.mul_le_mul hk4 hm12
    refine q_asg (v := .int ((k * m : Nat) : Int)) ?_ fun H1 e1 => ?_
    · have h9 := rc_lenT (K := K) (st_of (K := K) h2)
      rw [List.length_map, hpk] at h9
      exact ev_is (ev_op (x := .int (k : Int)) (y := .int (m : Int)) (ev_cb (ea_cons (ev_fldC T (by exact ev_var rfl) h1 (n_Card_worths T) rfl) ea_nil) h9) (by exact ev_var rfl) (rv_I (.inl ⟨by omega, by omega⟩))) (by rw [Int.natCast_mul])
    try dsimp only [List.set]
    refine asg_is ?_
    refine (rb_R1 (b := b) (Pd := fun _ x => 0 ≤ x ∧ x < (B : Int)) (n := k * m) (fun H => ea_cons (by exact ev_var rfl) ea_nil) (by omega) (fun x => rfl) fun i hi => ?_) H1 (ExB.refl H1) (hb.ex e1) _ fun p F H2 hp x2 b2 h2' ⟨hFl, hFx⟩ => ?_
    · refine ei_take rfl (many := (B : Int)) (fun H2 => ev_is (ev_op (by exact ev_var rfl) ev_c rv_I0) (by rw [Int.sub_add_cancel])) (by omega) (by omega)
    have hF : ∀ x ∈ F, 0 ≤ x ∧ x < (B : Int) := fun x hx => by
      obtain ⟨j, hj, rfl⟩ := List.getElem_of_mem hx
      have := hFx j (by omega)
      rw [List.getD_eq_getElem?_getD, List.getElem?_eq_getElem hj] at this
      exact this
    have hSml : Sml F := fun x hx => by
      have := hF x hx
      omega
    try dsimp only [List.set]
    have hC2 := (hC.ex e1).n (ExN.b x2 (hb.ex e1))
    have hr2 := x2 _ _ hrb (e1 _ _ hr')
    have hd2 := x2 _ _ hdb (e1 _ _ hd)
    have hR2 := (hR.ex e1).exB x2 hrsb
    have hD2 := (hD.ex e1).exB x2 hdsb
    have x02 : ExB b H H2 := (ExB.of e1).trans x2
    clear hC hr' hd hR hD h1 h2 hp
    refine asg_is ?_
    refine eg_chk (m := m) (k := k) (F := F) (σ := [some (.ref b), some (.ref c), some (.ref r), some (.int (m : Int)), some (.int ((B : Int) - 1)), some (.ref d), some (.int ((k * m : Nat) : Int)), some (.ref p), none, none, none, none]) hm hm12 (by omega) hFl (by exact ev_var rfl) (by exact ev_var rfl) (fun x => rfl) (fun i H3 e3 hi => ?_) H2 (Ex.refl H2) _ fun gd gs H3 hgd e3 h3 hgs _ _ => ?_
    · have h1 := Nat.mul_le_mul_right m (show i + 1 ≤ k from hi)
      rw [Nat.add_mul, Nat.one_mul] at h1
      have h2 := el_sl (K := K) (σ := [some (.ref b), some (.ref c), some (.ref r), some (.int (m : Int)), some (.int ((B : Int) - 1)), some (.ref d), some (.int ((k * m : Nat) : Int)), some (.ref p), none, none, none, some (.int ((i * m : Nat) : Int))]) (H := H3) (te := tVar 7) (a := p) (xs := F.map V.int) (tl := tPart (tVar 11)) (th := tPart (tOp (rI0 fun i j => V.int (i + j)) (tVar 11) (tVar 3))) (lo := some ((i * m : Nat) : Int)) (hi := some ((i * m : Nat) + (m : Int))) (by exact ev_var rfl) (eo_some (by exact ev_var rfl)) (eo_some (ev_op (by exact ev_var rfl) (by exact ev_var rfl) rv_I0)) (sq_of (e3 _ _ h2'))
      rw [cutL_mid F (by omega)] at h2
      exact h2
    try dsimp only [List.set]
    have hpn := part_chk hm hm12 hk1 hk4 hFl
    refine q_asg (v := .bl (fallB m F (pairsV G))) (fun H4 e4 Q4 q4 => ?_) fun H4 e4 => ?_
    · refine (ew_mk (K := K) (G := chk m k F) (fun H5 e5 Q5 q5 => (ea_cons (by exact ev_var rfl) (ea_cons ev_c (ea_cons (by exact ev_var rfl) ea_nil))) H5 (Ex.refl H5) _ fun H6 e6 => q5 gd H6 e6 ⟨gs, .inl ((e5.trans e6) _ _ h3), hgs.ex (e5.trans e6)⟩) hpn) H4 e4 _ fun o H5 e5 hW => ?_
      rw [red0] at hW
      obtain ⟨_, wx, t, ws, a1, a2, a3⟩ := id hW
      have hlk : (chk m k F).length = k := chk_len m k F
      have hflat := chk_flat hFl
      have e35 := (e3.trans e4).trans e5
      refine ⟨o, wx, _, rfl, a1, rfl, (ea_cons (by exact ev_var rfl) ea_nil) H5 (Ex.refl H5) _ fun H6 e6 => ⟨o, c, (m : Int), 0, chk m k F, ps, G, rfl, hW.ex e6, hC2.ex (e35.trans e6), by omega, fun _ => by rw [hlk]; exact hPv, by rw [hflat]; exact hSml, fun _ H7 e7 => ?_, fun hn => absurd (by rw [hlk]; omega) hn⟩⟩
      rw [Int.toNat_natCast, hflat, decide_eq_true rfl, Bool.true_and]
      exact q4 H7 ((e5.trans e6).trans e7)
    try dsimp only [List.set]
    have e24 := e3.trans e4
    have hal := rows_fall (F := F) hm hPv hPe hRo
    refine q_when (b := (!true || !decide (fallB m F (pairsV G) = fallB m F (pairsV G)))) (et_or (et_not (et_B (ev_cb (ea_cons (by exact ev_var rfl) (ea_cons ev_c ea_nil)) rc_isBl))) fun _ => et_test (ev_op (by exact ev_var rfl) (ev_call (ea_cons (by exact ev_var rfl) (ea_cons (by exact ev_var rfl) ea_nil)) fun H5 e5 Q5 q5 E5 => ⟨r, p, rs, RW, F, rfl, (e24.trans e5) _ _ hr2, hR2.ex (e24.trans e5), (e24.trans e5) _ _ h2', fun v hv => by rw [rows_len hRo v hv, hFl], by omega, by omega, hSml, by rw [hal]; exact q5⟩) rv_neBB)) (fun hc => by simp at hc) (fun _ H5 e5 => ?_)
    have e25 := e24.trans e5
    refine s_ret (v := .bl (decide (decide (F ∈ dueL B (k * m) RW (B ^ (k * m))) = fallB m F (pairsV G)))) (ev_op (ev_op (by exact ev_var rfl) (by exact ev_var rfl) (rv_inG (e25 _ _ h2') (e25 _ _ hd2) (hD2.ex e25))) (by exact ev_var rfl) rv_eqBB) fun H6 e6 => ?_
    have hfin : decide (F ∈ dueL B (k * m) RW (B ^ (k * m))) = fallB m F (pairsV G) := by
      rw [← hal, Bool.eq_iff_iff, decide_eq_true_eq]
      exact due_mem hB hFl hF
    rw [decide_eq_true hfin]
    exact q H6 (x02.trans (ExB.of (e25.trans e6))) (b2.ex (e25.trans e6))

end
end K57
namespace Lc
open PySem PySem.Spec PyProof.Rows L2 Evl PySem.Calls HotX L2H
section
variable {prog : Program} {w : World} {A : Around} {E : Value → Shared → Prop} {s : Shared} {x1 : Addr} {o1 : Obj}
/-! ### the end of a text's walk while an exception is handled -/
theorem nextOf_ascii_end_hot {it x1 : Addr} {x : Str} {t : Tok} {i : Nat} {Q : Value → Shared → Prop} (hot : HotAt A x1 s.heap) (hx1 : x1 ≠ it)
    (hit : s.heap.IsStrIter it "str_ascii_iterator" x t i) (hx : x.cps[i]? = none)
    (hE : ∀ h' e, Heap.ExtBut it s.heap h' → (∃ o, h'.get? e = some o ∧ o.cls = .type "StopIteration") → E (.ref e) { s with heap := h' }) :
    wpAny (model prog w) A (Builtin.SmallTypes.nextOf (.ref it)) Q E s := by
  obtain ⟨hh, o1, vs1, h1, d1, c1⟩ := hot
  obtain ⟨o, ho, hc, hd⟩ := id hit
  unfold Builtin.SmallTypes.nextOf
  refine wpAny_bind (wpAny_callSpecial?_slot (name := Str.ofString "__next__") hit.typeIs F.slot_str_ascii_iterator_next
    (wpAny_call_entry F.slot_str_ascii_iterator_next hit.typeIs F.entry_str_ascii_iterator_next ?_ (F.args_str_ascii_iterator_next_1 _)))
  show wpAny _ _ (field (.ref it) 0 >>= _) _ _ s
  refine wpAny_bind (wpAny_field ho hd (x := .str x t) rfl ?_)
  show wpAny _ _ (field (.ref it) 1 >>= _) _ _ s
  refine wpAny_bind (wpAny_field ho hd (x := .int i 0) rfl ?_)
  simp only [Int.toNat_natCast, hx]
  refine wpAny_bind (wpAny_rule (wpAny_bind (wpAny_setField ho hd (by simp) (wpAny_bind (wpAny_letGo ?_)))))
  show wpAny _ _ (newExc (.type "StopIteration") [] >>= _) _ _ _
  refine wpAny_bind ?_
  simp only [newExc, newTuple]
  refine wpAny_bind (wpAny_newObj_type ?_ (by size_fits))
  refine wpAny_bind (m := firstArgMember _ _) (wpAny_of_eq (a := Value.none) (by first | rfl | (simp only [firstArgMember]; rfl)) ?_)
  refine wpAny_newObj_type ?_ (by size_fits)
  refine raiseNew_hot ⟨hh, o1, vs1, Heap.get?_push_of_some _ (Heap.get?_push_of_some _ ((Heap.get?_update_other _ _ (Ne.symm hx1)).trans h1)), d1, c1⟩ (Nat.ne_of_lt (Heap.lt_size (Heap.get?_push_of_some _ ((Heap.get?_update_other _ _ (Ne.symm hx1)).trans h1)))) (Heap.get?_push_size _ rfl) rfl (by first | (simp; done) | (simp; omega) | (simp only [Array.size_append]; simp; omega)) ?_
  refine hE _ _ (fun b o2 hb e => ?_) ⟨_, Heap.get?_update_self _ (Heap.get?_push_size _ rfl) rfl, rfl⟩
  rw [Heap.get?_update_other _ _ (Nat.ne_of_gt (Heap.lt_size (Heap.get?_push_of_some _ ((Heap.get?_update_other _ _ (Ne.symm hb)).trans e))))]
  exact Heap.get?_push_of_some _ (Heap.get?_push_of_some _ ((Heap.get?_update_other _ _ (Ne.symm hb)).trans e))
theorem pyNext_ascii_end_hot {it x1 : Addr} {x : Str} {t : Tok} {i : Nat} {Q : Option Value → Shared → Prop} (hot : HotAt A x1 s.heap) (hx1 : x1 ≠ it)
    (hit : s.heap.IsStrIter it "str_ascii_iterator" x t i) (hx : x.cps[i]? = none)
    (hQ : ∀ h', Heap.ExtBut it s.heap h' → Q none { s with heap := h' }) : wpAny (model prog w) A (pyNext (.ref it)) Q E s := by
  obtain ⟨hh, o1, vs1, h1, d1, c1⟩ := hot
  obtain ⟨o, ho, hc, hd⟩ := id hit
  unfold pyNext
  refine wpAny_bind (wpAny_attempt (wpAny_callSpecial?_slot (name := Str.ofString "__next__") hit.typeIs F.slot_str_ascii_iterator_next
    (wpAny_call_entry F.slot_str_ascii_iterator_next hit.typeIs F.entry_str_ascii_iterator_next ?_ (F.args_str_ascii_iterator_next_1 _))))
  show wpAny _ _ (field (.ref it) 0 >>= _) _ _ s
  refine wpAny_bind (wpAny_field ho hd (x := .str x t) rfl ?_)
  show wpAny _ _ (field (.ref it) 1 >>= _) _ _ s
  refine wpAny_bind (wpAny_field ho hd (x := .int i 0) rfl ?_)
  simp only [Int.toNat_natCast, hx]
  refine wpAny_bind (wpAny_rule (wpAny_bind (wpAny_setField ho hd (by simp) (wpAny_bind (wpAny_letGo ?_)))))
  show wpAny _ _ (newExc (.type "StopIteration") [] >>= _) _ _ _
  refine wpAny_bind ?_
  simp only [newExc, newTuple]
  refine wpAny_bind (wpAny_newObj_type ?_ (by size_fits))
  refine wpAny_bind (m := firstArgMember _ _) (wpAny_of_eq (a := Value.none) (by first | rfl | (simp only [firstArgMember]; rfl)) ?_)
  refine wpAny_newObj_type ?_ (by size_fits)
  refine raiseNew_hot ⟨hh, o1, vs1, Heap.get?_push_of_some _ (Heap.get?_push_of_some _ ((Heap.get?_update_other _ _ (Ne.symm hx1)).trans h1)), d1, c1⟩ (Nat.ne_of_lt (Heap.lt_size (Heap.get?_push_of_some _ ((Heap.get?_update_other _ _ (Ne.symm hx1)).trans h1)))) (Heap.get?_push_size _ rfl) rfl (by first | (simp; done) | (simp; omega) | (simp only [Array.size_append]; simp; omega)) ?_
  refine wpAny_bind (wpAny_isInstance (T := "StopIteration") (b := true) ⟨_, Heap.get?_update_self _ (Heap.get?_push_size _ rfl) rfl, rfl⟩ isSubtype_stop ?_)
  refine wpAny_pure (hQ _ fun b o2 hb e => ?_)
  rw [Heap.get?_update_other _ _ (Nat.ne_of_gt (Heap.lt_size (Heap.get?_push_of_some _ ((Heap.get?_update_other _ _ (Ne.symm hb)).trans e))))]
  exact Heap.get?_push_of_some _ (Heap.get?_push_of_some _ ((Heap.get?_update_other _ _ (Ne.symm hb)).trans e))
/-! ### what an enumerate draws from a text -/
theorem drawsHot (hh : ∃ p : Addr × Obj, Hot1 A p ∧ p.1 = x1 ∧ p.2 = o1) (it : Addr) (hx1 : x1 ≠ it) (x : Str) (t : Tok) :
    Draws prog w A it [it, x1] x.cps.size (fun i v => ∃ c u, x.cps[i]? = some c ∧ v = .str ⟨#[c]⟩ u) (fun i h => h.IsStrIter it "str_ascii_iterator" x t i ∧ h.get? x1 = some o1) where
  live := fun _ _ st => let ⟨o, ho, _⟩ := st.1; ⟨o, ho⟩
  frame := fun _ _ _ st hk => let ⟨o, ho, r⟩ := st.1; ⟨⟨o, hk it (by simp) o ho, r⟩, hk x1 (by simp) _ st.2⟩
  item := fun i s Q E hi st hQ => by
    refine wpAny_nextOf_ascii_item st.1 (c := x.cps[i]) (by simp [hi]) fun h' hit' hs' => ?_
    exact hQ _ h' (s.toks + 1) ⟨_, _, by simp [hi], rfl⟩ ⟨hit', (hs'.2 x1 hx1).trans st.2⟩ hs'
  done := fun s Q E st hE => by
    obtain ⟨p, ⟨h1, vs, e1, c1⟩, rfl, rfl⟩ := hh
    exact nextOf_ascii_end_hot ⟨h1, _, vs, st.2, e1, c1⟩ hx1 st.1 (by simp) hE
end
/-! ### walks in an except suite -/
def low (z : Str) : Prop := z.cps.all (· < 128) = true
theorem turnH_strA {P : Program} {w : World} {K : PySem.W.Frag} {tg : Expr} (it : Addr) (x : Str) (t : Tok) : TurnH P w K tg (Its x) [it] it (fun i h => h.IsStrIter it "str_ascii_iterator" x t i) where
  mem := by simp
  obj := fun i h st b hb => by
    have e : b = it := by simpa using hb
    subst e
    obtain ⟨o, e, c, d⟩ := st
    exact ⟨o, e, fun v z => by rw [d] at z; cases z⟩
  keep := fun i h h' st k => let ⟨o, ho, r⟩ := st; ⟨o, k it (by simp) o ho, r⟩
  item := by
    intro X hP hw hK hc i pins s σ H E I hf st hg
    subst hP hw hK
    obtain ⟨f0, f1, f2, f3, f4, f5⟩ := hf it (by simp)
    have hlt : i < x.cps.size := hg
    refine wpAny_pyNext_ascii_item st (c := x.cps[i]) (by simp [hlt]) fun h' st' sb => ?_
    have I1 : Inv X pins σ H { s with heap := h', toks := s.toks + 1 } := I.turned (fun b o hb e => (sb.2 b hb).trans e) f0 f1 f3 f4 f5
    obtain ⟨oi, e, cc, dd⟩ := id st'
    exact ⟨_, rfl, go_of (s := { s with heap := h', toks := s.toks + 1 }) e cc dd (by decide) ⟨.str ⟨#[x.cps[i]]⟩, H, I1, ⟨_, rfl⟩, ⟨rfl, _, by simp [hlt], rfl⟩, st', fun b hb => (hf b hb).1⟩⟩
  done := by
    intro X hP hw hK hc i pins s σ H E I hf st hg
    subst hP hw hK
    obtain ⟨f0, f1, f2, f3, f4, f5⟩ := hf it (by simp)
    obtain ⟨p, hot, hp⟩ := hc
    have hxn : p.1 ≠ it := f5 p (List.mem_append_left _ hp)
    obtain ⟨hh, v1, e1, c1⟩ := hot
    exact pyNext_ascii_end_hot ⟨hh, p.2, v1, (I.pin p (List.mem_append_left _ hp)).1, e1, c1⟩ hxn st (Array.getElem?_eq_none hg) fun h' eb => ⟨rfl, I.turned (t' := s.toks) (fun b o hb e => eb b o hb e) f0 f1 f3 f4 f5⟩
  self := fun A i s Q E st h => wpAny_pyIter_striter_ascii st h
def iStrH (te : TE) : TI := fun σ H R => te σ H fun v H1 => ∃ x, v = .str x ∧ low x ∧ R (Its x) H1
theorem pi_strH {X : Cx} {tg e : Expr} {te : TE} (he : PE X e te) : PIH X tg e (iStrH te) := by
  refine ⟨fun pins s σ H R I h => ?_⟩
  refine thn (he.run pins s σ H _ I h) fun v s1 ⟨y, H1, I1, r1, x, ex, hl, q⟩ => ?_
  subst ex
  obtain ⟨t, rfl⟩ := r1
  refine wpAny_pyIter_ascii hl ?_
  refine ⟨s1.heap.objs.size, [s1.heap.objs.size], _, _, H1, rfl, I1.kept (t' := s1.toks) fun b o e => Heap.get?_push_of_some _ e, turnH_strA _ x t, ⟨_, Heap.get?_push_size _ rfl, rfl, rfl⟩, fun b hb => ?_, q⟩
  have e : b = s1.heap.objs.size := by simpa using hb
  subst e
  exact I1.fpOk (Nat.le_refl _) (I1.hok.fresh (Nat.le_refl _))
theorem turnH_enumA {P : Program} {w : World} {K : PySem.W.Frag} {elts : List Expr} {kk : Nat} {tpos : Pos} (z : Str) (t : Tok) (e it : Addr) :
    TurnH P w K (.Tuple elts kk tpos) (Itn z) [e, it] e (fun i h => (∃ old, IsEnum h e it ((i : Nat) : Int) old) ∧ h.IsStrIter it "str_ascii_iterator" z t i ∧ e ≠ it) where
  mem := by simp
  obj := fun i h st b hb => by
    obtain ⟨⟨old, he⟩, ⟨o, ho, hc, hd⟩, _⟩ := st
    have e' : b = e ∨ b = it := by simpa using hb
    rcases e' with q | q
    · rw [q]; exact ⟨_, he, fun v q => nomatch q⟩
    · rw [q]; exact ⟨o, ho, fun v q => by rw [hd] at q; cases q⟩
  keep := fun i h h' st k => let ⟨⟨old, he⟩, ⟨o, ho, r⟩, hne⟩ := st; ⟨⟨old, k e (by simp) _ he⟩, ⟨o, k it (by simp) o ho, r⟩, hne⟩
  item := by
    intro X hP hw hK hc i pins s σ H E I hf st hg
    subst hP hw hK
    obtain ⟨⟨old, he⟩, hit, hne⟩ := st
    have hel : e < s.heap.objs.size := Heap.lt_size he
    have hil : it < s.heap.objs.size := by obtain ⟨_, q, _⟩ := hit; exact Heap.lt_size q
    obtain ⟨p, hot, hp⟩ := hc
    have hxn : p.1 ≠ it := (hf it (by simp)).2.2.2.2.2 p (List.mem_append_left _ hp)
    have hxe : p.1 ≠ e := (hf e (by simp)).2.2.2.2.2 p (List.mem_append_left _ hp)
    have hx1 := (I.pin p (List.mem_append_left _ hp)).1
    have D : Draws X.prog X.w X.A.in1 it [it, p.1] z.cps.size (fun i v => ∃ c u, z.cps[i]? = some c ∧ v = .str ⟨#[c]⟩ u) (fun i h => h.IsStrIter it "str_ascii_iterator" z t i ∧ h.get? p.1 = some p.2) := drawsHot (A := X.A.in1) ⟨p, (show Hot1 X.A.in1 p from hot), rfl, rfl⟩ it hxn z t
    refine wpAny_pyNext_enum_itemD D he ⟨hit, hx1⟩ hg hne (by simp; exact ⟨hne, Ne.symm hxe⟩) fun x h' tk hx ho hit' hT hsz hk => ?_
    obtain ⟨c, u, hcx, rfl⟩ := hx
    refine ⟨_, rfl, wpAny_letOwnedTupleGo_enum (s := { s with heap := h', toks := tk + 1 }) ho fun h'' he' sb => ?_⟩
    have hT2 : h''.get? s.heap.objs.size = some { cls := .type "tuple", data := .seq #[.int i tk, .str ⟨#[c]⟩ u] } := (sb.2 _ (Nat.ne_of_gt hel)).trans hT
    have new : ObjOk X.prog X.w (upd H s.heap.objs.size (.tup [.int (i : Nat), .str ⟨#[c]⟩])) h'' s.heap.objs.size (.tup [.int (i : Nat), .str ⟨#[c]⟩]) :=
      ⟨by show 2 ≤ sizeLine; decide, [.int i tk, .str ⟨#[c]⟩ u], .cons ⟨_, rfl⟩ (.cons ⟨_, rfl⟩ .nil), ⟨_, hT2, rfl, _, rfl⟩⟩
    have I1 : Inv X pins σ (upd H s.heap.objs.size (.tup [.int (i : Nat), .str ⟨#[c]⟩])) { s with heap := h'', toks := tk + 1 } :=
      I.turnedNew (ch := [e, it]) (fun b ob hb q => (sb.2 b (fun z => hb (by simp [z]))).trans (hk b ob (fun z => hb (by simp [z])) (fun z => hb (by simp [z])) q)) hf (Nat.le_refl _) new
    refine ⟨.ref s.heap.objs.size, _, I1, rfl, ⟨_, c, rfl, I.hok.fresh (Nat.le_refl _), rfl, hcx⟩, ⟨⟨.str ⟨#[c]⟩ u, ?_⟩, ?_, hne⟩, fun b hb => ?_⟩
    · have e1 : ((i + 1 : Nat) : Int) = (i : Int) + 1 := by omega
      rw [e1]; exact he'
    · obtain ⟨o, ho', r⟩ := hit'.1
      exact ⟨o, (sb.2 it (Ne.symm hne)).trans ho', r⟩
    · have hb' : b < s.heap.objs.size := by
        have e' : b = e ∨ b = it := by simpa using hb
        rcases e' with q | q
        · rw [q]; exact hel
        · rw [q]; exact hil
      rw [upd_ne (Nat.ne_of_lt hb')]
      exact (hf b hb).1
  done := by
    intro X hP hw hK hc i pins s σ H E I hf st hg
    subst hP hw hK
    obtain ⟨⟨old, he⟩, hit, hne⟩ := st
    obtain ⟨f0, f1, f2, f3, f4, f5⟩ := hf it (by simp)
    obtain ⟨p, hot, hp⟩ := hc
    have hxn : p.1 ≠ it := f5 p (List.mem_append_left _ hp)
    obtain ⟨hh, v1, e1, c1⟩ := hot
    have hx : z.cps[i]? = none := Array.getElem?_eq_none hg
    have hT : s.TypeIs (.ref e) "enumerate" := ⟨_, he, rfl⟩
    unfold pyNext
    refine wpAny_bind (wpAny_attempt (wpAny_callSpecial?_slot (name := Str.ofString "__next__") hT F.slot_enumerate_next
      (wpAny_call_entry F.slot_enumerate_next hT F.entry_enumerate_next ?_ (F.args_enumerate_next_1 _))))
    show wpAny _ _ (field (.ref e) 2 >>= _) _ _ _
    refine wpAny_bind (wpAny_field he rfl (x := .ref it) rfl ?_)
    refine wpAny_bind (nextOf_ascii_end_hot ⟨hh, p.2, v1, (I.pin p (List.mem_append_left _ hp)).1, e1, c1⟩ hxn hit hx fun h' x eb hx' => ?_)
    obtain ⟨o, ho, hc'⟩ := hx'
    refine wpAny_bind (wpAny_isInstance (T := "StopIteration") (b := true) ⟨o, ho, hc'⟩ isSubtype_stop ?_)
    exact wpAny_pure ⟨rfl, I.turned (t' := s.toks) (fun b o hb e => eb b o hb e) f0 f1 f3 f4 f5⟩
  self := fun A i s Q E st h => let ⟨⟨_, he⟩, _⟩ := st; wpAny_pyIter_enum he h
def iEnumH (ta : TA) : TI := fun σ H R => ta σ H fun vs H1 => ∃ z, vs = [.str z] ∧ low z ∧ R (Itn z) H1
theorem pi_enumH {X : Cx} {e : Expr} {ta : TA} {p pos tpos : Pos} {elts : List Expr} {kk : Nat} (hg : Gl X "enumerate") (hm : X.mg "enumerate" = none) (ha : PA X [e] ta) (hs : starEach [e] X.env = [(false, eval e X.env)] := by rfl) :
    PIH X (.Tuple elts kk tpos) (.Call (.Name "enumerate" p) [e] [] pos) (iEnumH ta) := by
  refine ⟨fun pins s σ H R I h => ?_⟩
  refine Call_ (ld_blt I hg hm boot_enumerate (PyProof.Rows.callWith_type1 (thn (ha.run pos pins s σ H _ I h) fun us s1 ⟨vs, H1, I1, r1, q1⟩ => ?_) hs rfl))
  obtain ⟨z, ex, hl, q⟩ := q1
  subst ex
  obtain ⟨u, rfl, r⟩ := vals1 r1
  obtain ⟨t, rfl⟩ := r
  refine call_enumerate_str fun h' he hit hsz hk => wpAny_pyIter_enum he ?_
  have I2 : Inv X pins σ H1 { s1 with heap := h' } := I1.kept (t' := s1.toks) hk
  have hty : strIterType z = "str_ascii_iterator" := if_pos hl
  rw [hty] at hit
  refine ⟨s1.heap.objs.size + 1, [s1.heap.objs.size + 1, s1.heap.objs.size], _, _, H1, rfl, I2, turnH_enumA z t (s1.heap.objs.size + 1) s1.heap.objs.size, ⟨⟨.none, he⟩, hit, Nat.succ_ne_self _⟩, fun b hb => ?_, q⟩
  have e' : b = s1.heap.objs.size + 1 ∨ b = s1.heap.objs.size := by simpa using hb
  have hle : s1.heap.objs.size ≤ b := by
    rcases e' with z | z
    · rw [z]; exact Nat.le_add_right _ _
    · rw [z]; exact Nat.le_refl _
  exact I1.fpOk hle (I1.hok.fresh hle)
end Lc
namespace Lc
open PySem PySem.Spec PyProof.Rows L2 Evl PySem.Calls HotX L2H
section
variable {X : Cx} {CX : CXT} {k : Nat} {f C : Addr} {fd : FuncData} {ps : List Str} {sp : Sp} {dvs : List V} {ds : List Value} {E : L2.St → XK} {x m : Str} {q pos apos : Pos} {e o : Expr} {es : List Expr} {ta : TE} {t : TA}
/-! ### a call in an except suite, defaults fill up -/
theorem run_fnHD {pins : List (Addr × Obj)} {σ : L2.St} {H : Hp} {s : Shared} {Q : VK} {us : List Value} {vs : List V} (F : FnH X.prog X.w X.K X.mg X.base CX k f fd ps sp) (hr : RoomH k X.A) (hc : HotC X) (hb : Binds X.K fd ps ds) (hd : Vals dvs ds) (hx : PassesAt CX X σ (E σ))
    (I : Inv X pins σ H s) (r : Vals vs us) (h : sp (vs ++ dvs) H Q (E σ)) : wpAny (model X.prog X.w) X.A (call (.ref f) us) (EP X pins σ Q) X.xe s := by
  obtain ⟨p, hot, hp⟩ := hc
  have r2 : Vals (vs ++ dvs) (us ++ ds) := r.append hd
  have hl : (us ++ ds).length = ps.length := by rw [← r2.length]; exact F.len _ _ _ _ h
  have P1 := I.pin p (List.mem_append_left _ hp)
  have hpin : PinOk X.stack H s p := ⟨P1.1, P1.2.1, fun hm => (List.mem_cons.mp (I.stkSub p.1 hm)).elim P1.2.2.1 P1.2.2.2.1, P1.2.2.2.2⟩
  refine wpAny_call (codeAny_mono (F.run X.A X.stack s H ⟨us, []⟩ (us ++ ds) (vs ++ dvs) Q (E σ) p hr hot hpin I.env0 (hb s us I.kIn hl) r2 h) fun r s' hq => ?_)
  cases r with
  | error e => exact hx pins H s e s' I hq
  | ok fl =>
    cases fl with
    | ret u => exact I.after hq
    | next => exact False.elim hq
    | brk => exact False.elim hq
    | cont => exact False.elim hq
theorem pe_callHD (F : FnH X.prog X.w X.K X.mg X.base CX k f fd ps sp) (hr : RoomH k X.A) (hc : HotC X) (hg : Gl X x) (hm : X.mg x = some (.ref f)) (hk : PySem.W.keepIn X.K (.ref f) = true) (hb : Binds X.K fd ps ds) (hd : Vals dvs ds) (hx : ∀ σ, PassesAt CX X σ (E σ))
    (ha : PA X (e :: es) t) (hdb : (x == ("__debug__" : Str)) = false := by decide) (he : starEach (e :: es) X.env = (false, eval e X.env) :: starEach es X.env := by rfl) (hpl : (backTo pos (starEach es X.env)).any (·.1) = false := by rfl) :
    PE X (.Call (.Name x q) (e :: es) [] pos) (tCallSD sp dvs E t) := by
  refine ⟨fun pins s σ H Q I h => ?_⟩
  refine wpAny_Call_Name_kw (ld_glob I hg hm ?_ hdb)
  refine PySem.W.callWith_K (h₀ := X.base) I.ok.mod.kin hk (thn (ha.run pos pins s σ H _ I h) fun us s1 ⟨vs, H1, I1, r, q⟩ => ⟨I1.kIn, ?_⟩) he hpl
  exact run_fnHD F hr hc hb hd (hx σ) I1 r q
end
section
variable {prog : Program} {w : World} {A : Around} {E : Value → Shared → Prop} {s : Shared}
/-! ### a tuple taken apart while an exception is handled -/
theorem next_tuple_end_hot {it x1 t : Addr} {i : Nat} {items} {Q : Option Value → Shared → Prop} (hot : HotAt A x1 s.heap) (hx1 : x1 ≠ it)
    (hit : IsTupIter s.heap it t i) (ht : IsTup s.heap t items) (hx : items[i]? = none)
    (hQ : ∀ h', Heap.ExtBut it s.heap h' → Q none { s with heap := h' }) : wpAny (model prog w) A (pyNext (.ref it)) Q E s := by
  obtain ⟨hh, o1, vs1, h1, d1, c1⟩ := hot
  obtain ⟨o, ho, hc, hd⟩ := id hit
  obtain ⟨ol, hol, _, nl, hdl⟩ := ht
  unfold pyNext
  refine wpAny_bind (wpAny_attempt (wpAny_callSpecial?_slot (name := Str.ofString "__next__") hit.typeIs slot_tupleiter_next
    (wpAny_call_entry slot_tupleiter_next hit.typeIs entry_tupleiter_next ?_ (args_tupleiter_next _))))
  show wpAny _ _ (field (.ref it) 0 >>= _) _ _ s
  refine wpAny_bind (wpAny_field ho hd (x := .ref t) rfl ?_)
  show wpAny _ _ (if (Value.ref t == Value.none) = true then _ else _) _ _ s
  rw [if_neg (show ¬ ((Value.ref t == Value.none) = true) from Bool.false_ne_true)]
  show wpAny _ _ (field (.ref it) 1 >>= _) _ _ s
  refine wpAny_bind (wpAny_field ho hd (x := .int i 0) rfl ?_)
  show wpAny _ _ (seqItems? (.ref t) >>= _) _ _ s
  refine wpAny_bind (wpAny_seqItems hol hdl ?_)
  simp only [Int.toNat_natCast, hx]
  refine wpAny_bind (wpAny_rule (wpAny_bind (wpAny_setField ho hd (by simp) ?_)))
  show wpAny _ _ (newExc (.type "StopIteration") [] >>= _) _ _ _
  refine wpAny_bind ?_
  simp only [newExc, newTuple]
  refine wpAny_bind (wpAny_newObj_type ?_ (by size_fits))
  refine wpAny_bind (m := firstArgMember _ _) (wpAny_of_eq (a := Value.none) (by first | rfl | (simp only [firstArgMember]; rfl)) ?_)
  refine wpAny_newObj_type ?_ (by size_fits)
  refine raiseNew_hot ⟨hh, o1, vs1, Heap.get?_push_of_some _ (Heap.get?_push_of_some _ ((Heap.get?_update_other _ _ (Ne.symm hx1)).trans h1)), d1, c1⟩ (Nat.ne_of_lt (Heap.lt_size (Heap.get?_push_of_some _ ((Heap.get?_update_other _ _ (Ne.symm hx1)).trans h1)))) (Heap.get?_push_size _ rfl) rfl (by first | (simp; done) | (simp; omega) | (simp only [Array.size_append]; simp; omega)) ?_
  refine wpAny_bind (wpAny_isInstance (T := "StopIteration") (b := true) ⟨_, Heap.get?_update_self _ (Heap.get?_push_size _ rfl) rfl, rfl⟩ isSubtype_stop ?_)
  refine wpAny_pure (hQ _ fun b o2 hb e => ?_)
  rw [Heap.get?_update_other _ _ (Nat.ne_of_gt (Heap.lt_size (Heap.get?_push_of_some _ ((Heap.get?_update_other _ _ (Ne.symm hb)).trans e))))]
  exact Heap.get?_push_of_some _ (Heap.get?_push_of_some _ ((Heap.get?_update_other _ _ (Ne.symm hb)).trans e))
theorem unpackItems_tuple_hot {x1 t : Addr} {items : Array Value} {Q : List Value → Shared → Prop} (hot : HotAt A x1 s.heap) (ht : IsTup s.heap t items)
    (hQ : ∀ h', Heap.ExtBut s.heap.objs.size s.heap h' → Q items.toList { s with heap := h' }) : wpAny (model prog w) A (unpackItems (.ref t) items.size none) Q E s := by
  have hlt : t ≠ s.heap.objs.size := by obtain ⟨o, ho, _⟩ := ht; exact Nat.ne_of_lt (Heap.lt_size ho)
  obtain ⟨hh, o1, vs1, h1, d1, c1⟩ := hot
  have hx1 : x1 ≠ s.heap.objs.size := Nat.ne_of_lt (Heap.lt_size h1)
  unfold unpackItems
  refine wpAny_bind ?_
  · unfold notIterableAtAll
    refine wpAny_bind (wpAny_specialOf ht.typeIs slot_tuple_iter.lookup ?_)
    refine wpAny_pure ?_
    simp only [Bool.false_eq_true, if_false]
    refine wpAny_bind (wpAny_holding (iter_tuple ht ?_))
    refine wpAny_bind (wpAny_holding (draw_tuple hlt items.size 0 _ _ ⟨_, Heap.get?_push_size _ rfl, rfl, rfl⟩ (ht.push _) (by omega) fun h₁ hit₁ hs₁ => ?_))
    have hall : List.take items.size (List.drop 0 items.toList) = items.toList := by
      rw [List.drop_zero]; exact List.take_of_length_le (by simp)
    rw [hall]
    rw [if_neg (by simp)]
    have ht₁ : IsTup h₁ t items := (ht.push _).extBut hs₁.extBut hlt
    refine wpAny_bind (wpAny_holding (next_tuple_end_hot ⟨hh, o1, vs1, hs₁.extBut x1 o1 hx1 (Heap.get?_push_of_some _ h1), d1, c1⟩ hx1 hit₁ ht₁ (by simp) fun h₂ he₂ => ?_))
    simp only [Option.isSome_none, Bool.false_eq_true, if_false]
    refine wpAny_pure (hQ h₂ fun b o hb e => he₂ b o hb (hs₁.extBut b o hb (Heap.get?_push_of_some _ e)))

theorem unpack_tuple_hot {x1 t : Addr} {items : Array Value} {targets : List (Bool × (Value → Sem Unit))} {Q : Unit → Shared → Prop} (hot : HotAt A x1 s.heap) (ht : IsTup s.heap t items)
    (hn : targets.length = items.size) (hstar : targets.findIdx? (·.1) = none)
    (h : ∀ h', Heap.ExtBut s.heap.objs.size s.heap h' → wpAny (model prog w) A (assignInOrder (targets.map (·.2)) items.toList) Q E { s with heap := h' }) :
    wpAny (model prog w) A (unpack (.ref t) targets) Q E s := by
  unfold unpack
  rw [hn, hstar]
  exact wpAny_bind (wpAny_holding (unpackItems_tuple_hot hot ht h))
theorem assign_Tuple_tuple_hot {y1 : Addr} {env : Env} {elts : List Expr} {x1} {pos : Pos} {t : Addr} {items : Array Value} {Q : Unit → Shared → Prop} (hot : HotAt A y1 s.heap) (ht : IsTup s.heap t items)
    (hn : (assignEach elts env).length = items.size) (hstar : (assignEach elts env).findIdx? (·.1) = none)
    (h : ∀ h', Heap.ExtBut s.heap.objs.size s.heap h' → wpAny (model prog w) A (assignInOrder ((assignEach elts env).map (·.2)) items.toList) Q E { s with heap := h' }) :
    wpAny (model prog w) A (assign (.Tuple elts x1 pos) env (.ref t)) Q E s := by
  rw [assign_Tuple]
  exact wpAny_bind (wpAny_standAt (unpack_tuple_hot hot ht hn hstar h))
end
theorem pg_tupH {X : Cx} {pos : Pos} {es : List Expr} {k : Nat} {t : TGs} {n : Nat} (hc : HotC X) (h : PGs X es t)
    (hn : (assignEach es X.env).length = n := by rfl) (hst : (assignEach es X.env).findIdx? (·.1) = none := by rfl) : PG X (.Tuple es k pos) (gTup X.K n t) := by
  refine ⟨fun pins s σ H v u Q I r hw => ?_⟩
  obtain ⟨a, xs, e1, hq, hl, hw⟩ := hw
  subst e1
  cases r
  obtain ⟨its, rv, ht, hz⟩ := I.tuple hq
  obtain ⟨x1, hot⟩ := hc.at I
  refine assign_Tuple_tuple_hot hot ht (by simp [hn, ← hl, rv.length]) hst fun h' hx => ?_
  have I1 : Inv X pins σ H { s with heap := h' } := I.kept (t' := s.toks) fun b o e => hx b o (Nat.ne_of_lt (Heap.lt_size e)) e
  exact h.run pins _ σ H xs _ Q I1 (by simpa using rv) hw
/-- what is never reached -/
theorem ps_dead {X : Cx} {st : Stmt} : PS X st (fun _ _ _ => False) := ⟨fun _ _ _ _ _ _ h => h.elim⟩
/-! ### a def called there whose body gives out a token -/
theorem fn_ofHT {CX : CXT} {P : Program} {w : World} {K : PySem.W.Frag} {mg : Str → Option Value} {base : Heap} {k : Nat} {f : Addr} {name qual : Str} {params : Arguments} {body : List Stmt} {scope : Scope} {dV kV doc pm cdv ct oc : Value} {an od : Option Addr}
    {osl : Array (Option Value)} {N ps : List Str} {sp : Sp} (lk : K.lookup f = some ⟨oc, od, .func (PySem.W.fnOf name qual params body scope dV kV doc pm an cdv ct), osl⟩) (hcd : PySem.W.codeIn K cdv qual = true) (S : FnScope N ps scope)
    (hnc : ∀ y ∈ scope.names, y.2 ≠ .cell) (hps : 1 ≤ ps.length) (len : ∀ vs H Q E, sp vs H Q E → vs.length = ps.length)
    (hbody : ∀ (A : Around) (outer : List Env) (s : Shared) (H : Hp) (vs : List V) (Q : VK) (E : XK) (p : Addr × Obj), Hot1 A p → RoomH k (A.deeper (envOfC qual scope s.heap.objs.size f cdv)) → sp vs H Q E →
      ∃ t, PSsT (cxH CX P w K mg base N qual scope f cdv A outer s H E p) body t ∧ t { nx := fun _ H' => Q .non H', rt := Q } (L2.start N vs) H) :
    FnH P w K mg base CX (k + 1) f (PySem.W.fnOf name qual params body scope dV kV doc pm an cdv ct) ps sp := by
  refine ⟨len, fun A outer s H args us vs Q E p hr hot hpin e0 hb r hsp => ?_⟩
  have hl := len _ _ _ _ hsp
  have hul : us.length = ps.length := by rw [← r.length, hl]
  have KX : K.In s.heap := e0.mod.kin.keeps fun b o e => (e0.bs b o e).1
  have lim : s.heap.NoLimit := e0.mod.nolimit.keeps fun b o e => (e0.bs b o e).1
  have hloc : ∀ y ∈ ps.zip us, scope.names.lookup y.1 = some .local := fun ⟨n, v⟩ hy => by
    rcases S.par n (List.of_mem_zip hy).1 with q | q
    · exact q
    · exact absurd rfl (hnc _ (PySem.mem_of_lookup q))
  refine codeAny_call_function hr.depth (KX _ _ lk) rfl S.co S.gen rfl (PySem.W.codeRec_of KX hcd) (hb _ _ _ _ ?_)
  refine wpAny_newFunctionEnv hnc hloc (fun h1 hns hsb => ?_) S.kind
  have hz : (ps.zip us).length = ps.length := by rw [List.length_zip, hul, Nat.min_self]
  have keep : ∀ b o, s.heap.get? b = some o → h1.get? b = some o := fun b o e => hsb.extBut b o (Nat.ne_of_lt (Heap.lt_size e)) (Heap.get?_push_of_some _ e)
  have hcl : cellsFrom (s.heap.objs.size + 1) scope.names [] = [] := cells_none _ _ _ hnc
  have hkl : ∀ y ∈ ps.zip us, (envOfC qual scope s.heap.objs.size f cdv).kindOf y.1 = some .local := fun y hy => by
    first
    | exact hloc y hy
    | (simp only [Env.kindOf]; exact hloc y hy)
    | (unfold Env.kindOf; rw [if_pos S.kind]; exact hloc y hy)
    | simpa [Env.kindOf, envOfC, newEnv, S.kind] using hloc y hy
  have hm : (bindL (envOfC qual scope s.heap.objs.size f cdv).kindOf (ps.zip us) fun _ => none) = fun x => (ps.zip us).reverse.lookup x := by
    funext y
    rw [bindL_loc _ _ hkl y]
    cases (ps.zip us).reverse.lookup y <;> rfl
  have x : InCallC s s.heap.objs.size (bindL (envOfC qual scope s.heap.objs.size f cdv).kindOf (ps.zip us) fun _ => none) (cellsFrom (s.heap.objs.size + 1) scope.names [])
      (bindC (envOfC qual scope s.heap.objs.size f cdv).kindOf (ps.zip us) fun _ => none) ({ s with heap := h1, toks := s.toks + (ps.zip us).length } : Shared) := by
    rw [hm, hcl]
    exact ⟨⟨⟨_, _, rfl⟩, hns, keep, Nat.le_refl _⟩, fun n c hc => absurd hc (by simp), .nil, fun n c hc => absurd hc (by simp)⟩
  have henv : newEnv scope s.heap.objs.size mainGlobals [] (qual ++ ".<locals>.") (some f) cdv none builtinsNs = envOfC qual scope s.heap.objs.size f cdv := by
    unfold envOfC
    rw [hcl] <;> rfl
  have hto : 1 ≤ ({ s with heap := h1, toks := s.toks + (ps.zip us).length } : Shared).toks := by
    show 1 ≤ s.toks + (ps.zip us).length
    omega
  show ({ s with heap := h1, toks := s.toks + (ps.zip us).length } : Shared).heap.NoLimit ∧ codeAny (model P w) A (.func body (newEnv scope s.heap.objs.size mainGlobals [] (qual ++ ".<locals>.") (some f) cdv none builtinsNs)) _ ({ s with heap := h1, toks := s.toks + (ps.zip us).length } : Shared)
  rw [henv]
  generalize ({ s with heap := h1, toks := s.toks + (ps.zip us).length } : Shared) = s1 at x hto ⊢
  refine ⟨lim.keeps x.toInCall.keep, codeAny_func ?_⟩
  obtain ⟨t, ht, hq⟩ := hbody A outer s H vs Q E p hot (hr.deeper _) hsp
  have I : Inv (cxH CX P w K mg base N qual scope f cdv A outer s H E p) [] (L2.start N vs) H s1 := inv_startH S hpin e0 hl r x
  refine wpAny_mono (ht [] s1 (L2.start N vs) H _ hto I hq) (fun fl s' hs => ?_) fun e s' hs => hs
  have fin : ∀ {σ' : L2.St} {H' : Hp} {v : V} {u : Value}, Inv (cxH CX P w K mg base N qual scope f cdv A outer s H E p) [] σ' H' s' → RelV v u → Q v H' → CE outer P w H s Q u s' :=
    fun {σ' H' v u} J rv q => ⟨v, H', J.os, J.bare, J.base, J.hok, rv, q⟩
  cases fl with
  | ret u =>
    obtain ⟨v, σ', H', J, rv, q⟩ := hs
    exact fin J rv q
  | next =>
    obtain ⟨σ', H', J, q⟩ := hs
    exact fin (v := V.non) (u := Value.none) J rfl q
  | brk =>
    obtain ⟨_, _, _, q⟩ := hs
    exact False.elim q
  | cont =>
    obtain ⟨_, _, _, q⟩ := hs
    exact False.elim q
abbrev OkH (P : Program) (w : World) (K : PySem.W.Frag) (mg : Str → Option Value) (base : Heap) (k : Nat) (d : He5.DefA) (ps : List Str) (sp : Sp) : Prop := FnH P w K mg base (L2N.CX P w) k (d.at_ K) (fdOf K (d.at_ K)) ps sp
theorem okH {P : Program} {w : World} {K : PySem.W.Frag} {mg : Str → Option Value} {base : Heap} {k : Nat} {d : He5.DefA} {N ps : List Str} {sp : Sp} (F : HasD K d) (S : FnScope N ps d.scope) (len : ∀ vs H Q E, sp vs H Q E → vs.length = ps.length)
    (hbody : ∀ (cdv : Value) (A : Around) (outer : List Env) (s : Shared) (H : Hp) (vs : List V) (Q : VK) (E : XK) (p : Addr × Obj), Hot1 A p → RoomH k (A.deeper (envOfC d.qual d.scope s.heap.objs.size (d.at_ K) cdv)) → sp vs H Q E →
      ∃ t, PSs (cxH (L2N.CX P w) P w K mg base N d.qual d.scope (d.at_ K) cdv A outer s H E p) d.body t ∧ t { nx := fun _ H' => Q .non H', rt := Q } (L2.start N vs) H) :
    OkH P w K mg base (k + 1) d ps sp := by
  obtain ⟨oc, od, dV, kV, doc, pm, an, cdv, ct, osl, e, lk, hcd, _, _⟩ := F.ex
  show FnH P w K mg base (L2N.CX P w) (k + 1) (d.at_ K) (fdOf K (d.at_ K)) ps sp
  rw [e] at lk ⊢
  exact fn_ofH lk hcd S len (fun A outer s H vs Q E p hot hr h => hbody cdv A outer s H vs Q E p hot hr h)
theorem okHT {P : Program} {w : World} {K : PySem.W.Frag} {mg : Str → Option Value} {base : Heap} {k : Nat} {d : He5.DefA} {N ps : List Str} {sp : Sp} (F : HasD K d) (S : FnScope N ps d.scope) (hnc : ∀ y ∈ d.scope.names, y.2 ≠ .cell) (hps : 1 ≤ ps.length) (len : ∀ vs H Q E, sp vs H Q E → vs.length = ps.length)
    (hbody : ∀ (cdv : Value) (A : Around) (outer : List Env) (s : Shared) (H : Hp) (vs : List V) (Q : VK) (E : XK) (p : Addr × Obj), Hot1 A p → RoomH k (A.deeper (envOfC d.qual d.scope s.heap.objs.size (d.at_ K) cdv)) → sp vs H Q E →
      ∃ t, PSsT (cxH (L2N.CX P w) P w K mg base N d.qual d.scope (d.at_ K) cdv A outer s H E p) d.body t ∧ t { nx := fun _ H' => Q .non H', rt := Q } (L2.start N vs) H) :
    OkH P w K mg base (k + 1) d ps sp := by
  obtain ⟨oc, od, dV, kV, doc, pm, an, cdv, ct, osl, e, lk, hcd, _, _⟩ := F.ex
  show FnH P w K mg base (L2N.CX P w) (k + 1) (d.at_ K) (fdOf K (d.at_ K)) ps sp
  rw [e] at lk ⊢
  exact fn_ofHT lk hcd S hnc hps len (fun A outer s H vs Q E p hot hr h => hbody cdv A outer s H vs Q E p hot hr h)
end Lc
namespace L2N
open PySem PySem.Spec PyProof.Rows L2
/-! ### several clauses, each with a name for what it catches -/
/-- what the clauses wish of an exception, one after the other: the second of each is the slot of its name -/
def wAsM (K : PySem.W.Frag) (Wout : WX) (D : Ends) : List (Value × Nat × (Addr → Value → Option Addr → TS)) → WX
  | [] => Wout
  | (c, i, ts) :: r => fun cls d σ H => ∃ b, PySem.W.exmOne K cls c = some b ∧
      (b = true → ∀ a, H a = none → ts a cls d { nx := fun σ' H' => D.nx (σ'.set i none) H', rt := D.rt, bk := fun σ' H' => D.bk (σ'.set i none) H', ct := fun σ' H' => D.ct (σ'.set i none) H' } (σ.set i (some (.ref a))) H) ∧
      (b = false → wAsM K Wout D r cls d σ H)
inductive HdsAs (X : Cx) : List ExceptHandler → List (Value × Nat × (Addr → Value → Option Addr → TS)) → Prop
  | nil : HdsAs X [] []
  | cons {x n : Str} {i : Nat} {c : Value} {ts : Addr → Value → Option Addr → TS} {b₀ : Stmt} {suite : List Stmt} {np pos' : Pos} {hds : List ExceptHandler} {l : List (Value × Nat × (Addr → Value → Option Addr → TS))}
      (hi : X.N[i]? = some n) (hln : X.env.kindOf n = some .local) (hc : Names X x c)
      (hsu : ∀ (a : Addr) (oe : Obj) (cls : Value) (d : Option Addr) (pn : List (Addr × Obj)), Zn cls d oe → (∃ vs, oe.data = .fields vs) → PSs (X.suite a ((a, oe) :: pn)) (b₀ :: suite) (ts a cls d)) (r : HdsAs X hds l) :
      HdsAs X (.ExceptHandler (some (.Name x np)) (some n) (b₀ :: suite) pos' :: hds) ((c, i, ts) :: l)
section
variable {X : Cx} {body : List Stmt} {h₀ : ExceptHandler} {hds : List ExceptHandler} {l : List (Value × Nat × (Addr → Value → Option Addr → TS))} {pos : Pos} {tb : WX → TS} {Wout : WX}
theorem ps_try_asMany (hs : X.stack = X.env :: X.outer) (hf : X.env.frame = some X.env.locals) (hN : X.N.Nodup) (tk : Takes X Wout)
    (hb : ∀ (W : WX) (pn : List (Addr × Obj)) (xe : Value → Shared → Prop), Takes (X.tr pn xe) W → PassesOwn (model X.prog X.w) X.A X.env xe → PSs (X.tr pn xe) body (tb W))
    (hh : HdsAs X (h₀ :: hds) l) : PS X (.Try body (h₀ :: hds) [] [] pos) (fun D σ H => tb (wAsM X.K Wout D l) D σ H) := by
  refine ⟨fun pins s σ H D I h => ?_⟩
  have ok := I.ok
  have hfr : X.A.frames = some (X.env :: X.outer) := by rw [ok.frames, hs]
  refine wpAny_Try_except ?_
  refine wpAny_mono ((hb (wAsM X.K Wout D l) (X.pn ++ pins) (fun e s₁ => wpAny (model X.prog X.w) X.A (noteFrame e X.env) (fun _ s₂ => wpAny (model X.prog X.w) X.A (setFlight e none) (fun _ s₃ =>
    wpAny (model X.prog X.w) X.A (handleBy e X.env (h₀ :: hds)) (SP X pins D) X.xe s₃) X.xe s₂) X.xe s₁) (fun u s' xx => ?_) PassesOwn.looking).run [] s σ H D (I.toTry _) h) (fun f s1 hsp => ?_) (fun e s1 he => he)
  · -- the catch
    obtain ⟨a, B, sI, pins', σ', H', cls, d, rfl, J', nb, up, sky, na, os, ag, w⟩ := xx
    have J : Inv X pins σ' H' sI := J'.ofTry ok
    have sky' : Sky B (X.env :: X.outer) a (Zn cls d) X.env.locals s'.heap := by rw [← hs]; exact sky
    show wpAny (model X.prog X.w) X.A (noteFrame (.ref a) X.env) _ _ _
    refine Sky.land Zn.steady hfr hf sky' fun h3 fl3 up3 => ?_
    have J3 : Inv X pins σ' H' { s' with heap := h3 } := J.landed nb fl3.1 (up.trans up3) os ag
    obtain ⟨oe3, vs3, he3, hz3, hd3⟩ := fl3.there
    have notFr : ∀ {h : Heap} {o : Obj} {vs : Array Value}, h.FunFrames B (X.env :: X.outer) → h.get? a = some o → o.data = .fields vs → a ∉ frs (X.env :: X.outer) := fun {h o vs} ff e dd hm => by
      obtain ⟨_, o', e', hnf⟩ := ff.mem hm
      rw [e] at e'; cases e'
      exact hnf _ dd
    have nfr := notFr fl3.2.2.1 he3 hd3
    have nL : a ≠ X.env.locals := fun z => nfr (List.mem_filterMap.mpr ⟨X.env, List.mem_cons_self, by rw [hf, z]⟩)
    have nF : a ∉ X.fs := fun hm => by
      obtain ⟨e, he, q⟩ := List.mem_filterMap.mp hm
      exact nfr (List.mem_filterMap.mpr ⟨e, List.mem_cons_of_mem _ he, q⟩)
    have S3 := J3.suite he3 hd3 na nL nF
    have go : ∀ {hds' : List ExceptHandler} {l' : List (Value × Nat × (Addr → Value → Option Addr → TS))}, HdsAs X hds' l' → wAsM X.K Wout D l' cls d σ' H' →
        wpAny (model X.prog X.w) X.A (handleBy (.ref a) X.env hds') (SP X pins D) X.xe { s' with heap := h3 } := by
      intro hds' l' hk
      induction hk with
      | nil =>
        intro w
        refine wpAny_handleBy_nil ?_
        obtain ⟨k1, k2, k3, oe, vs, T, oT, ts', he, hz, hd, h1, hr⟩ := id fl3
        unfold PySem.passOn
        refine wpAny_bind (wpAny_field he hd h1 ?_)
        rw [if_neg (show ¬ ((Value.ref T == Value.none) = true) from by simp)]
        have fin : wpAny (model X.prog X.w) X.A (setFlight (.ref a) X.env.frame) (fun _ s4 => wpAny (model X.prog X.w) X.A (throw (.ref a) : Sem Flow) (SP X pins D) X.xe s4) X.xe { s' with heap := h3 } := by
          rw [hf]
          refine HandSPX.setFlight_upZ fl3 fun h4 hh4 up4 => wpAny_throw (tk _ _ ?_)
          exact ⟨a, B, sI, pins, σ', H', cls, d, rfl, J, nb, (up.trans up3).trans up4, .inr (.inr (by rw [hs]; exact hh4)), na, os, ag, w⟩
        first
          | exact wpAny_bind (wpAny_pure (wpAny_bind fin))
          | exact wpAny_bind fin
      | @cons x n i c ts b₀ suite np pos' hds2 l2 hi hln hc hsu r ih =>
        intro w
        obtain ⟨b, hb1, hyes, hno⟩ := w
        refine wpAny_handleBy_cons (codeAny_handlers_test ?_) (by intro q; cases q)
        have LT : PySem.W.Looks (model X.prog X.w) h3 (typeOf (.ref a)) cls := fun A Q E s k q => wpAny_typeOf_ref (k _ _ he3) (by rw [hz3.1]; exact q)
        have LM := PySem.W.exm_one (M := model X.prog X.w) (J3.kIn) LT hb1
        have test : ∀ {Q : Value → Shared → Prop} {E : Value → Shared → Prop}, Q c { s' with heap := h3 } → wpAny (model X.prog X.w) (X.A.mark (some (.ref a))) (eval (.Name x np) X.env) Q E { s' with heap := h3 } := fun {Q E} q => by
          obtain ⟨hg, hdbg, hm | ⟨hm, hv, hnn⟩⟩ := hc
          · exact ld_glob (X := X.suite a ((a, oe3) :: (X.pn ++ pins))) S3 hg hm q hdbg
          · exact ld_blt (X := X.suite a ((a, oe3) :: (X.pn ++ pins))) S3 hg hm hv q hnn hdbg
        refine test (LM.here ?_)
        cases b with
        | true =>
          refine codeAny_handlers_suite_as ?_
          refine HandSPX.lands_againZ fl3 fun h4 fl4 up4 => ?_
          have J4 : Inv X pins σ' H' { s' with heap := h4 } := J.landed nb fl4.1 ((up.trans up3).trans up4) os ag
          obtain ⟨oe4, vs4, he4, hz4, hd4⟩ := fl4.there
          have S4 := J4.suite he4 hd4 na nL nF
          have hloc : Loc X.env.scope n := .inl hln
          refine store_ok (X := X.suite a ((a, oe4) :: (X.pn ++ pins))) (v := .ref a) S4 hN hi hloc rfl (fun s5 S5 => ?_) (.inr hln)
          refine wpAny_mono ((hsu a oe4 cls d (X.pn ++ pins) hz4 ⟨_, hd4⟩).run [] s5 _ H' _ S5 (hyes rfl a na)) (fun f s6 hsp => ?_) (fun _ _ z => False.elim z)
          have end_ : ∀ {σ6 : St} {H6 : Hp} {Q : Shared → Prop}, Inv (X.suite a ((a, oe4) :: (X.pn ++ pins))) [] σ6 H6 s6 → (∀ s7, Inv X pins (σ6.set i none) H6 s7 → Q s7) →
              wpAny (model X.prog X.w) X.A (do bindName X.env n .none; unbindBehindTheSuite X.env n pos') (fun _ s7 => Q s7) X.xe s6 := fun {σ6 H6 Q} S6 hq => gone_ok (S6.unsuite ok) hN hi hln hq
          cases f with
          | next =>
            obtain ⟨σ6, H6, S6, q6⟩ := hsp
            exact end_ S6 fun s7 J7 => ⟨_, _, J7, q6⟩
          | brk =>
            obtain ⟨σ6, H6, S6, q6⟩ := hsp
            exact end_ S6 fun s7 J7 => ⟨_, _, J7, q6⟩
          | cont =>
            obtain ⟨σ6, H6, S6, q6⟩ := hsp
            exact end_ S6 fun s7 J7 => ⟨_, _, J7, q6⟩
          | ret u =>
            obtain ⟨v6, σ6, H6, S6, r6, q6⟩ := hsp
            exact end_ S6 fun s7 J7 => ⟨_, _, _, J7, r6, q6⟩
        | false =>
          show wpAny _ X.A (handleBy (.ref a) X.env hds2) _ _ _
          exact ih (hno rfl)
    exact go hh w
  · cases f with
    | next =>
      obtain ⟨σ', H', J', q⟩ := hsp
      exact wpAny_execs_nil ⟨σ', H', J'.ofTry ok, q⟩
    | brk =>
      obtain ⟨σ', H', J', q⟩ := hsp
      exact ⟨σ', H', J'.ofTry ok, q⟩
    | cont =>
      obtain ⟨σ', H', J', q⟩ := hsp
      exact ⟨σ', H', J'.ofTry ok, q⟩
    | ret u =>
      obtain ⟨v, σ', H', J', r, q⟩ := hsp
      exact ⟨v, σ', H', J'.ofTry ok, r, q⟩
end
end L2N
namespace K57
open PySem PySem.Spec PyProof.Rows L2 Lc Evl
section
variable {P : Program} {w : World} {K : PySem.W.Frag} {mg : Str → Option Value} {base : Heap}
theorem rc_isG (H : Hp) {c f : Str} {a d : Addr} {x : V} {cv : V} {u : Value} {bb : Bool} (hd : H d = some (.xd [(f, x)])) (hc : ClsV cv u) (hk : PySem.W.kitOne K (.ref (He.ga K c)) u = some bb) : RC (rIsG K (He.ga K c) a (.ref (He.ga K c)) (some d)) [.ref a, cv] H (.bl bb) := fun H1 e Q q => ⟨cv, u, bb, d, _, rfl, hc, rfl, rfl, e _ _ hd, hk, q H1 (Ex.refl H1)⟩
/-! ### what is refused -/
theorem ok_law_is_integer_H (T : Tx K mg w) : OkH P w K mg base 1 d_law_is_integer ps_law_is_integer sp_law_is_integer := by
  refine okH (h_law_is_integer T) sc_law_is_integer (fun vs H Q E h => ?_) (fun cdv A outer s H vs Q E p hot hr h => ⟨_,
      (pss_one (ps_ret (pe_and (pe_callB call_isi (by rfl) (m_isinstance T) (by decide +kernel) (pa_cons (pv 0) (pa_cons (pe_bltn (v := .ty "int") (u := .type "int") (by rfl) (m_int T) (by decide +kernel) rfl) pa_nil))) (pe_one (pe_not (pe_callB call_isi (by rfl) (m_isinstance T) (by decide +kernel) (pa_cons (pv 0) (pa_cons (pe_bltn (v := .ty "bool") (u := .type "bool") (by rfl) (m_bool T) (by decide +kernel) rfl) pa_nil)))))))), ?_⟩)
  · obtain ⟨i, rfl, _⟩ := h
    rfl
  · obtain ⟨i, rfl, q⟩ := h
    exact s_ret (v := .bl (true && !false)) (ev_andV (ev_cb (ea_cons (by exact ev_var rfl) (ea_cons ev_c ea_nil)) rc_isInt) fun _ => ev_notV (ev_cb (ea_cons (by exact ev_var rfl) (ea_cons ev_c ea_nil)) rc_isBoolI)) fun H1 e1 => q H1 e1
theorem ev_xf {σ : L2.St} {H : Hp} {te : TE} {a d C : Addr} {f : Str} {x : V} (h : Ev te σ H (.ref a)) (hd : H d = some (.xd [(f, x)])) : Ev (tXf a (.ref C) (some d) C f te) σ H x := fun H1 e Q q => h H1 e _ fun H2 e2 => ⟨rfl, rfl, d, _, x, rfl, e2 _ _ (e _ _ hd), by simp [List.lookup], q H2 e2⟩
def sp_law_too_many (K : PySem.W.Frag) : Sp := fun vs H Q _ => ∃ (c : Addr) (m B : Nat) (ps : List Int) (G : List Jm), vs = [.ref c, .int (m : Int), .int ((B : Int) - 1)] ∧ IsC K H c ps G ∧ 1 ≤ ps.length ∧ ps.length ≤ 4 ∧ PvK ps.length (pairsV G) ∧ 0 < B ∧ B ≤ 2 ^ 100 ∧ 0 < m ∧ m ≤ 12 ∧ 20000 < B ^ (ps.length * m) ∧ RetV (.bl true) H Q
theorem ok_law_too_many (T : Tx K mg w) : OkD P w K mg base 7 d_law_too_many ps_law_too_many (sp_law_too_many K) := by
  refine (h_law_too_many T).ok sc_law_too_many (fun vs H Q E h => ?_) (fun cdv A outer s H vs Q E hr h => ⟨_,
      (pss_cons (L2N.ps_try_as (i := 3) (Wout := fun _ _ _ _ => False) rfl rfl sc_law_too_many.nd rfl rfl ⟨rfl, by decide, Or.inl (m_TooMany T)⟩ takes0N
        (fun W pn xe tk _ => pss_one (ps_expr (pe_callSD (ok_falling_weights (P := P) (w := w) (base := base) T) (hr.mono (by decide)) (by rfl) (m_falling_weights T) (k_falling_weights T) (b_falling_weights T) .nil (fun σ => L2N.passAt tk σ) (pa_cons (pv 0) (pa_cons (pv 1) (pa_cons (pv 2) pa_nil))))))
        (fun a oe cls d pn hz hf => pss_cons (ps_if (pt_val (pe_callB (call_isG (D := He.ga K "TooMany") (exc_TooMany T) hz.zc hf) (by rfl) (m_isinstance T) (by decide +kernel) (pa_cons (pv 3) (pa_cons (pe_glob (v := .ref (He.ga K "InvalidWeight")) rfl (m_InvalidWeight T) rfl) pa_nil)))) (pss_one (ps_ret pe_bl)) pss_nil)
          (pss_one (ps_ret (pe_and (L2H.pe_callH (ok_law_is_integer_H (P := P) (w := w) (base := base) T) ⟨(hr.mono (show 1 ≤ 6 by decide)).dp, (hr.mono (show 1 ≤ 6 by decide)).un⟩ (hot_suite hz hf) (by rfl) (m_law_is_integer T) (k_law_is_integer T) (b_law_is_integer T) (fun _ => passAtN) (pa_cons (pe_xf (x_TooMany T).xf (x_TooMany T).no hz.zc hf (pv 3)) pa_nil)) (pe_one (pe_cmpR op_eq (pe_xf (x_TooMany T).xf (x_TooMany T).no hz.zc hf (pv 3)) pe_int (nomark _))))))))
      (pss_one (ps_ret pe_bl))), ?_⟩)
  · obtain ⟨c, m, B, ps, G, rfl, _⟩ := h
    rfl
  · obtain ⟨c, m, B, ps, G, rfl, hC, hk1, hk4, hPv, hB, hB2, hm, hm12, hbig, q⟩ := h
    refine ⟨_, rfl, _, rfl, _, rfl, c, (m : Int), B, ps, G, rfl, hC, hk1, hk4, hPv, hB, hB2, fun hn => absurd (by omega) hn, fun _ _ d H1 hd e1 hx => ?_, fun _ hs => absurd (show B ^ (ps.length * m) ≤ 20000 from hs) (by omega)⟩
    refine ⟨true, exm_TooMany T, fun _ a' ha => ?_, fun z => by cases z⟩
    try dsimp only [List.set]
    refine q_when (b := false) (et_B (ev_cb (ea_cons (ta := tVar 3) (ev_var rfl) (ea_cons ev_c ea_nil)) (rc_isG _ hx (.own _) (kit_TooMany_InvalidWeight T)))) (fun hc => by cases hc) (fun _ H2 e2 => ?_)
    have h2 := e2 _ _ hx
    refine s_ret (v := .bl (true && decide ((20000 : Int) = 20000))) (ev_andV (ev_call (ea_cons (ev_xf (te := tVar 3) (ev_var rfl) h2) ea_nil) fun H4 e4 Q4 q4 E4 => ⟨_, rfl, q4⟩) fun _ => ev_op (ev_xf (te := tVar 3) (ev_var rfl) h2) ev_c rv_eqII) fun H4 e4 => ?_
    exact q H4 ((e1.trans e2).trans e4)
def sp_law_refuses (K : PySem.W.Frag) : Sp := fun vs H Q _ => ∃ (c : Addr) (p : Int) (B : Nat) (ps : List Int) (G : List Jm), vs = [.ref c, .int p, .int ((B : Int) - 1)] ∧ IsC K H c ps G ∧ 1 ≤ ps.length ∧ ps.length ≤ 4 ∧ PvK ps.length (pairsV G) ∧ 0 < B ∧ B ≤ 2 ^ 100 ∧ ¬ (1 ≤ p ∧ p ≤ 12) ∧ RetV (.bl true) H Q
theorem ok_law_refuses (T : Tx K mg w) : OkD P w K mg base 7 d_law_refuses ps_law_refuses (sp_law_refuses K) := by
  refine (h_law_refuses T).ok sc_law_refuses (fun vs H Q E h => ?_) (fun cdv A outer s H vs Q E hr h => ⟨_,
      (pss_cons (L2N.ps_try_as (i := 3) (Wout := fun _ _ _ _ => False) rfl rfl sc_law_refuses.nd rfl rfl ⟨rfl, by decide, Or.inl (m_InvalidWeight T)⟩ takes0N
        (fun W pn xe tk _ => pss_one (ps_expr (pe_callSD (ok_falling_weights (P := P) (w := w) (base := base) T) (hr.mono (by decide)) (by rfl) (m_falling_weights T) (k_falling_weights T) (b_falling_weights T) .nil (fun σ => L2N.passAt tk σ) (pa_cons (pv 0) (pa_cons (pv 1) (pa_cons (pv 2) pa_nil))))))
        (fun a oe cls d pn hz hf => pss_one (ps_ret (pe_cmpR op_eq (pe_xf (x_InvalidWeight T).xf (x_InvalidWeight T).no hz.zc hf (pv 3)) pe_str (nomark _)))))
      (pss_one (ps_ret pe_bl))), ?_⟩)
  · obtain ⟨c, p, B, ps, G, rfl, _⟩ := h
    rfl
  · obtain ⟨c, p, B, ps, G, rfl, hC, hk1, hk4, hPv, hB, hB2, hn, q⟩ := h
    refine ⟨_, rfl, _, rfl, _, rfl, c, p, B, ps, G, rfl, hC, hk1, hk4, hPv, hB, hB2, fun _ d H1 hd e1 hx => ?_, fun hp => absurd hp hn, fun hp => absurd hp hn⟩
    refine ⟨true, exm_InvalidWeight T, fun _ a' ha => ?_, fun z => by cases z⟩
    try dsimp only [List.set]
    refine s_ret (v := .bl (decide (("period" : Str) = "period"))) (ev_op (ev_xf (te := tVar 3) (ev_var rfl) hx) ev_c rv_eqTT) fun H4 e4 => ?_
    rw [decide_eq_true rfl]
    exact q H4 (e1.trans e4)

end
end K57
namespace Lc
open PySem PySem.Spec PyProof.Rows L2 Evl
section
variable {K : PySem.W.Frag} {b : Addr} {σ : L2.St} {H : Hp} {te tl : TE} {ta : TA} {tz tu tw : TS} {D : Ends}
/-! ### values, lists and tests that draw -/
theorem asg_is {i : Nat} (h : te σ H fun v H1 => tz D (σ.set i (some v)) H1) : tSeq (tAsg te (gName i)) tz D σ H := h
theorem asgI {Pd : Int → Prop} {i : Nat} (h : EvI b te σ Pd) (hb : Bx H b) (k : ∀ d H1, Pd d → ExB b H H1 → Bx H1 b → tz D (σ.set i (some (.int d))) H1) : tSeq (tAsg te (gName i)) tz D σ H := h H hb _ k
theorem s_asgI {Pd : Int → Prop} {i : Nat} (h : EvI b te σ Pd) (hb : Bx H b) (k : ∀ d H1, Pd d → ExB b H H1 → Bx H1 b → D.nx (σ.set i (some (.int d))) H1) : tAsg te (gName i) D σ H := h H hb _ k
/-- name = te == c -/
theorem asgIeq {Pd : Int → Prop} {i : Nat} {c : Int} (h : EvI b te σ Pd) (hb : Bx H b) (k : ∀ v H1, ExB b H H1 → Bx H1 b → tz D (σ.set i (some (.bl v))) H1) : tSeq (tAsg (tOp rEq te (tC (.int c))) (gName i)) tz D σ H :=
  h H hb _ fun d H1 hd e1 b1 => ev_c (v := .int c) H1 (Ex.refl H1) _ fun H2 e2 => rv_eqII (a := d) (b := c) H2 (Ex.refl H2) _ fun H3 e3 => k _ H3 (e1.trans (ExB.of (e2.trans e3))) (b1.ex (e2.trans e3))
def EaI (b : Addr) (ta : TA) (σ : L2.St) (Ps : List Int → Prop) : Prop := ∀ H1, Bx H1 b → ∀ Q : List V → Hp → Prop, (∀ ns H2, Ps ns → ExB b H1 H2 → Bx H2 b → Q (ns.map V.int) H2) → ta σ H1 Q
theorem ai_nil {Pd : Int → Prop} : EaI b tNil σ fun ns => ns.length = 0 ∧ ∀ x ∈ ns, Pd x := fun H1 hb Q q => q [] H1 ⟨rfl, fun x hx => by cases hx⟩ (ExB.refl H1) hb
theorem ai_cons {Pd : Int → Prop} {n : Nat} (h : EvI b te σ Pd) (h2 : EaI b ta σ fun ns => ns.length = n ∧ ∀ x ∈ ns, Pd x) : EaI b (tCons te ta) σ fun ns => ns.length = n + 1 ∧ ∀ x ∈ ns, Pd x := fun H1 hb Q q =>
  h H1 hb _ fun d H2 hd e2 b2 => h2 H2 b2 _ fun ns H3 hn e3 b3 => q (d :: ns) H3 ⟨by rw [List.length_cons, hn.1], fun x hx => by
    rcases List.mem_cons.mp hx with rfl | hx
    · exact hd
    · exact hn.2 x hx⟩ (e2.trans e3) b3
theorem ai_cC {Pd : Int → Prop} {n : Nat} {c : Int} (h : Pd c) (h2 : EaI b ta σ fun ns => ns.length = n ∧ ∀ x ∈ ns, Pd x) : EaI b (tCons (tC (.int c)) ta) σ fun ns => ns.length = n + 1 ∧ ∀ x ∈ ns, Pd x := ai_cons (ei_imp ei_c fun d hd => by rw [hd]; exact h) h2
/-- [te, ..][ti] -/
theorem ei_ixA {Pd : Int → Prop} {n : Nat} (h : EaI b ta σ fun ns => ns.length = n ∧ ∀ x ∈ ns, Pd x) (hn : n ≤ 100) (hi : EvI b te σ fun d => 0 ≤ d ∧ d < (n : Int)) : EvI b (tOp (rIxL K) (tLst ta) te) σ Pd := fun H1 hb Q q =>
  h H1 hb _ fun ns H2 ⟨hl, hp⟩ e2 b2 => ⟨sz_of (by rw [List.length_map]; omega), fun p hpn => hi _ (b2.ex (Ex.new hpn)) _ fun d H3 ⟨d0, d1⟩ e3 b3 =>
    ⟨p, ns.map V.int, d, .int (ns.getD d.toNat 0), rfl, rfl, sq_of (e3 p _ (bx_ne b2 hpn) upd_same), atI_int d0 (by omega), q _ H3 (hp _ (by
      rw [List.getD_eq_getElem?_getD, List.getElem?_eq_getElem (show d.toNat < ns.length by omega)]
      exact List.getElem_mem _)) (e2.trans ((ExB.of (Ex.new hpn)).trans e3)) b3⟩⟩
theorem ei_ixL {ns : List Int} {Pd : Int → Prop} (hl : ∀ H1, EvL tl σ H1 (ns.map V.int)) (hp : ∀ x ∈ ns, Pd x) (hi : EvI b te σ fun d => 0 ≤ d ∧ d < (ns.length : Int)) : EvI b (tOp (rIxL K) tl te) σ Pd := fun H1 hb Q q =>
  hl H1 H1 (Ex.refl H1) _ fun p H2 hpn e2 h2 => hi H2 (hb.ex e2) _ fun d H3 ⟨d0, d1⟩ e3 b3 =>
    ⟨p, ns.map V.int, d, .int (ns.getD d.toNat 0), rfl, rfl, sq_of (e3 p _ (bx_ne hb hpn) h2), atI_int d0 (by omega), q _ H3 (hp _ (by
      rw [List.getD_eq_getElem?_getD, List.getElem?_eq_getElem (show d.toNat < ns.length by omega)]
      exact List.getElem_mem _)) ((ExB.of e2).trans e3) b3⟩
/-! tests -/
def EtI (b : Addr) (tt : TT) (σ : L2.St) (Pb : Bool → Prop) : Prop := ∀ H1, Bx H1 b → ∀ Q : Bool → Hp → Prop, (∀ c H2, Pb c → ExB b H1 H2 → Bx H2 b → Q c H2) → tt σ H1 Q
theorem ti_of {tt : TT} {c : Bool} (h : ∀ H1, EvT tt σ H1 c) : EtI b tt σ (· = c) := fun H1 hb Q q => h H1 H1 (Ex.refl H1) _ fun H2 e2 => q c H2 rfl (ExB.of e2) (hb.ex e2)
theorem ti_and {t1 t2 : TT} {P1 P2 : Bool → Prop} (h1 : EtI b t1 σ P1) (h2 : P1 true → EtI b t2 σ P2) : EtI b (tAnd t1 t2) σ fun c => c = true → P1 true ∧ P2 true := fun H1 hb Q q =>
  h1 H1 hb _ fun c H2 hc e2 b2 => by
    cases c with
    | true =>
      show t2 σ H2 Q
      exact h2 hc H2 b2 _ fun c2 H3 hc2 e3 b3 => q c2 H3 (fun z => ⟨hc, by rw [z] at hc2; exact hc2⟩) (e2.trans e3) b3
    | false =>
      show Q false H2
      exact q false H2 (fun z => by cases z) e2 b2
theorem ti_eq {Pd : Int → Prop} {c : Int} (h : EvI b te σ Pd) : EtI b (tTest (tOp rEq te (tC (.int c)))) σ fun _ => True := fun H1 hb Q q =>
  h H1 hb _ fun d H2 hd e2 b2 => ev_c (v := .int c) H2 (Ex.refl H2) _ fun H3 e3 => rv_eqII (a := d) (b := c) H3 (Ex.refl H3) _ fun H4 e4 => ⟨_, rfl, q _ H4 trivial (e2.trans (ExB.of (e3.trans e4))) (b2.ex (e3.trans e4))⟩
theorem ti_op {Pd : Int → Prop} {g : Int → Int → Bool} {c : Int} (h : EvI b te σ Pd) : EtI b (tTest (tOp (rI0 fun i j => V.bl (g i j)) te (tC (.int c)))) σ fun v => ∃ d, Pd d ∧ v = g d c := fun H1 hb Q q =>
  h H1 hb _ fun d H2 hd e2 b2 => ev_c (v := .int c) H2 (Ex.refl H2) _ fun H3 e3 => ⟨d, c, rfl, rfl, _, rfl, q _ H3 ⟨d, hd, rfl⟩ (e2.trans (ExB.of e3)) (b2.ex e3)⟩
theorem s_ifI {tt : TT} {Pb : Bool → Prop} (h : EtI b tt σ Pb) (hb : Bx H b) (k1 : ∀ H1, Pb true → ExB b H H1 → Bx H1 b → tu D σ H1) (k2 : ∀ H1, Pb false → ExB b H H1 → Bx H1 b → tw D σ H1) : tIfS tt tu tw D σ H := h H hb _ fun c H1 hc e1 b1 => by
  cases c with
  | true => exact k1 H1 hc e1 b1
  | false => exact k2 H1 hc e1 b1
theorem s_whenI {tt : TT} {Pb : Bool → Prop} (h : EtI b tt σ Pb) (hb : Bx H b) (k1 : ∀ H1, Pb true → ExB b H H1 → Bx H1 b → tu D σ H1) (k2 : ∀ H1, Pb false → ExB b H H1 → Bx H1 b → D.nx σ H1) : tIfS tt tu tNext D σ H := s_ifI h hb k1 k2
/-- if a drawn test, and then one that is false -/
theorem s_andN {t1 t2 : TT} {P1 : Bool → Prop} (h1 : EtI b t1 σ P1) (hb : Bx H b) (h2 : ∀ H1, ExB b H H1 → Bx H1 b → EvT t2 σ H1 false) (k : ∀ H1, ExB b H H1 → Bx H1 b → D.nx σ H1) : tIfS (tAnd t1 t2) tu tNext D σ H := h1 H hb _ fun c H1 hc e1 b1 => by
  cases c with
  | true =>
    show t2 σ H1 _
    exact h2 H1 e1 b1 H1 (Ex.refl H1) _ fun H2 e2 => k H2 (e1.trans (ExB.of e2)) (b1.ex e2)
  | false => exact k H1 e1 b1
/-- what comes after, told once -/
theorem q_post {M : L2.St → Hp → Prop} (h : ∀ D' : Ends, D'.rt = D.rt → (∀ σ' H', M σ' H' → D'.nx σ' H') → tu D' σ H) (k : ∀ σ' H', M σ' H' → tz D σ' H') : tSeq tu tz D σ H := h { D with nx := tz D } rfl k
end
end Lc
namespace K57
open PySem PySem.Spec PyProof.Rows L2 Lc Evl
section
variable {P : Program} {w : World} {K : PySem.W.Frag} {mg : Str → Option Value} {base : Heap}
theorem rv_eqC {H : Hp} {c d : Addr} {ps : List Int} {G : List Jm} (hc : IsC K H c ps G) (hd : IsC K H d ps G) : RV (rEqOwn (cC K) (sp_Card_eq K) E0) (.ref c) (.ref d) H (.bl true) := fun H1 e Q q => by
  have hc1 := hc.ex e
  have hd1 := hd.ex e
  obtain ⟨dx, wa, ja, pa, L, M, g1, _⟩ := id hc1
  obtain ⟨dy, wb, jb, pb, L2, M2, g2, _⟩ := id hd1
  exact ⟨c, dx, _, d, dy, _, rfl, g1, rfl, g2, c, d, ps, G, rfl, hc1, hd1, fun H2 e2 => ⟨true, rfl, q H2 e2⟩⟩
theorem addP_mem {w : Pr2} : ∀ (L f : List Pr2), w ∈ L.foldl addP f → w ∈ f ∨ w ∈ L
  | [], f, h => .inl h
  | y :: L, f, h => by
    rcases addP_mem L (addP f y) h with h | h
    · unfold addP at h
      split at h
      · exact .inl h
      · rcases List.mem_append.mp h with h | h
        · exact .inl h
        · exact .inr (by rw [List.mem_singleton.mp h]; exact List.mem_cons_self)
    · exact .inr (List.mem_cons_of_mem _ h)
/-! ### the pairs of the card, and the windows of its jumps -/
theorem addP_in {w : Pr2} : ∀ (L f : List Pr2), (w ∈ f ∨ w ∈ L) → w ∈ L.foldl addP f
  | [], f, h => h.resolve_right (fun h => by cases h)
  | y :: L, f, h => by
    show w ∈ L.foldl addP (addP f y)
    have hf : w ∈ f → w ∈ addP f y := fun h => by
      unfold addP
      split
      · exact h
      · exact List.mem_append_left _ h
    refine addP_in L (addP f y) ?_
    rcases h with h | h
    · exact .inl (hf h)
    · rcases List.mem_cons.mp h with rfl | h
      · refine .inl ?_
        unfold addP
        split
        · assumption
        · exact List.mem_append_right _ (List.mem_singleton.mpr rfl)
      · exact .inr h
theorem pairs_iff {G : List Jm} {w : Pr2} : w ∈ pairsV G ↔ w ∈ G.flatMap winsJ := ⟨fun h => (addP_mem _ _ h).resolve_left (fun h => by cases h), fun h => addP_in _ _ (.inr h)⟩
theorem kn_of {n c : Nat} (hn : n ≤ 4) (h : c = 46 ∨ c ∈ kL) (hk : kd c < (n : Int)) : c = 46 ∨ (97 ≤ c ∧ c < 97 + n) := by
  rcases h with h | h
  · exact .inl h
  · refine .inr ?_
    have h2 : c = 97 ∨ c = 98 ∨ c = 99 ∨ c = 100 := by simpa [kL] using h
    have e0 : kd 97 = 0 := by decide
    have e1 : kd 98 = 1 := by decide
    have e2 : kd 99 = 2 := by decide
    have e3 : kd 100 = 3 := by decide
    rcases h2 with rfl | rfl | rfl | rfl <;> omega
theorem wins_kn {n : Nat} {x : Jm} {w : Pr2} (hn : n ≤ 4) (h : VJ x) (hk : ∀ c ∈ x.1 ++ x.2.1, kd c < (n : Int)) (hw : w ∈ winsJ x) : ((KnW n w.1 ∧ KnW n w.2) ∧ w.1.length ≤ 4 ∧ w.2.length ≤ 4) ∧ w.2.length = w.1.length := by
  obtain ⟨p1, p2⟩ := vj_pl h
  obtain ⟨_, h2, h3, _⟩ := isJ_iff.mp h
  have k1 : KnW n x.1 := fun c hc => kn_of hn (p1 c hc) (hk c (List.mem_append_left _ hc))
  have k2 : KnW n x.2.1 := fun c hc => kn_of hn (p2 c hc) (hk c (List.mem_append_right _ hc))
  unfold winsJ winsOf at hw
  rcases List.mem_append.mp hw with hw | hw
  · split at hw
    · cases hw
    · rw [List.mem_singleton.mp hw]
      exact ⟨⟨⟨k1, k2⟩, by dsimp only; omega, by dsimp only; omega⟩, h3.symm⟩
  · split at hw
    · cases hw
    · rw [List.mem_singleton.mp hw]
      refine ⟨⟨⟨fun c hc => k1 c (List.mem_reverse.mp hc), fun c hc => k2 c (List.mem_reverse.mp hc)⟩, ?_, ?_⟩, ?_⟩
      · show x.1.reverse.length ≤ 4
        rw [List.length_reverse]
        omega
      · show x.2.1.reverse.length ≤ 4
        rw [List.length_reverse]
        omega
      · show x.2.1.reverse.length = x.1.reverse.length
        rw [List.length_reverse, List.length_reverse]
        exact h3.symm
theorem flat_kn {n : Nat} {G : List Jm} (hn : n ≤ 4) (h : ∀ x ∈ G, VJ x ∧ ∀ c ∈ x.1 ++ x.2.1, kd c < (n : Int)) : PvK n (G.flatMap winsJ) ∧ PvE (G.flatMap winsJ) := by
  refine ⟨fun w hw => ?_, fun w hw => ?_⟩
  · obtain ⟨x, hx, hw⟩ := List.mem_flatMap.mp hw
    exact (wins_kn hn (h x hx).1 (h x hx).2 hw).1
  · obtain ⟨x, hx, hw⟩ := List.mem_flatMap.mp hw
    exact (wins_kn hn (h x hx).1 (h x hx).2 hw).2
theorem pairs_kn {n : Nat} {G : List Jm} (hn : n ≤ 4) (h : ∀ x ∈ G, VJ x ∧ ∀ c ∈ x.1 ++ x.2.1, kd c < (n : Int)) : PvK n (pairsV G) ∧ PvE (pairsV G) :=
  ⟨fun w hw => (flat_kn hn h).1 w (pairs_iff.mp hw), fun w hw => (flat_kn hn h).2 w (pairs_iff.mp hw)⟩
theorem rows_pairs {k m : Nat} {G : List Jm} {RW : List (List Int)} (h : RowsOf k m (G.flatMap winsJ) RW) : RowsOf k m (pairsV G) RW := fun v => by
  rw [h v]
  exact ⟨fun ⟨q, hq, r⟩ => ⟨q, pairs_iff.mpr hq, r⟩, fun ⟨q, hq, r⟩ => ⟨q, pairs_iff.mp hq, r⟩⟩
theorem flat_le : ∀ G : List Jm, (G.flatMap winsJ).length ≤ 2 * G.length
  | [] => Nat.le_refl _
  | x :: G => by
    have h1 := flat_le G
    have h2 := wins_le x
    rw [List.flatMap_cons, List.length_append, List.length_cons]
    omega
theorem tps_cat {H : Hp} : ∀ {ts us : List Addr} {ws vs : List Pr2}, Tps H ts ws → Tps H us vs → Tps H (ts ++ us) (ws ++ vs)
  | [], us, [], vs, _, h => h
  | a :: ts, us, x :: ws, vs, h, h2 => ⟨h.1, tps_cat h.2 h2⟩
  | [], _, _ :: _, _, h, _ => h.elim
  | _ :: _, _, [], _, h, _ => h.elim
theorem fall_in {B s m : Nat} {PV : List Pr2} {n : Nat} {F : List Int} (hB : 0 < B) (hB2 : B ≤ 20000) (h : F ∈ fallL B s m PV n) : F.length = s ∧ Sml F ∧ fallB m F PV = true := by
  unfold fallL at h
  rw [List.mem_filter] at h
  obtain ⟨h1, h2⟩ := h
  obtain ⟨i, _, rfl⟩ := List.mem_map.mp h1
  refine ⟨dgt_len B s i, fun x hx => ?_, h2⟩
  have := dgt_in hB s i x hx
  omega
theorem fall_len {B s m : Nat} {PV : List Pr2} {n : Nat} : (fallL B s m PV n).length ≤ n := by
  have h2 := List.length_filter_le (fun F => fallB m F PV) ((List.range n).map (dgt B s))
  rw [List.length_map, List.length_range] at h2
  exact h2
/-- the bound a script gives -/
structure Bd (k m B : Nat) : Prop where
  k1 : 1 ≤ k
  k4 : k ≤ 4
  m1 : 1 ≤ m
  m12 : m ≤ 12
  b1 : 0 < B
  le : B ^ (k * m) ≤ 20000
theorem Bd.s0 {k m B : Nat} (h : Bd k m B) : 0 < k * m := Nat.mul_pos h.k1 h.m1
theorem Bd.s48 {k m B : Nat} (h : Bd k m B) : k * m ≤ 48 := Nat.mul_le_mul h.k4 h.m12
theorem Bd.b2 {k m B : Nat} (h : Bd k m B) : B ≤ 20000 := Nat.le_trans (by
  obtain ⟨s, hs⟩ : ∃ s, k * m = s + 1 := ⟨k * m - 1, by have := h.s0; omega⟩
  rw [hs, Nat.pow_succ]
  have := Nat.mul_le_mul_right B (Nat.pow_pos (n := s) h.b1)
  omega) h.le

end
end K57
namespace K57
open PySem PySem.Spec PyProof.Rows L2 Lc Evl
section
variable {P : Program} {w : World} {K : PySem.W.Frag} {mg : Str → Option Value} {base : Heap}
def sp_law (K : PySem.W.Frag) : Sp := fun vs H Q _ => ∃ (a : Addr) (ns : List Int), vs = [.ref a] ∧ SqL K H a (ns.map V.int) ∧ ∀ H', Q (.bl true) H'
theorem ok_law (T : Tx K mg w) : OkD P w K mg base 10 d_law ps_law (sp_law K) := by
  refine (h_law T).ok sc_law (fun vs H Q E h => ?_) (fun cdv A outer s H vs Q E hr h => ⟨_,
      (pss_cons (ps_set (i := 1) sc_law.nd rfl (Or.inl rfl) (pe_call (ok_law_box (P := P) (w := w) (base := base) T) (hr.mono (by decide)) (by rfl) (m_law_box T) (k_law_box T) (b_law_box T) .nil passN (pa_cons (pv 0) (pa_cons pe_int pa_nil))))
      (pss_cons (ps_set (i := 2) sc_law.nd rfl (Or.inl rfl) (pe_cmpR op_eq (pe_call (ok_law_take (P := P) (w := w) (base := base) T) (hr.mono (by decide)) (by rfl) (m_law_take T) (k_law_take T) (b_law_take T) .nil passN (pa_cons (pv 1) (pa_cons pe_int pa_nil))) pe_int (nomark _)))
      (pss_cons (ps_set (i := 3) sc_law.nd rfl (Or.inl rfl) (pe_ix ix_list (pe_lst (pa_cons pe_int (pa_cons pe_int (pa_cons pe_int (pa_cons pe_int (pa_cons pe_int (pa_cons pe_int pa_nil))))))) (pe_call (ok_law_take (P := P) (w := w) (base := base) T) (hr.mono (by decide)) (by rfl) (m_law_take T) (k_law_take T) (b_law_take T) .nil passN (pa_cons (pv 1) (pa_cons pe_int pa_nil))) (fun _ _ => rfl)))
      (pss_cons (ps_set (i := 4) sc_law.nd rfl (Or.inl rfl) (pe_op op_add pe_int (pe_call (ok_law_take (P := P) (w := w) (base := base) T) (hr.mono (by decide)) (by rfl) (m_law_take T) (k_law_take T) (b_law_take T) .nil passN (pa_cons (pv 1) (pa_cons pe_int pa_nil)))))
      (pss_cons (ps_if (pt_cmpR op_eq (pe_call (ok_law_take (P := P) (w := w) (base := base) T) (hr.mono (by decide)) (by rfl) (m_law_take T) (k_law_take T) (b_law_take T) .nil passN (pa_cons (pv 1) (pa_cons pe_int pa_nil))) pe_int (nomark _)) (pss_one (ps_set (i := 4) sc_law.nd rfl (Or.inl rfl) (pe_op op_add pe_int (pe_call (ok_law_take (P := P) (w := w) (base := base) T) (hr.mono (by decide)) (by rfl) (m_law_take T) (k_law_take T) (b_law_take T) .nil passN (pa_cons (pv 1) (pa_cons pe_int pa_nil)))))) pss_nil)
      (pss_cons (ps_set (i := 5) sc_law.nd rfl (Or.inl rfl) (pe_ix ix_list (pe_op op_cat (pe_op op_cat (pe_op op_rep (pe_lst (pa_cons pe_int pa_nil)) pe_int) (pe_op op_rep (pe_lst (pa_cons pe_int pa_nil)) pe_int)) (pe_lst (pa_cons pe_int pa_nil))) (pe_call (ok_law_take (P := P) (w := w) (base := base) T) (hr.mono (by decide)) (by rfl) (m_law_take T) (k_law_take T) (b_law_take T) .nil passN (pa_cons (pv 1) (pa_cons pe_int pa_nil))) (fun _ _ => rfl)))
      (pss_cons (ps_if (pt_val (pv 2)) (pss_cons (ps_set (i := 3) sc_law.nd rfl (Or.inl rfl) pe_int)
      (pss_cons (ps_set (i := 4) sc_law.nd rfl (Or.inl rfl) (pe_op op_add pe_int (pe_op op_mod (pe_callTy call_int1 (by rfl) (m_int T) (by decide +kernel) (pa_cons (pv 4) pa_nil)) pe_int)))
      (pss_one (ps_set (i := 5) sc_law.nd rfl (Or.inl rfl) pe_int)))) pss_nil)
      (pss_cons (ps_if (PW.pt (pw_and (pt_cmpR op_gt (pe_op op_mul (pv 3) (pv 4)) pe_int (nomark _)) (pw_and1 (pt_cmpR op_gt (pe_call (ok_law_take (P := P) (w := w) (base := base) T) (hr.mono (by decide)) (by rfl) (m_law_take T) (k_law_take T) (b_law_take T) .nil passN (pa_cons (pv 1) (pa_cons pe_int pa_nil))) pe_int (nomark _))))) (pss_one (ps_set (i := 4) sc_law.nd rfl (Or.inl rfl) (pe_op op_fdivW pe_int (pv 3)))) pss_nil)
      (pss_cons (ps_set (i := 6) sc_law.nd rfl (Or.inl rfl) (pe_op op_mul (pv 3) (pv 4)))
      (pss_cons (ps_set (i := 7) sc_law.nd rfl (Or.inl rfl) (pe_call (ok_law_greatest (P := P) (w := w) (base := base) T) (hr.mono (by decide)) (by rfl) (m_law_greatest T) (k_law_greatest T) (b_law_greatest T) .nil passN (pa_cons (pv 5) (pa_cons (pv 6) pa_nil))))
      (pss_cons (ps_if (PW.pt (pw_and (pt_not (pt_val (pv 2))) (pw_and (pt_cmpR op_gt (pv 7) pe_int (nomark _)) (pw_and1 (pt_cmpR op_eq (pe_call (ok_law_take (P := P) (w := w) (base := base) T) (hr.mono (by decide)) (by rfl) (m_law_take T) (k_law_take T) (b_law_take T) .nil passN (pa_cons (pv 1) (pa_cons pe_int pa_nil))) pe_int (nomark _)))))) (pss_one (ps_set (i := 7) sc_law.nd rfl (Or.inl rfl) (pe_op op_add pe_int (pe_call (ok_law_take (P := P) (w := w) (base := base) T) (hr.mono (by decide)) (by rfl) (m_law_take T) (k_law_take T) (b_law_take T) .nil passN (pa_cons (pv 1) (pa_cons (pv 7) pa_nil)))))) pss_nil)
      (pss_cons (ps_if (pt_cmpR op_eq (pe_call (ok_law_take (P := P) (w := w) (base := base) T) (hr.mono (by decide)) (by rfl) (m_law_take T) (k_law_take T) (b_law_take T) .nil passN (pa_cons (pv 1) (pa_cons pe_int pa_nil))) pe_int (nomark _)) (pss_one (ps_set (i := 7) sc_law.nd rfl (Or.inl rfl) pe_int)) pss_nil)
      (pss_cons (ps_set (i := 8) sc_law.nd rfl (Or.inr rfl) (pe_call (ok_law_box (P := P) (w := w) (base := base) T) (hr.mono (by decide)) (by rfl) (m_law_box T) (k_law_box T) (b_law_box T) .nil passN (pa_cons (pv 0) (pa_cons pe_int pa_nil))))
      (pss_cons (ps_setLc (i := 9) (own := [("k", 12)]) (g := gName 12) rfl sc_law.nd rfl rfl (sw_true rfl rfl rfl (by decide +kernel)) (pi_range1 rfl (m_range T) (pa_cons (pv 3) pa_nil)) (blkOk_by (own := [("k", 12)]) (N := ns_law) (sc := (defScope st_law)) (by decide +kernel)) (fun _ _ _ _ _ => pg_name (i := 12) sc_law.nd rfl (Or.inl rfl)) (fun _ _ _ _ _ => pts_nil) (fun _ _ _ _ _ => (pe_op op_add pe_int (pe_call (ok_law_take (P := P) (w := w) (base := base) T) (hr.mono (by decide)) (by rfl) (m_law_take T) (k_law_take T) (b_law_take T) .nil passN (pa_cons (pv 8) (pa_cons pe_int pa_nil))))))
      (pss_cons (ps_if (pt_cmpR op_eq (pe_call (ok_law_take (P := P) (w := w) (base := base) T) (hr.mono (by decide)) (by rfl) (m_law_take T) (k_law_take T) (b_law_take T) .nil passN (pa_cons (pv 8) (pa_cons pe_int pa_nil))) pe_int (nomark _)) (pss_one (ps_setLc (i := 9) (own := [("k", 12)]) (g := gName 12) rfl sc_law.nd rfl rfl (sw_true rfl rfl rfl (by decide +kernel)) (pi_range1 rfl (m_range T) (pa_cons (pv 3) pa_nil)) (blkOk_by (own := [("k", 12)]) (N := ns_law) (sc := (defScope st_law)) (by decide +kernel)) (fun _ _ _ _ _ => pg_name (i := 12) sc_law.nd rfl (Or.inl rfl)) (fun _ _ _ _ _ => pts_nil) (fun _ _ _ _ _ => (pe_op op_add pe_int (pe_call (ok_law_take (P := P) (w := w) (base := base) T) (hr.mono (by decide)) (by rfl) (m_law_take T) (k_law_take T) (b_law_take T) .nil passN (pa_cons (pv 8) (pa_cons pe_int pa_nil))))))) pss_nil)
      (pss_cons (ps_set (i := 10) sc_law.nd rfl (Or.inl rfl) (pe_lst pa_nil))
      (pss_cons (ps_set (i := 11) sc_law.nd rfl (Or.inl rfl) (pe_ix ix_list (pe_lst (pa_cons pe_int (pa_cons pe_int (pa_cons pe_int (pa_cons pe_int (pa_cons pe_int (pa_cons pe_int pa_nil))))))) (pe_call (ok_law_take (P := P) (w := w) (base := base) T) (hr.mono (by decide)) (by rfl) (m_law_take T) (k_law_take T) (b_law_take T) .nil passN (pa_cons (pv 8) (pa_cons pe_int pa_nil))) (fun _ _ => rfl)))
      (pss_cons (ps_if (pt_val (pv 2)) (pss_one (ps_set (i := 11) sc_law.nd rfl (Or.inl rfl) (pe_callB (call_min2 rfl) (by rfl) (m_min T) (by decide +kernel) (pa_cons pe_int (pa_cons (pv 11) pa_nil))))) pss_nil)
      (pss_cons (ps_for (passes_of rfl) rfl (pi_range1 rfl (m_range T) (pa_cons (pv 11) pa_nil)) (pg_name (i := 12) sc_law.nd rfl (Or.inl rfl)) (pss_cons (ps_set (i := 15) sc_law.nd rfl (Or.inl rfl) (pe_call (ok_law_jump (P := P) (w := w) (base := base) T) (hr.mono (by decide)) (by rfl) (m_law_jump T) (k_law_jump T) (b_law_jump T) .nil passN (pa_cons (pv 8) (pa_cons (pv 9) pa_nil))))
      (pss_one (ps_if (pt_cmpR (show OpR _ _ (rNotInD K) from op_notInD (hu65 hr)) (pv 15) (pv 10) (by rfl)) (pss_one (ps_expr (pe_bm PySem.F.plainAttrs_list PySem.F.slot_list_append PySem.F.type_list_append mt_append (pv 10) (pa_cons (pv 15) pa_nil)))) pss_nil))))
      (pss_cons (ps_set (i := 13) sc_law.nd rfl (Or.inl rfl) (pe_call (ok_law_card (P := P) (w := w) (base := base) T) (hr.mono (by decide)) (by rfl) (m_law_card T) (k_law_card T) (b_law_card T) .nil passN (pa_cons (pv 9) (pa_cons (pv 10) pa_nil))))
      (pss_cons (ps_set (i := 14) sc_law.nd rfl (Or.inl rfl) (pe_lst pa_nil))
      (pss_cons (ps_for (passes_of rfl) rfl (pi_list (pv 10)) (pg_name (i := 15) sc_law.nd rfl (Or.inl rfl)) (pss_one (ps_set (i := 14) sc_law.nd rfl (Or.inl rfl) (pe_op op_cat (pv 14) (pe_call (ok_law_sides (P := P) (w := w) (base := base) T) (hr.mono (by decide)) (by rfl) (m_law_sides T) (k_law_sides T) (b_law_sides T) .nil passN (pa_cons (pv 15) pa_nil))))))
      (pss_cons (ps_set (i := 16) sc_law.nd rfl (Or.inl rfl) (pe_call (ok_law_conditions (P := P) (w := w) (base := base) T) (hr.mono (by decide)) (by rfl) (m_law_conditions T) (k_law_conditions T) (b_law_conditions T) .nil passN (pa_cons (pv 14) (pa_cons (pv 4) (pa_cons (pv 3) pa_nil)))))
      (pss_cons (ps_set (i := 17) sc_law.nd rfl (Or.inl rfl) (pe_call (ok_law_due (P := P) (w := w) (base := base) T) (hr.mono (by decide)) (by rfl) (m_law_due T) (k_law_due T) (b_law_due T) .nil passN (pa_cons (pv 16) (pa_cons (pv 7) (pa_cons (pv 6) pa_nil)))))
      (pss_cons (ps_if (pt_not (pt_val (pe_call (ok_law_is_due (P := P) (w := w) (base := base) T) (hr.mono (by decide)) (by rfl) (m_law_is_due T) (k_law_is_due T) (b_law_is_due T) .nil passN (pa_cons (pe_call (ok_falling_weights (P := P) (w := w) (base := base) T) (hr.mono (by decide)) (by rfl) (m_falling_weights T) (k_falling_weights T) (b_falling_weights T) .nil passN (pa_cons (pv 13) (pa_cons (pv 4) (pa_cons (pv 7) pa_nil)))) (pa_cons (pv 17) (pa_cons (pv 4) (pa_cons (pv 3) (pa_cons (pv 13) pa_nil)))))))) (pss_one (ps_ret pe_bl)) pss_nil)
      (pss_cons (ps_for (passes_of rfl) rfl (pi_range2 rfl (m_range T) (pa_cons pe_int (pa_cons (pe_callB (call_max2 rfl) (by rfl) (m_max T) (by decide +kernel) (pa_cons pe_int (pa_cons (pe_callB (call_min2 rfl) (by rfl) (m_min T) (by decide +kernel) (pa_cons pe_int (pa_cons (pe_callB call_len (by rfl) (m_len T) (by decide +kernel) (pa_cons (pv 0) pa_nil)) pa_nil))) pa_nil))) pa_nil))) (pg_name (i := 12) sc_law.nd rfl (Or.inl rfl)) (pss_one (ps_if (pt_not (pt_val (pe_call (ok_law_asked (P := P) (w := w) (base := base) T) (hr.mono (by decide)) (by rfl) (m_law_asked T) (k_law_asked T) (b_law_asked T) .nil passN (pa_cons (pe_call (ok_law_box (P := P) (w := w) (base := base) T) (hr.mono (by decide)) (by rfl) (m_law_box T) (k_law_box T) (b_law_box T) .nil passN (pa_cons (pv 0) (pa_cons (pv 12) pa_nil))) (pa_cons (pv 13) (pa_cons (pv 16) (pa_cons (pv 4) (pa_cons (pv 7) (pa_cons (pv 17) pa_nil))))))))) (pss_one (ps_ret pe_bl)) pss_nil)))
      (pss_cons (ps_set (i := 18) sc_law.nd rfl (Or.inl rfl) (pe_ix ix_list (pe_lst (pa_cons pe_int (pa_cons pe_int (pa_cons (pe_op op_sub (pe_un un_neg pe_int) (pe_call (ok_law_take (P := P) (w := w) (base := base) T) (hr.mono (by decide)) (by rfl) (m_law_take T) (k_law_take T) (b_law_take T) .nil passN (pa_cons (pv 1) (pa_cons pe_int pa_nil)))) (pa_cons (pe_op op_add pe_int (pe_call (ok_law_take (P := P) (w := w) (base := base) T) (hr.mono (by decide)) (by rfl) (m_law_take T) (k_law_take T) (b_law_take T) .nil passN (pa_cons (pv 1) (pa_cons (pe_op op_pow pe_int pe_int) pa_nil)))) pa_nil))))) (pe_call (ok_law_take (P := P) (w := w) (base := base) T) (hr.mono (by decide)) (by rfl) (m_law_take T) (k_law_take T) (b_law_take T) .nil passN (pa_cons (pv 1) (pa_cons pe_int pa_nil))) (fun _ _ => rfl)))
      (pss_cons (ps_set (i := 19) sc_law.nd rfl (Or.inl rfl) (pe_op op_add (pe_op op_add (pe_call (ok_law_greatest (P := P) (w := w) (base := base) T) (hr.mono (by decide)) (by rfl) (m_law_greatest T) (k_law_greatest T) (b_law_greatest T) .nil passN (pa_cons pe_int (pa_cons (pv 6) pa_nil))) pe_int) (pe_ix ix_list (pe_lst (pa_cons pe_int (pa_cons pe_int (pa_cons (pe_call (ok_law_take (P := P) (w := w) (base := base) T) (hr.mono (by decide)) (by rfl) (m_law_take T) (k_law_take T) (b_law_take T) .nil passN (pa_cons (pv 1) (pa_cons pe_int pa_nil))) (pa_cons (pe_op op_pow pe_int pe_int) pa_nil))))) (pe_call (ok_law_take (P := P) (w := w) (base := base) T) (hr.mono (by decide)) (by rfl) (m_law_take T) (k_law_take T) (b_law_take T) .nil passN (pa_cons (pv 1) (pa_cons pe_int pa_nil))) (fun _ _ => rfl))))
      (pss_cons (ps_if (PW.pt (pw_and (pt_cmpR op_eq (pe_call (ok_law_take (P := P) (w := w) (base := base) T) (hr.mono (by decide)) (by rfl) (m_law_take T) (k_law_take T) (b_law_take T) .nil passN (pa_cons (pv 1) (pa_cons pe_int pa_nil))) pe_int (nomark _)) (pw_and1 (pt_not (pt_val (pe_call (ok_law_too_many (P := P) (w := w) (base := base) T) (hr.mono (by decide)) (by rfl) (m_law_too_many T) (k_law_too_many T) (b_law_too_many T) .nil passN (pa_cons (pv 13) (pa_cons (pv 4) (pa_cons (pv 19) pa_nil))))))))) (pss_one (ps_ret pe_bl)) pss_nil)
      (pss_cons (ps_if (PW.pt (pw_or (pt_not (pt_val (pe_call (ok_law_refuses (P := P) (w := w) (base := base) T) (hr.mono (by decide)) (by rfl) (m_law_refuses T) (k_law_refuses T) (b_law_refuses T) .nil passN (pa_cons (pv 13) (pa_cons (pv 18) (pa_cons (pv 7) pa_nil)))))) (pw_or1 (pt_not (pt_val (pe_call (ok_law_refuses (P := P) (w := w) (base := base) T) (hr.mono (by decide)) (by rfl) (m_law_refuses T) (k_law_refuses T) (b_law_refuses T) .nil passN (pa_cons (pv 13) (pa_cons (pv 18) (pa_cons (pv 19) pa_nil))))))))) (pss_one (ps_ret pe_bl)) pss_nil)
      (pss_one (ps_ret (pe_cmpR (op_eqOwn (ok_Card_eq (P := P) (w := w) (base := base) T) (hr.mono (by decide)) (me_Card_eq T).at_ (me_Card_eq T).fn (b_Card_eq T) passN) (pv 13) (pe_call (ok_law_card (P := P) (w := w) (base := base) T) (hr.mono (by decide)) (by rfl) (m_law_card T) (k_law_card T) (b_law_card T) .nil passN (pa_cons (pv 9) (pa_cons (pv 10) pa_nil))) (nomark _)))))))))))))))))))))))))))))))))), ?_⟩)
  · obtain ⟨a, ns, rfl, _⟩ := h
    rfl
  · obtain ⟨a, ns, rfl, hs, q⟩ := h
    refine asg_is (call_fst ((ea_cons (by exact ev_var rfl) (ea_cons ev_c ea_nil)) H (Ex.refl H) _ fun H1 e1 => ⟨a, ns, 0, rfl, ex_l e1 hs, by decide, by decide, fun b H2 hb1 e2 b2 => ?_⟩))
    have X2 := e1.trans e2
    have hb : H b = none := fresh_back e1 hb1
    clear e1 e2 hb1
    try dsimp only [List.set]
    refine asgIeq (b := b) (ei_take (many := 128) rfl (fun H => ev_c) (by decide) (by decide)) b2 fun gr H3 x3 b3 => ?_
    have X3 := exB_new hb X2 x3
    clear x3 b2 X2
    try dsimp only [List.set]
    refine asgI (b := b) (Pd := fun d => 1 ≤ d ∧ d ≤ 4) (ei_ixA (n := 6) (ai_cC (by decide) (ai_cC (by decide) (ai_cC (by decide) (ai_cC (by decide) (ai_cC (by decide) (ai_cC (by decide) ai_nil)))))) (by decide) (ei_imp (ei_take (many := 6) rfl (fun H => ev_c) (by decide) (by decide)) fun d hd => ⟨hd.1, by omega⟩)) b3 fun kz H4 hk x4 b4 => ?_
    obtain ⟨k, rfl⟩ : ∃ n : Nat, kz = (n : Int) := ⟨kz.toNat, by omega⟩
    have X4 := exB_new hb X3 x4
    clear x4 b3 X3
    try dsimp only [List.set]
    refine asgI (b := b) (Pd := fun d => 1 ≤ d ∧ d ≤ 4) (ei_op ei_c (ei_take (many := 4) rfl (fun H => ev_c) (by decide) (by decide)) fun x y hx hy => by subst hx; omega) b4 fun mz H5 hm x5 b5 => ?_
    obtain ⟨m, rfl⟩ : ∃ n : Nat, mz = (n : Int) := ⟨mz.toNat, by omega⟩
    have X5 := exB_new hb X4 x5
    clear x5 b4 X4
    try dsimp only [List.set]
    refine q_post (M := fun σ' H' => Ex H H' ∧ Bx H' b ∧ ∃ m : Nat, 1 ≤ m ∧ m ≤ 12 ∧ σ' = [some (.ref a), some (.ref b), some (.bl gr), some (.int (k : Int)), some (.int (m : Int)), none, none, none, none, none, none, none, none, none, none, none, none, none, none, none]) (fun D' _ hD => ?_) ?_
    · refine s_whenI (b := b) (ti_eq (ei_take (many := 8) rfl (fun H => ev_c) (by decide) (by decide))) b5 (fun H6 _ x6 b6 => ?_) fun H6 _ x6 b6 => ?_
      · refine s_asgI (b := b) (Pd := fun d => 1 ≤ d ∧ d ≤ 12) (ei_op ei_c (ei_take (many := 12) rfl (fun H => ev_c) (by decide) (by decide)) fun x y hx hy => by subst hx; omega) b6 fun d H7 hd x7 b7 => ?_
        obtain ⟨m, rfl⟩ : ∃ n : Nat, d = (n : Int) := ⟨d.toNat, by omega⟩
        exact hD _ _ ⟨exB_new hb X5 (x6.trans x7), b7, m, by omega, by omega, rfl⟩
      · exact hD _ _ ⟨exB_new hb X5 x6, b6, m, by omega, by omega, rfl⟩
    clear hm b5 X5
    rintro σ' H5 ⟨X5, b5, m, m1, m12, rfl⟩
    refine asgI (b := b) (Pd := fun d => 130 ≤ d ∧ d ≤ 1200) (ei_ixL (ns := List.replicate 24 130 ++ List.replicate 7 300 ++ [1200]) (fun H6 => ?_) (by decide) (ei_imp (ei_take (many := 32) rfl (fun H => ev_c) (by decide) (by decide)) fun d hd => ⟨hd.1, by have := hd.2; simp only [List.length_append, List.length_replicate, List.length_singleton]; omega⟩)) b5 fun lz H6 hlz x6 b6 => ?_
    · rw [List.map_append, List.map_append, List.map_replicate, List.map_replicate]
      exact el_catN (el_catN (el_rep (n := 24) (el_lst (ea_cons ev_c ea_nil) (by decide)) (fun H7 e7 => ev_c) (by decide)) (el_rep (n := 7) (el_lst (ea_cons ev_c ea_nil) (by decide)) (fun H7 e7 => ev_c) (by decide)) (by simp)) (el_lst (ea_cons ev_c ea_nil) (by decide)) (by simp)
    obtain ⟨lim, rfl⟩ : ∃ n : Nat, lz = (n : Int) := ⟨lz.toNat, by omega⟩
    have X6 := exB_new hb X5 x6
    clear x6 b5 X5
    try dsimp only [List.set]
    refine q_post (M := fun σ' H' => Ex H H' ∧ Bx H' b ∧ ∃ k m lim : Nat, 1 ≤ k ∧ k ≤ 4 ∧ 1 ≤ m ∧ m ≤ 12 ∧ 0 < lim ∧ lim ≤ 20000 ∧ σ' = [some (.ref a), some (.ref b), some (.bl gr), some (.int (k : Int)), some (.int (m : Int)), some (.int (lim : Int)), none, none, none, none, none, none, none, none, none, none, none, none, none, none]) (fun D' _ hD => ?_) ?_
    · refine s_when (b := gr) (et_B (by exact ev_var rfl)) (fun _ H7 e7 => ?_) fun _ H7 e7 => ?_
      · refine q_asg (v := .int ((1 : Nat) : Int)) ev_c fun H8 e8 => ?_
        try dsimp only [List.set]
        refine q_asg (v := .int ((1 + m % 2 : Nat) : Int)) (ev_is (ev_op ev_c (ev_op (ev_cb (ea_cons (by exact ev_var rfl) ea_nil) rc_intI) ev_c (rv_I (by decide))) rv_I0) (by rw [Int.natCast_add, Int.natCast_emod]; rfl)) fun H9 e9 => ?_
        try dsimp only [List.set]
        exact s_asg (v := .int ((20000 : Nat) : Int)) ev_c fun H10 e10 => hD _ _ ⟨X6.trans (((e7.trans e8).trans e9).trans e10), b6.ex (((e7.trans e8).trans e9).trans e10), 1, 1 + m % 2, 20000, by omega, by omega, by omega, by omega, by omega, by omega, rfl⟩
      · exact hD _ _ ⟨X6.trans e7, b6.ex e7, k, m, lim, by omega, by omega, by omega, by omega, by omega, by omega, rfl⟩
    clear hk hlz m1 m12 b6 X6
    clear k m lim
    rintro σ' H6 ⟨X6, b6, k, m, lim, k1, k4, m1, m12, l1, l2, rfl⟩
    refine q_post (M := fun σ' H' => Ex H H' ∧ Bx H' b ∧ ∃ m : Nat, 1 ≤ m ∧ m ≤ 12 ∧ σ' = [some (.ref a), some (.ref b), some (.bl gr), some (.int (k : Int)), some (.int (m : Int)), some (.int (lim : Int)), none, none, none, none, none, none, none, none, none, none, none, none, none, none]) (fun D' _ hD => ?_) ?_
    · refine s_whenI (b := b) (ti_and (ti_of (c := decide ((k : Int) * (m : Int) > 7)) fun H7 => et_test (ev_op (x := .int ((k : Int) * (m : Int))) (ev_op (by exact ev_var rfl) (by exact ev_var rfl) (rv_I (.inl ⟨by omega, by omega⟩))) ev_c rv_I0)) fun _ => ti_op (ei_take (many := 4) rfl (fun H => ev_c) (by decide) (by decide))) b6 (fun H7 _ x7 b7 => ?_) fun H7 _ x7 b7 => ?_
      · refine s_asg (v := .int ((7 / k : Nat) : Int)) (ev_is (ev_op ev_c (by exact ev_var rfl) (rv_I ⟨by omega, ?_⟩)) (by rw [Int.natCast_ediv]; rfl)) fun H8 e8 => ?_
        · have hk : k = 1 ∨ k = 2 ∨ k = 3 ∨ k = 4 := by omega
          rcases hk with rfl | rfl | rfl | rfl <;> decide
        · have h7 : 1 ≤ 7 / k := (Nat.le_div_iff_mul_le (by omega)).mpr (by omega)
          have h8 : 7 / k ≤ 7 := Nat.div_le_self _ _
          exact hD _ _ ⟨(exB_new hb X6 x7).trans e8, b7.ex e8, 7 / k, h7, by omega, rfl⟩
      · exact hD _ _ ⟨exB_new hb X6 x7, b7, m, m1, m12, rfl⟩
    clear m1 m12 b6 X6
    clear m
    rintro σ' H6 ⟨X6, b6, m, m1, m12, rfl⟩
    have hkm : k * m ≤ 4 * 12 := Nat.mul_le_mul k4 m12
    have hs0 : 0 < k * m := Nat.mul_pos k1 m1
    refine q_asg (v := .int ((k * m : Nat) : Int)) (ev_is (ev_op (x := .int (k : Int)) (y := .int (m : Int)) (by exact ev_var rfl) (by exact ev_var rfl) (rv_I (.inl ⟨by omega, by omega⟩))) (by rw [Int.natCast_mul])) fun H7 e7 => ?_
    try dsimp only [List.set]
    refine asg_is (call_fst ((ea_cons (by exact ev_var rfl) (ea_cons (by exact ev_var rfl) ea_nil)) H7 (Ex.refl H7) _ fun H8 e8 => ⟨lim, k * m, rfl, l1, l2, hs0, by omega, fun g H9 e9 t1 t2 hg2 => ?_⟩))
    have X9 := X6.trans ((e7.trans e8).trans e9)
    have b9 := b6.ex ((e7.trans e8).trans e9)
    clear X6 b6 e7 e8 e9
    have hg : (g + 1) ^ (k * m) ≤ 20000 := by
      rw [tot_small (by omega)]
      omega
    clear t1 t2
    try dsimp only [List.set]
    refine q_post (M := fun σ' H' => Ex H H' ∧ Bx H' b ∧ ∃ B : Nat, 0 < B ∧ B ^ (k * m) ≤ 20000 ∧ σ' = [some (.ref a), some (.ref b), some (.bl gr), some (.int (k : Int)), some (.int (m : Int)), some (.int (lim : Int)), some (.int ((k * m : Nat) : Int)), some (.int ((B : Int) - 1)), none, none, none, none, none, none, none, none, none, none, none, none]) (fun D' _ hD => ?_) ?_
    · refine s_whenI (b := b) (ti_and (ti_of (c := !gr) fun H7 => et_not (et_B (by exact ev_var rfl))) fun _ => ti_and (ti_of (c := decide ((g : Int) > 0)) fun H7 => et_test (ev_op (by exact ev_var rfl) ev_c rv_I0)) fun _ => ti_eq (ei_take (many := 2) rfl (fun H => ev_c) (by decide) (by decide))) b9 (fun H10 hc x10 b10 => ?_) fun H10 _ x10 b10 => ?_
      · have h0 : (g : Int) > 0 := of_decide_eq_true ((hc rfl).2 rfl).1.symm
        refine s_asgI (b := b) (Pd := fun d => 1 ≤ d ∧ d ≤ (g : Int)) (ei_op ei_c (ei_take (many := (g : Int)) rfl (fun H => ev_var rfl) h0 (by omega)) fun x y hx hy => by subst hx; omega) b10 fun d H11 hd x11 b11 => ?_
        obtain ⟨d, rfl⟩ : ∃ n : Nat, d = (n : Int) := ⟨d.toNat, by omega⟩
        exact hD _ _ ⟨exB_new hb X9 (x10.trans x11), b11, d + 1, by omega, Nat.le_trans (Nat.pow_le_pow_left (by omega) _) hg, by rw [Int.natCast_add]; show _ = [_, _, _, _, _, _, _, some (V.int ((d : Int) + 1 - 1)), none, none, none, none, none, none, none, none, none, none, none, none]; rw [Int.add_sub_cancel]; rfl⟩
      · exact hD _ _ ⟨exB_new hb X9 x10, b10, g + 1, by omega, hg, by rw [Int.natCast_add]; show _ = [_, _, _, _, _, _, _, some (V.int ((g : Int) + 1 - 1)), none, none, none, none, none, none, none, none, none, none, none, none]; rw [Int.add_sub_cancel]⟩
    clear b9 X9 hg hg2
    clear g
    rintro σ' H9 ⟨X9, b9, B, hB, hBs, rfl⟩
    refine q_post (M := fun σ' H' => Ex H H' ∧ Bx H' b ∧ ∃ B : Nat, 0 < B ∧ B ^ (k * m) ≤ 20000 ∧ σ' = [some (.ref a), some (.ref b), some (.bl gr), some (.int (k : Int)), some (.int (m : Int)), some (.int (lim : Int)), some (.int ((k * m : Nat) : Int)), some (.int ((B : Int) - 1)), none, none, none, none, none, none, none, none, none, none, none, none]) (fun D' _ hD => ?_) ?_
    · refine s_whenI (b := b) (ti_eq (ei_take (many := 16) rfl (fun H => ev_c) (by decide) (by decide))) b9 (fun H10 _ x10 b10 => ?_) fun H10 _ x10 b10 => ?_
      · exact s_asg (v := .int 0) ev_c fun H11 e11 => hD _ _ ⟨(exB_new hb X9 x10).trans e11, b10.ex e11, 1, by decide, by rw [Nat.one_pow]; decide, rfl⟩
      · exact hD _ _ ⟨exB_new hb X9 x10, b10, B, hB, hBs, rfl⟩
    clear b9 X9 hB hBs
    clear B
    rintro σ' H9 ⟨X9, b9, B, hB, hBs, rfl⟩
    have bd : Bd k m B := ⟨k1, k4, m1, m12, hB, hBs⟩
    clear l1 l2 k1 k4 m1 m12 hB hBs hkm hs0
    refine asg_is (call_fst ((ea_cons (by exact ev_var rfl) (ea_cons ev_c ea_nil)) H9 (Ex.refl H9) _ fun H10 e10 => ⟨a, ns, 1, rfl, ex_l (X9.trans e10) hs, by decide, by decide, fun p H11 hp0 e11 p11 => ?_⟩))
    have X11 := X9.trans (e10.trans e11)
    have b11 := b9.ex (e10.trans e11)
    have hp : H p = none := fresh_back (X9.trans e10) hp0
    have hpb : p ≠ b := bx_ne (b9.ex e10) hp0
    clear X9 b9 e10 e11 hp0
    try dsimp only [List.set]
    refine asg_is ?_
    refine bx_lcG (R := RI 1 1000) keep_RI (b := p) (n := k) (fun x => rfl) (ea_cons (by exact ev_var rfl) ea_nil) p11 (by have := bd.k4; omega) (fun i H12 hi x12 b12 => elb_I (ei_op ei_c (ei_take (many := 3) rfl (fun H => ev_c) (by decide) (by decide)) fun x y hx hy => by subst hx; omega) b12) fun xs w H12 hxl hxs hw h12 x12 p12 => ?_
    obtain ⟨ps, rfl, hps⟩ := ints_of hxs
    rw [List.length_map] at hxl
    have hwp : w ≠ p := bx_ne p11 hw
    have hwb : w ≠ b := bx_ne b11 hw
    have X12 := exB_new hp X11 x12
    have b12 := x12.bx (Ne.symm hpb) b11
    clear X11 b11 p11 x12 hw hxs
    try dsimp only [List.set]
    refine q_post (M := fun σ' H' => Ex H H' ∧ Bx H' b ∧ Bx H' p ∧ ∃ (w : Addr) (ps : List Int), H' w = some (.lst (ps.map V.int)) ∧ w ≠ p ∧ w ≠ b ∧ ps.length = k ∧ (∀ n ∈ ps, 1 ≤ n ∧ n ≤ 1000) ∧ σ' = [some (.ref a), some (.ref b), some (.bl gr), some (.int (k : Int)), some (.int (m : Int)), some (.int (lim : Int)), some (.int ((k * m : Nat) : Int)), some (.int ((B : Int) - 1)), some (.ref p), some (.ref w), none, none, none, none, none, none, none, none, none, none]) (fun D' _ hD => ?_) ?_
    · refine s_whenI (b := p) (ti_eq (ei_take (many := 4) rfl (fun H => ev_c) (by decide) (by decide))) p12 (fun H13 _ x13 p13 => ?_) fun H13 _ x13 p13 => ?_
      · have b13 := x13.bx (Ne.symm hpb) b12
        refine Lc.asg_fst ?_
        refine bx_lcG (R := RI 1 1000) keep_RI (b := p) (n := k) (fun x => rfl) (ea_cons (by exact ev_var rfl) ea_nil) p13 (by have := bd.k4; omega) (fun i H12 hi x12 b12 => elb_I (ei_op ei_c (ei_take (many := 1000) rfl (fun H => ev_c) (by decide) (by decide)) fun x y hx hy => by subst hx; omega) b12) fun xs w H14 hxl hxs hw h14 x14 p14 => ?_
        obtain ⟨qs, rfl, hqs⟩ := ints_of hxs
        rw [List.length_map] at hxl
        exact hD _ _ ⟨exB_new hp X12 (x13.trans x14), x14.bx (Ne.symm hpb) b13, p14, w, qs, h14, bx_ne p13 hw, bx_ne b13 hw, hxl, hqs, rfl⟩
      · exact hD _ _ ⟨exB_new hp X12 x13, x13.bx (Ne.symm hpb) b12, p13, w, ps, x13 _ _ hwp h12, hwp, hwb, hxl, hps, rfl⟩
    clear X12 b12 p12 h12 hwp hwb hxl hps
    clear w ps
    rintro σ' H12 ⟨X12, b12, p12, w, ps, h12, hwp, hwb, hpk, hps, rfl⟩
    have hok : OkP ps := ⟨by have := bd.k1; omega, by have := bd.k4; omega, hps⟩
    refine q_asgL (xs := []) (el_lst ea_nil (by simp)) fun r H13 hr0 e13 h13 => ?_
    have hr' : H r = none := fresh_back X12 hr0
    have hrp : r ≠ p := bx_ne p12 hr0
    have hrb : r ≠ b := bx_ne b12 hr0
    have hrw : r ≠ w := fun z => by rw [z, h12] at hr0; cases hr0
    have X13 := X12.trans e13
    have b13 := b12.ex e13
    have p13 := p12.ex e13
    have w13 := e13 _ _ h12
    clear X12 b12 p12 h12 e13 hr0
    try dsimp only [List.set]
    refine asgI (b := p) (Pd := fun d => 0 ≤ d ∧ d ≤ 3) (ei_ixA (n := 6) (ai_cC (by decide) (ai_cC (by decide) (ai_cC (by decide) (ai_cC (by decide) (ai_cC (by decide) (ai_cC (by decide) ai_nil)))))) (by decide) (ei_imp (ei_take (many := 6) rfl (fun H => ev_c) (by decide) (by decide)) fun d hd => ⟨hd.1, by omega⟩)) p13 fun cnt H14 hcnt x14 p14 => ?_
    have X14 := exB_new hp X13 x14
    have b14 := x14.bx (Ne.symm hpb) b13
    have w14 := x14 _ _ hwp w13
    have r14 := x14 _ _ hrp h13
    clear X13 b13 p13 w13 h13 x14
    try dsimp only [List.set]
    refine q_post (M := fun σ' H' => Ex H14 H' ∧ ∃ cnt : Int, 0 ≤ cnt ∧ cnt ≤ 3 ∧ σ' = [some (.ref a), some (.ref b), some (.bl gr), some (.int (k : Int)), some (.int (m : Int)), some (.int (lim : Int)), some (.int ((k * m : Nat) : Int)), some (.int ((B : Int) - 1)), some (.ref p), some (.ref w), some (.ref r), some (.int cnt), none, none, none, none, none, none, none, none]) (fun D' _ hD => ?_) ?_
    · refine s_when (b := gr) (et_B (by exact ev_var rfl)) (fun _ H7 e7 => ?_) fun _ H7 e7 => ?_
      · refine s_asg (ev_cb (ea_cons ev_c (ea_cons (by exact ev_var rfl) ea_nil)) rc_min2) fun H8 e8 => hD _ _ ⟨e7.trans e8, _, ?_, ?_, rfl⟩
        · split <;> omega
        · split <;> omega
      · exact hD _ _ ⟨e7, cnt, hcnt.1, hcnt.2, rfl⟩
    clear hcnt
    clear cnt
    rintro σ' H15 ⟨e15, cnt, c0, c3, rfl⟩
    have X15 := X14.trans e15
    have b15 := b14.ex e15
    have p15 := p14.ex e15
    have w15 := e15 _ _ w14
    have r15 := e15 _ _ r14
    clear X14 b14 p14 w14 r14 e15
    refine q_forR1 (n := cnt) (ea_cons (by exact ev_var rfl) ea_nil) (by omega) (fun i σ' H' => Ex H H' ∧ Bx H' b ∧ Bx H' p ∧ H' w = some (.lst (ps.map V.int)) ∧ ∃ (L : List (Addr × Jm)) (v12 v15 : Option V), L.length ≤ i ∧ Rws H' r L ∧ (L.map (·.2)).Nodup ∧ (∀ q ∈ L, Fits ps.length ps q.2) ∧ σ' = [some (.ref a), some (.ref b), some (.bl gr), some (.int (k : Int)), some (.int (m : Int)), some (.int (lim : Int)), some (.int ((k * m : Nat) : Int)), some (.int ((B : Int) - 1)), some (.ref p), some (.ref w), some (.ref r), some (.int cnt), v12, none, none, v15, none, none, none, none])
      (fun H16 e16 => ⟨X15.trans e16, b15.ex e16, p15.ex e16, e16 _ _ w15, [], none, none, Nat.le_refl _, rws_nil (e16 _ _ r15), List.nodup_nil, (fun q hq => by cases hq), rfl⟩) ?_ ?_
    · clear X15 b15 p15 w15 r15
      rintro i σ' H15 hi ⟨X15, b15, p15, w15, L, v12, v15, hL, hR, hN, hF, rfl⟩
      try dsimp only [List.set]
      refine asg_is (call_fst ((ea_cons (by exact ev_var rfl) (ea_cons (by exact ev_var rfl) ea_nil)) H15 (Ex.refl H15) _ fun H16 e16 => ⟨p, w, ps, rfl, p15.ex e16, hwp, e16 _ _ w15, hok, fun t x H17 ht htj hft x17 p17 => ?_⟩))
      have X17 := exB_new hp (X15.trans e16) x17
      have b17 := x17.bx (Ne.symm hpb) (b15.ex e16)
      have w17 := x17 _ _ hwp (e16 _ _ w15)
      have R17 := (hR.ex e16).exB (p15.ex e16) hrp x17
      clear X15 b15 p15 w15 hR x17 e16 ht
      try dsimp only [List.set]
      refine s_when (b := !decide (x ∈ L.map (·.2))) (et_test (ev_op (by exact ev_var rfl) (by exact ev_var rfl) (rv_notinRws (q := (t, x)) htj R17))) (fun hc H18 e18 => ?_) (fun hc H18 e18 => ?_)
      · have hnot : x ∉ L.map (·.2) := by simpa using hc
        have R18 := R17.ex e18
        refine s_app R18.1 (by exact ev_var rfl) (by exact ev_var rfl) (by rw [List.length_map]; omega) fun H19 e19 => ?_
        have R19 := R18.ex e19
        have e189 := e18.trans e19
        refine ⟨(X17.trans e189).mut hr', (b17.ex e189).put2 hrb, (p17.ex e189).put2 hrp, ?_, L ++ [(t, x)], _, _, by rw [List.length_append]; simp; omega, ⟨by rw [upd_same, List.map_append]; rfl, fun q hq => ?_⟩, ?_, fun q hq => ?_, rfl⟩
        · rw [upd_ne (Ne.symm hrw)]
          exact e189 _ _ w17
        · rcases List.mem_append.mp hq with hq | hq
          · exact (R19.2 q hq).n (ExN.upd R19.1)
          · rw [List.mem_singleton.mp hq]
            exact htj.n ((ExN.of e189).trans (ExN.upd R19.1))
        · rw [List.map_append]
          exact nodup_snoc hN hnot
        · rcases List.mem_append.mp hq with hq | hq
          · exact hF q hq
          · rw [List.mem_singleton.mp hq]
            exact hft
      · exact ⟨X17.trans e18, b17.ex e18, p17.ex e18, e18 _ _ w17, L, _, _, by omega, R17.ex e18, hN, hF, rfl⟩
    clear X15 b15 p15 w15 r15
    rintro σ' H15 ⟨X15, b15, _, w15, L, v12, v15, hL, hR, hN, hF, rfl⟩
    have hL3 : L.length ≤ 3 := by omega
    have hG : OkG ps (L.map (·.2)) := ⟨by rw [List.length_map]; omega, hN, fun x hx => by
      obtain ⟨q2, hq2, rfl⟩ := List.mem_map.mp hx
      exact hF q2 hq2⟩
    have hvj := vj_Rws hR
    refine asg_is (call_fst ((ea_cons (by exact ev_var rfl) (ea_cons (by exact ev_var rfl) ea_nil)) H15 (Ex.refl H15) _ fun H16 e16 => ⟨w, r, ps, L, rfl, e16 _ _ w15, hR.ex e16, hok, hG, fun c H17 hc e17 hC => ?_⟩))
    have X17 := X15.trans (e16.trans e17)
    have b17 := b15.ex (e16.trans e17)
    have w17 := (e16.trans e17) _ _ w15
    have R17 := hR.ex (e16.trans e17)
    clear X15 b15 w15 hR e16 e17 hc c0 c3
    clear hF hN hps
    try dsimp only [List.set]
    obtain ⟨G, hGe⟩ : ∃ G, L.map (·.2) = G := ⟨_, rfl⟩
    rw [hGe] at hC hG hvj
    have hkd : ∀ x ∈ G, VJ x ∧ ∀ c ∈ x.1 ++ x.2.1, kd c < (k : Int) := fun x hx => ⟨hvj x hx, by
      have := (hG.2.2 x hx).1
      rwa [hpk] at this⟩
    have hGl : G.length = L.length := by rw [← hGe, List.length_map]
    -- the sides
    refine q_asgL (xs := []) (el_lst ea_nil (by simp)) fun s0 H18 _ e18 h18 => ?_
    try dsimp only [List.set]
    refine q_forLn (a := r) (xs := L.map fun q => V.ref q.1) (by exact ev_var rfl) (sq_of (R17.ex e18).1) (fun i σ' H' => Ex H17 H' ∧ ∃ (sp : Addr) (v15 : Option V), Wins H' sp ((G.take i).flatMap winsJ) ∧ σ' = [some (.ref a), some (.ref b), some (.bl gr), some (.int (k : Int)), some (.int (m : Int)), some (.int (lim : Int)), some (.int ((k * m : Nat) : Int)), some (.int ((B : Int) - 1)), some (.ref p), some (.ref w), some (.ref r), some (.int cnt), v12, some (.ref c), some (.ref sp), v15, none, none, none, none])
      (fun H19 e19 => ⟨e18.trans e19, s0, _, ⟨[], (e19 _ _ h18), trivial⟩, rfl⟩) (fun i σ' H' _ h => sq_of (R17.ex h.1).1) ?_ ?_
    · rintro i v σ' H19 hi ⟨e19, sp, v15, ⟨ts, hts, htp⟩, rfl⟩
      rw [List.getElem?_map] at hi
      cases hLi : L[i]? with
      | none => rw [hLi] at hi; cases hi
      | some q0 =>
      rw [hLi] at hi
      cases hi
      have hmem := List.mem_of_getElem? hLi
      have hGi : G[i]? = some q0.2 := by rw [← hGe, List.getElem?_map, hLi]; rfl
      have hTJ := (R17.ex e19).2 q0 hmem
      have hlen := (tps_at htp).1
      have hfl := flat_le (G.take i)
      have htl : (G.take i).length ≤ G.length := by rw [List.length_take]; omega
      try dsimp only [List.set]
      refine Lc.asg_fst (Lc.op_fst ⟨_, rfl, call_fst ((ea_cons (by exact ev_var rfl) ea_nil) H19 (Ex.refl H19) _ fun H20 e20 => ⟨q0.1, q0.2, rfl, (hTJ.n (ExN.of e20)), fun p2 H21 hp2 e21 hW => ?_⟩)⟩)
      obtain ⟨us, hus, hup⟩ := hW
      have hul := (tps_at hup).1
      have hwl := wins_le q0.2
      have hts21 := (e20.trans e21) _ _ hts
      refine ⟨sp, p2, ts.map V.ref, us.map V.ref, rfl, rfl, hts21, hus, sz_of (by rw [List.length_map, List.length_map]; omega), fun l hl => ?_⟩
      refine ⟨e19.trans ((e20.trans e21).trans (Ex.new hl)), l, _, ⟨ts ++ us, by rw [upd_same, List.map_append], ?_⟩, rfl⟩
      have hsplit : (G.take (i + 1)).flatMap winsJ = (G.take i).flatMap winsJ ++ winsJ q0.2 := by
        rw [List.take_succ, hGi, List.flatMap_append]
        show _ ++ List.flatMap winsJ [q0.2] = _
        rw [List.flatMap_cons, List.flatMap_nil, List.append_nil]
      rw [hsplit]
      exact tps_cat (tps_keep (fun x o hx => ((e20.trans e21).trans (Ex.new hl)) _ _ hx) htp) (tps_keep (fun x o hx => (Ex.new hl) _ _ hx) hup)
    rintro σ' H19 ⟨e19, sp, v15', hW, rfl⟩
    rw [List.length_map, ← hGl, List.take_length] at hW
    have hfl := flat_le G
    obtain ⟨fk, fe⟩ := flat_kn bd.k4 hkd
    obtain ⟨pk, pe⟩ := pairs_kn bd.k4 hkd
    clear e18 h18
    -- the rows
    refine asg_is (call_fst ((ea_cons (by exact ev_var rfl) (ea_cons (by exact ev_var rfl) (ea_cons (by exact ev_var rfl) ea_nil))) H19 (Ex.refl H19) _ fun H20 e20 => ⟨sp, m, k, G.flatMap winsJ, rfl, hW.ex e20, by omega, fk, fe, bd.m1, bd.m12, bd.k4, fun ra rs RW H21 hra0 e21 hra hRr hRo0 hRl => ?_⟩))
    have hRo : RowsOf k m (pairsV G) RW := rows_pairs hRo0
    have e171 := e19.trans (e20.trans e21)
    clear e19 e20 e21 hra0 hRo0 hW fk fe hfl
    try dsimp only [List.set]
    -- the tables that are due
    have hs48 := bd.s48
    have hB2 := bd.b2
    refine asg_is (call_fst ((ea_cons (by exact ev_var rfl) (ea_cons (by exact ev_var rfl) (ea_cons (by exact ev_var rfl) ea_nil))) H21 (Ex.refl H21) _ fun H22 e22 => ⟨ra, B, k * m, rs, RW, rfl, e22 _ _ hra, hRr.ex e22, rows_len hRo, hRl, bd.b1, hB2, by omega, bd.le, fun da ds H23 hda0 e23 hda hDd => ?_⟩))
    have hra := (e22.trans e23) _ _ hra
    have hRr := hRr.ex (e22.trans e23)
    have e173 := e171.trans (e22.trans e23)
    have hC := hC.ex e173
    have X23 := X17.trans e173
    have b23 := b17.ex e173
    have w23 := e173 _ _ w17
    have R23 := R17.ex e173
    clear e171 e22 e23 hda0 X17 b17 w17 R17 e173
    try dsimp only [List.set]
    have hdue : dueL B (k * m) RW (B ^ (k * m)) = fallL B (k * m) m (pairsV G) (B ^ (k * m)) := due_fall bd.m1 pk pe hRo _
    have hB100 : B ≤ 2 ^ 100 := Nat.le_trans hB2 (by decide)
    have hp1 : 1 ≤ ps.length := by have := bd.k1; omega
    have hp4 : ps.length ≤ 4 := by have := bd.k4; omega
    have pkp : PvK ps.length (pairsV G) := by rw [hpk]; exact pk
    refine q_when (b := !true) (et_not (et_B fun H24 e24 Q24 q24 => ?_)) (fun hc => by cases hc) fun _ H24 e24 => ?_
    · refine call_fst (Lc.cons_fst (call_fst ((ea_cons (by exact ev_var rfl) (ea_cons (by exact ev_var rfl) (ea_cons (by exact ev_var rfl) ea_nil))) H24 (Ex.refl H24) _ fun H25 e25 => ⟨c, (m : Int), B, ps, G, rfl, hC.ex (e24.trans e25), hp1, hp4, pkp, bd.b1, hB100, fun hn => absurd (by have := bd.m1; have := bd.m12; omega) hn, fun _ hbig => absurd (show 20000 < B ^ (k * m) by rw [← hpk]; exact hbig) (by have := bd.le; omega), fun _ _ fa W H26 hfa e26 h26 hWm hWt => ?_⟩)))
      rw [hpk, Int.toNat_natCast] at hWm
      rw [hpk] at hWt
      have hmemW : ∀ q ∈ W, q.2 ∈ fallL B (k * m) m (pairsV G) (B ^ (k * m)) := fun q hq => by rw [← hWm]; exact List.mem_map.mpr ⟨q, hq, rfl⟩
      have hWl : W.length ≤ 20000 := by
        have h1 := congrArg List.length hWm
        rw [List.length_map] at h1
        have h2 := fall_len (B := B) (s := k * m) (m := m) (PV := pairsV G) (n := B ^ (k * m))
        have := bd.le
        omega
      refine (ea_cons (by exact ev_var rfl) (ea_cons (by exact ev_var rfl) (ea_cons (by exact ev_var rfl) (ea_cons (by exact ev_var rfl) ea_nil)))) H26 (Ex.refl H26) _ fun H27 e27 => ?_
      have e237 := ((e24.trans e25).trans e26).trans e27
      exact ⟨fa, da, c, m, k, W, ds, ps, G, rfl, e27 _ _ h26, fun q hq => (hWt q hq).ex e27, e237 _ _ hda, by rw [hWm, ← hdue]; exact hDd.ex e237, fun q hq => (fall_in bd.b1 hB2 (hmemW q hq)).1, hWl, bd.m12, bd.k4, hC.ex e237, hpk, pk, fun q hq => (fall_in bd.b1 hB2 (hmemW q hq)).2, fun H28 e28 => q24 H28 (((e25.trans e26).trans e27).trans e28)⟩
    have X24 := X23.trans e24
    have b24 := b23.ex e24
    have w24 := e24 _ _ w23
    have R24 := R23.ex e24
    have C24 := hC.ex e24
    have ra24 := e24 _ _ hra
    have Rr24 := hRr.ex e24
    have da24 := e24 _ _ hda
    have Dd24 := hDd.ex e24
    clear X23 b23 w23 R23 hC hra hRr hda hDd e24
    -- the tables drawn
    have hl := rc_lenL (K := K) (ex_l X24 hs)
    rw [List.length_map] at hl
    refine q_forR2 (lo := 3) (n := (if (if (ns.length : Int) < 63 then (ns.length : Int) else 63) > 4 then (if (ns.length : Int) < 63 then (ns.length : Int) else 63) else 4)) (ea_cons ev_c (ea_cons (ev_cb (ea_cons ev_c (ea_cons (ev_cb (ea_cons ev_c (ea_cons (ev_cb (ea_cons (by exact ev_var rfl) ea_nil) hl) ea_nil)) rc_min2) ea_nil)) rc_max2) ea_nil)) ⟨by decide, by decide, by split <;> split <;> omega, by split <;> split <;> omega⟩ (fun i σ' H' => Ex H24 H' ∧ ∃ v12, σ' = [some (.ref a), some (.ref b), some (.bl gr), some (.int (k : Int)), some (.int (m : Int)), some (.int (lim : Int)), some (.int ((k * m : Nat) : Int)), some (.int ((B : Int) - 1)), some (.ref p), some (.ref w), some (.ref r), some (.int cnt), v12, some (.ref c), some (.ref sp), v15', some (.ref ra), some (.ref da), none, none])
      (fun H25 e25 => ⟨e25, _, rfl⟩) ?_ ?_
    · rintro i σ' H25 hi ⟨e25, v12, rfl⟩
      have hi63 : (3 : Int) + (i : Int) < 1000 := by
        split at hi <;> split at hi <;> omega
      try dsimp only [List.set]
      refine s_when (b := !true) (et_not (et_B fun H26 e26 Q26 q26 => ?_)) (fun hc => by cases hc) fun _ H26 e26 => ⟨e25.trans e26, _, rfl⟩
      have e246 := e25.trans e26
      refine call_fst (Lc.cons_fst (call_fst ((ea_cons (by exact ev_var rfl) (ea_cons (by exact ev_var rfl) ea_nil)) H26 (Ex.refl H26) _ fun H27 e27 => ⟨a, ns, 3 + (i : Int), rfl, ex_l (X24.trans (e246.trans e27)) hs, by omega, hi63, fun bk H28 hbk e28 k28 => ?_⟩)))
      have e248 := e246.trans (e27.trans e28)
      have hne : ∀ {x : Addr} {o : HO}, H24 x = some o → x ≠ bk := fun hx z => by
        rw [z] at hx
        have := (e246.trans e27) _ _ hx
        rw [hbk] at this
        cases this
      refine (ea_cons (by exact ev_var rfl) (ea_cons (by exact ev_var rfl) (ea_cons (by exact ev_var rfl) (ea_cons (by exact ev_var rfl) (ea_cons (by exact ev_var rfl) ea_nil))))) H28 (Ex.refl H28) _ fun H29 e29 => ?_
      have e249 := e248.trans e29
      refine ⟨bk, c, ra, da, m, k, B, ps, G, rs, ds, RW, rfl, k28.ex e29, C24.ex e249, hpk, bd.k1, bd.k4, pk, pe, bd.m1, bd.m12, bd.b1, hB2, e249 _ _ ra24, Rr24.ex e249, hRl, hRo, e249 _ _ da24, Dd24.ex e249, hne ra24, hne da24, fun x hx => ?_, fun x hx => ?_, fun H30 x30 _ => q26 H30 ?_⟩
      · obtain ⟨n, hn, rfl⟩ := mem_getD hx
        exact hne (Rr24.row n (by rw [← Rr24.len]; exact hn))
      · obtain ⟨n, hn, rfl⟩ := mem_getD hx
        exact hne (Dd24.row n (by rw [← Dd24.len]; exact hn))
      · have hbk26 : H26 bk = none := fresh_back e27 hbk
        exact exB_new hbk26 (e27.trans (e28.trans e29)) x30
    rintro σ' H25 ⟨e25, v12', rfl⟩
    have X25 := X24.trans e25
    have b25 := b24.ex e25
    have w25 := e25 _ _ w24
    have R25 := R24.ex e25
    have C25 := C24.ex e25
    clear X24 b24 w24 R24 C24 ra24 Rr24 da24 Dd24 e25 hl
    -- what is refused
    refine asgI (b := b) (Pd := fun d => ¬ (1 ≤ d ∧ d ≤ 12)) (ei_ixA (n := 4) (ai_cC (by decide) (ai_cC (by decide) (ai_cons (ei_op (ei_is fun H => ev_un (x := .int 1) ev_c ru_neg) (ei_take (many := 100) rfl (fun H => ev_c) (by decide) (by decide)) fun x y hx hy => by subst hx; omega) (ai_cons (ei_op ei_c (ei_take (many := 1000000) rfl (fun H => ev_pow10 (by decide) (by decide) (by decide)) (by decide) (by decide)) fun x y hx hy => by subst hx; omega) ai_nil)))) (by decide) (ei_imp (ei_take (many := 4) rfl (fun H => ev_c) (by decide) (by decide)) fun d hd => ⟨hd.1, by omega⟩)) b25 fun far H26 hfar x26 b26 => ?_
    have w26 := x26 _ _ hwb w25
    have R26 := R25.exB b25 hrb x26
    have C26 := C25.n (ExN.b x26 b25)
    clear X25 b25 w25 R25 C25 x26
    try dsimp only [List.set]
    refine asgI (b := b) (Pd := fun d => ∃ Z : Nat, d = (Z : Int) - 1 ∧ 0 < Z ∧ Z ≤ 2 ^ 100 ∧ 20000 < Z ^ (k * m)) (ei_op (Pa := fun d => ∃ g : Nat, d = ((g : Int) + 1) ∧ g ≤ 20000 ∧ 20000 < tot (g + 2) (k * m)) (Pb := fun d => 0 ≤ d ∧ d ≤ 10 ^ 28) (ei_op (Pa := fun d => ∃ g : Nat, d = (g : Int) ∧ g ≤ 20000 ∧ 20000 < tot (g + 2) (k * m)) (fun H1 hb1 Q1 q1 => call_fst ((ea_cons ev_c (ea_cons (by exact ev_var rfl) ea_nil)) H1 (Ex.refl H1) _ fun H2 e2 => ⟨20000, k * m, rfl, by decide, by decide, bd.s0, by omega, fun g H3 e3 t1 t2 hg => q1 _ H3 ⟨g, rfl, hg, t2⟩ (ExB.of (e2.trans e3)) (hb1.ex (e2.trans e3))⟩)) ei_c fun x y hx hy => by
        obtain ⟨g, rfl, h1, h2⟩ := hx
        subst hy
        exact ⟨g, rfl, h1, h2⟩) (ei_ixA (n := 4) (ai_cC (by decide) (ai_cC (by decide) (ai_cons (ei_imp (ei_take (many := 50) rfl (fun H => ev_c) (by decide) (by decide)) fun d hd => by omega) (ai_cons (ei_imp (ei_is (n := 10 ^ 28) fun H => ev_pow10 (by decide) (by decide) (by decide)) fun d hd => by subst hd; decide) ai_nil)))) (by decide) (ei_imp (ei_take (many := 4) rfl (fun H => ev_c) (by decide) (by decide)) fun d hd => ⟨hd.1, by omega⟩)) fun x y hx hy => by
        obtain ⟨g, rfl, h1, h2⟩ := hx
        obtain ⟨y, rfl⟩ : ∃ n : Nat, y = (n : Int) := ⟨y.toNat, by omega⟩
        refine ⟨g + 2 + y, by omega, by omega, ?_, Nat.lt_of_lt_of_le (tot_big h2) (Nat.pow_le_pow_left (by omega) _)⟩
        have h3 : y ≤ 10 ^ 28 := by omega
        exact Nat.le_trans (Nat.add_le_add (Nat.add_le_add_right h1 2) h3) (by decide)) b26 fun bz H27 hbz x27 b27 => ?_
    obtain ⟨Z, rfl, z0, z1, z2⟩ := hbz
    have w27 := x27 _ _ hwb w26
    have R27 := R26.exB b26 hrb x27
    have C27 := C26.n (ExN.b x27 b26)
    clear b26 w26 R26 C26 x27
    try dsimp only [List.set]
    have hbg : 20000 < Z ^ (ps.length * m) := by rw [hpk]; exact z2
    refine q_post (M := fun σ' H' => ExB b H27 H' ∧ σ' = [some (.ref a), some (.ref b), some (.bl gr), some (.int (k : Int)), some (.int (m : Int)), some (.int (lim : Int)), some (.int ((k * m : Nat) : Int)), some (.int ((B : Int) - 1)), some (.ref p), some (.ref w), some (.ref r), some (.int cnt), v12', some (.ref c), some (.ref sp), v15', some (.ref ra), some (.ref da), some (.int far), some (.int ((Z : Int) - 1))]) (fun D' _ hD => ?_) ?_
    · refine s_andN (b := b) (ti_eq (ei_take (many := 4) rfl (fun H => ev_c) (by decide) (by decide))) b27 (fun H28 x28 b28 => ?_) fun H28 x28 b28 => hD _ _ ⟨x28, rfl⟩
      have C28 := C27.n (ExN.b x28 b27)
      exact et_not (a := true) (et_B (ev_call (ea_cons (by exact ev_var rfl) (ea_cons (by exact ev_var rfl) (ea_cons (by exact ev_var rfl) ea_nil))) fun H29 e29 Q29 q29 E29 => ⟨c, m, Z, ps, G, rfl, C28.ex e29, hp1, hp4, pkp, z0, z1, bd.m1, bd.m12, hbg, q29⟩))
    rintro σ' H28 ⟨x28, rfl⟩
    have w28 := x28 _ _ hwb w27
    have R28 := R27.exB b27 hrb x28
    have C28 := C27.n (ExN.b x28 b27)
    clear b27 w27 R27 C27 x28
    refine q_when (b := (!true || !true)) (et_or (et_not (et_B (ev_call (ea_cons (by exact ev_var rfl) (ea_cons (by exact ev_var rfl) (ea_cons (by exact ev_var rfl) ea_nil))) fun H29 e29 Q29 q29 E29 => ⟨c, far, B, ps, G, rfl, C28.ex e29, hp1, hp4, pkp, bd.b1, hB100, hfar, q29⟩))) fun _ => et_not (et_B (ev_call (ea_cons (by exact ev_var rfl) (ea_cons (by exact ev_var rfl) (ea_cons (by exact ev_var rfl) ea_nil))) fun H29 e29 Q29 q29 E29 => ⟨c, far, Z, ps, G, rfl, C28.ex e29, hp1, hp4, pkp, z0, z1, hfar, q29⟩))) (fun hc => by cases hc) fun _ H29 e29 => ?_
    refine Lc.ret_fst (Lc.op_fst ⟨_, rfl, call_fst ((ea_cons (by exact ev_var rfl) (ea_cons (by exact ev_var rfl) ea_nil)) H29 (Ex.refl H29) _ fun H30 e30 => ⟨w, r, ps, L, rfl, (e29.trans e30) _ _ w28, R28.ex (e29.trans e30), hok, by rw [hGe]; exact hG, fun c2 H31 _ e31 hC2 => ?_⟩)⟩)
    rw [hGe] at hC2
    exact rv_eqC (C28.ex ((e29.trans e30).trans e31)) hC2 H31 (Ex.refl H31) _ fun H32 _ => q H32

end
end K57
namespace Lc
open PySem PySem.Spec PyProof.Rows L2
/-! ### the facts of a head, over a written list of addresses -/
def obsL (as : List Addr) (fa : List He.Fa) (fn : List He5.DefA) (ts : List He.Tab) (ex : PySem.W.Frag → Bool) (g : Addr → Option Obj) : AlE := obsE fa fn ts ex (He.frG g as)
def hookL (as : List Addr) (fa : List He.Fa) (fn : List He5.DefA) (ts : List He.Tab) (ex : PySem.W.Frag → Bool) : PySem.W.Hook where
  α := AlE
  obs := fun s => obsL as fa fn ts ex s.heap.get?
  val := fun w => (He5.valA fn, ts.map (fun t : He.Tab => some (He.keysIn w.params t.2)), true)
  says := fun w h => ∃ K : PySem.W.Frag, K.In h ∧ SaysM fa fn ts ex w K
  of := fun _ _ e => ⟨_, He.frG_in, congrArg (fun z : AlE => z.1) e, congrArg (fun z : AlE => z.2.1) e, congrArg (fun z : AlE => z.2.2) e⟩
  keeps := fun _ _ _ ⟨K, hK, c⟩ k => ⟨K, PySem.W.Frag.In.keeps hK k, c⟩
theorem obsL_eq {as : List Addr} {fa : List He.Fa} {fn : List He5.DefA} {ts : List He.Tab} {ex : PySem.W.Frag → Bool} {g : Addr → Option Obj} {s : Shared} (h : ∀ a, g a = s.heap.get? a) : obsL as fa fn ts ex g = (hookL as fa fn ts ex).obs s := by
  have e : g = s.heap.get? := funext h
  rw [e] <;> rfl
end Lc
namespace K57
open PySem PySem.Spec PyProof.Rows L2 Lc
def adr0 : List Addr := [3, 6, 4, 21, 31, 51, 70, 89, 108, 127, 137, 145, 152, 159, 166, 173, 178, 185, 190, 195, 200, 205, 274, 283, 288, 293, 298, 299, 300, 305, 361, 370, 375, 380, 387, 392, 399, 503, 514, 521]
def adr1 : List Addr := [528, 535, 542, 547, 554, 561, 566, 573, 580, 587, 594, 599, 606, 613, 618, 625, 632, 637, 0, 20, 30, 50, 69, 88, 107, 126, 136, 130, 144, 138, 151, 158, 165, 172, 177, 184, 189, 194, 199, 204]
def adr2 : List Addr := [273, 282, 287, 292, 297, 304, 360, 369, 374, 379, 386, 391, 398, 502, 513, 520, 527, 534, 541, 546, 553, 560, 565, 572, 579, 586, 593, 598, 605, 612, 617, 624, 631, 636, 15, 16, 17, 18, 19, 29]
def adr3 : List Addr := [32, 48, 49, 67, 68, 86, 87, 105, 106, 124, 125, 131, 132, 133, 134, 135, 139, 140, 141, 142, 143, 146, 147, 148, 149, 150, 153, 154, 155, 156, 157, 160, 161, 162, 163, 164, 167, 168, 169, 170]
def adr4 : List Addr := [171, 174, 175, 176, 179, 180, 181, 182, 183, 186, 187, 188, 191, 192, 193, 196, 197, 198, 201, 202, 203, 217, 224, 231, 236, 243, 250, 257, 264, 271, 272, 275, 276, 279, 280, 281, 284, 285, 286, 289]
def adr5 : List Addr := [290, 291, 294, 295, 296, 301, 302, 303, 320, 327, 334, 341, 348, 357, 359, 362, 363, 366, 367, 368, 371, 372, 373, 376, 377, 378, 381, 382, 383, 384, 385, 388, 389, 390, 393, 394, 395, 396, 397, 411]
def adr6 : List Addr := [419, 426, 433, 440, 447, 452, 459, 466, 473, 478, 487, 499, 501, 504, 505, 508, 509, 510, 511, 512, 515, 516, 517, 518, 519, 522, 523, 524, 525, 526, 529, 530, 531, 532, 533, 536, 537, 538, 539, 540]
def adr7 : List Addr := [543, 544, 545, 548, 549, 550, 551, 552, 555, 556, 557, 558, 559, 562, 563, 564, 567, 568, 569, 570, 571, 574, 575, 576, 577, 578, 581, 582, 583, 584, 585, 588, 589, 590, 591, 592, 595, 596, 597, 600]
def adr8 : List Addr := [601, 602, 603, 604, 607, 608, 609, 610, 611, 614, 615, 616, 619, 620, 621, 622, 623, 626, 627, 628, 629, 630, 633, 634, 635, 47, 66, 85, 104, 123, 216, 223, 230, 235, 242, 249, 256, 263, 270, 319]
def adr9 : List Addr := [313, 326, 333, 340, 347, 355, 356, 410, 418, 412, 425, 432, 439, 446, 451, 458, 465, 472, 477, 485, 486, 497, 498, 42, 43, 44, 45, 46, 61, 62, 63, 64, 65, 80, 81, 82, 83, 84, 99, 100]
def adr10 : List Addr := [101, 102, 103, 118, 119, 120, 121, 122, 213, 214, 215, 218, 219, 220, 221, 222, 225, 226, 227, 228, 229, 232, 233, 234, 237, 238, 239, 240, 241, 244, 245, 246, 247, 248, 251, 252, 253, 254, 255, 258]
def adr11 : List Addr := [259, 260, 261, 262, 265, 266, 267, 268, 269, 314, 315, 316, 317, 318, 321, 322, 323, 324, 325, 328, 329, 330, 331, 332, 335, 336, 337, 338, 339, 342, 343, 344, 345, 346, 354, 358, 407, 408, 409, 413]
def adr12 : List Addr := [414, 415, 416, 417, 420, 421, 422, 423, 424, 427, 428, 429, 430, 431, 434, 435, 436, 437, 438, 441, 442, 443, 444, 445, 448, 449, 450, 453, 454, 455, 456, 457, 460, 461, 462, 463, 464, 467, 468, 469]
def adr13 : List Addr := [470, 471, 474, 475, 476, 484, 488, 496, 490, 500, 2]
def adr : List Addr := adr0 ++ (adr1 ++ (adr2 ++ (adr3 ++ (adr4 ++ (adr5 ++ (adr6 ++ (adr7 ++ (adr8 ++ (adr9 ++ (adr10 ++ (adr11 ++ (adr12 ++ (adr13)))))))))))))
abbrev hk : PySem.W.Hook := hookL adr fa fn ts ex
def ob (s : PySem.W.SharedT) : AlE := obsL adr fa fn ts ex (HandSHeadRun.getT s)
theorem ob_eq (s : PySem.W.SharedT) : ob s = hk.obs s.abs := obsL_eq (HandSHeadRun.getT_eq s)
theorem run0 (w : World) : HandSHeadRun.RunEq R (PySem.W.view R.prog [68]) hk ob 24000 names (w.withFollow "special-get-raises" false) := by
  intro os
  kernel_rfl
theorem run1 (w : World) : HandSHeadRun.RunEq R (PySem.W.view R.prog [68]) hk ob 24000 names (w.withFollow "special-get-raises" true) := by
  intro os
  kernel_rfl
theorem run (w : World) : HandSHeadRun.RunEq R (PySem.W.view R.prog [68]) hk ob 24000 names w := PySem.W.byRow2 "special-get-raises" (P := fun w => HandSHeadRun.RunEq R (PySem.W.view R.prog [68]) hk ob 24000 names w) run0 run1 w
end K57
namespace K57
open PySem PySem.Spec PyProof.Rows L2 Lc Evl
theorem walkX {l : PySem.W.OpenLaw} {m lev : Nat} {qp : Program} {los : List Str} {Xq : (Str → Option Value) → Heap → Prop} {Yq : World → Heap → Prop} {dr : DefRec} {z : Str}
    (h1 : l.most = some m) (h2 : m ≤ sizeLine) (h3 : dr.params.defaults = []) (h4 : Room lev callerA)
    (F : ∀ (w : World) (mg : Str → Option Value) (g : Addr) (hp : Heap), Yq w hp → hp.Ns mainGlobals mg → mg dr.name = some (.ref g) → ∃ (K : PySem.W.Frag) (fd : FuncData) (sp : Sp), K.In hp ∧
        (∀ (t : Shared) (v : Value), BindsTo t fd ⟨[v], []⟩ [(z, v)]) ∧ (∀ (H : Hp) (c : Addr) (is : List Int), SqL K H c (is.map V.int) → sp [.ref c] H (fun r _ => r = .bl true) fun _ _ _ => False) ∧
        ∀ b : Heap, K.In b → b.Ns mainGlobals mg → FnOk l.prog w K mg b (L2N.CX l.prog w) lev g fd [z] sp) : PySem.W.WalkO qp los Xq Yq l.row.toRowW dr [] (fun f vs => PySem.call f vs) := by
  refine Att.attach_call h1 h3 fun w _ _ mg _ g _ _ _ _ _ _ is G Y _ _ _ k1 ho hi hl hg => ?_
  obtain ⟨K, fd, sp, KX, hb, hsp, hF⟩ := F w mg g _ Y G.T.g k1
  refine law_call KX G.T.g G.T.b G.T.builtins G.T.nolimit hg ho hi (Nat.le_trans hl h2) h4 hF hb (fun H _ hS => hsp H _ is hS) ?_
  intro H e s' h
  obtain ⟨_, _, _, _, _, _, _, _, _, _, _, _, no⟩ := h
  exact no
theorem facts {P : Program} {w : World} {K : PySem.W.Frag} {h : Heap} {mg : Str → Option Value} {f : Addr} (X : K.In h) (G : h.Ns mainGlobals mg) (hfa : mg ("law" : Str) = some (.ref f)) (c : SaysM fa fn ts ex w K) :
    ∃ fd : FuncData, (∀ (s : Shared) (v : Value), BindsTo s fd ⟨[v], []⟩ [("script", v)]) ∧ ∀ base : Heap, K.In base → base.Ns mainGlobals mg → FnOk P w K mg base (L2N.CX P w) 10 f fd ["script"] (sp_law K) := by
  have T : Tx K mg w := ⟨⟨h, X, G⟩, c⟩
  have e := hfa.symm.trans (m_law T)
  cases e
  have b := FunD.bindsA (ps := ["script"]) (h_law T) fun _ _ _ _ _ _ us hl => match us, hl with | [_], _ => rfl
  exact ⟨_, fun s v => b s [v] rfl, fun base _ _ => ok_law T⟩
end K57
open PySem PySem.W PySem.Calls PyProof.Rows
theorem PySem.Challenge.cw_leapcard_k57_all_falling_weights_holds : PySem.Challenge.rw_leapcard_k57_all_falling_weights.Holds := by
  w_on; o_law
  refine HandSHeadRun.head_any (r := OpenLaw.row PySem.Challenge.rw_leapcard_k57_all_falling_weights) (q := view (OpenLaw.row PySem.Challenge.rw_leapcard_k57_all_falling_weights).prog [68]) (H := K57.hk) (ob := K57.ob) (M := 24000) (loose := K57.names) (d := HandSHeadRun.topDef (OpenLaw.row PySem.Challenge.rw_leapcard_k57_all_falling_weights).prog 68) (kwd := []) K57.ob_eq
    (by kernel_rfl) (fun s => by kernel_rfl) K57.run (by kernel_rfl) (by kernel_rfl) (by kernel_rfl) (by rfl) (by first | assumption | decide +kernel) (by decide +kernel) ⟨rfl, rfl, rfl, rfl, rfl, by decide +kernel⟩ ?hw ?hc
  case hw => w_witness2
  case hc =>
    refine K57.walkX (l := PySem.Challenge.rw_leapcard_k57_all_falling_weights) (m := 63) (lev := 10) (z := "script") rfl (by decide) (by kernel_rfl) ⟨rfl, by decide, by decide⟩ ?F
    intro w mg fa h Y G hmg0
    obtain ⟨K, KX, c⟩ := Y
    have hmg : mg ("law" : PySem.Str) = some (.ref fa) := by
      have e : (HandSHeadRun.topDef (OpenLaw.row PySem.Challenge.rw_leapcard_k57_all_falling_weights).prog 68).name = ("law" : PySem.Str) := by kernel_rfl
      rw [← e]
      exact hmg0
    obtain ⟨fd, hb, hF⟩ := K57.facts (P := (PySem.Challenge.rw_leapcard_k57_all_falling_weights).prog) (w := w) KX G hmg c
    exact ⟨K, fd, K57.sp_law K, KX, hb, fun H a ns hS => ⟨a, ns, rfl, hS, fun _ => rfl⟩, hF⟩
