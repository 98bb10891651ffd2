import PyProof.Rows.All
import Wide.All
import OpenK.AllK
import Wide.FinOn
import HandS.AnyAll
import HandS.ForMost
import HandS.IsInst
import HandS.Conv
import HandS.Exc
import HandS.TryOnly
import HandS.WordsExc
import HandS.ExcInit
import HandS.Wide
import HandS.TupAny
import HandS.TupMul
import HandS.Rev
import HandS.Style
import HandS.EndTab
import HandS.Lambda
import HandS.Nested
import HandS.ForExc
import HandS.ExcOwn
import KE.KDictKeyed
import KE.KeyNested
import PyProof.IsiBase
import PyProof.FactsAll.object
import KE.KIsAll
import HandS.Iter
import HandS.Walk
import KE.GoesEnum
import HandS.Zip
import HandS.NoneIn
import HandS.Deep
import PyProof.ListNew
import HandS.RevTup
import KE.KDictZip
import HandS.Strs
import PyProof.Rows.ReprR
import PyProof.ReprLen
import HandS.ExcField
import HandS.ExcIs
import HandS.TryMany
import KE.KExcIs
import PyProof.P3Eq
import PyProof.AutoSeq1
import PyProof.ListOps
import HandS.WideBits
import HandS.Text
import HandS.Call
import HandS.Replace
import PySem.Challenge.RW_stillopen_k30_endings_and_what_is_none
set_option Elab.async false
set_option linter.all false
set_option maxRecDepth 100000
set_option maxHeartbeats 4000000
namespace SoGx
open PySem PySem.Spec PyProof.Rows L2 GxR
/-- an element that may ask the module's names too -/
def EltG (prog : Program) (w : World) (mg : Str → Option Value) (scope : Scope) (x : Str) (elt : Expr) (pb : Nat → Bool) : Prop :=
  ∀ (cenv : Env) (A' : Around) (E' : Value → Shared → Prop) (c : Nat) (t : Tok) (z : Shared) (m : Str → Option Value),
    cenv.scope = scope → cenv.globals = mainGlobals → z.heap.Ns mainGlobals mg → z.heap.Ns cenv.locals m → m x = some (.str ⟨#[c]⟩ t) →
      wpAny (model prog w) A' (eval elt cenv) (fun y z' => y = .bool (pb c) ∧ Keeps z z') E' z
/-- x in NAME, NAME a text of the module -/
theorem elt_in {prog : Program} {w : World} {mg : Str → Option Value} {scope : Scope} {x g : Str} {l : Str} {tl : Tok} {p1 p2 p3 : Pos}
    (hk : scope.kind = .function) (hl : scope.names.lookup x = some .local) (hgl : scope.names.lookup g = some .globalImplicit) (hm : mg g = some (.str l tl))
    (hd : (x == ("__debug__" : Str)) = false := by decide) (hd2 : (g == ("__debug__" : Str)) = false := by decide) :
    EltG prog w mg scope x (.Compare (.Name x p1) [.In] [.Name g p2] p3) (fun c => decide (c ∈ l.cps.toList)) := by
  intro cenv A' E' c t z m hs hgs hG hn hx
  refine wpAny_Compare1 ?_
  refine wpAny_Name (wpAny_loadName_local (by rw [hs]; exact hk) (show cenv.scope.names.lookup x = some .local by rw [hs]; exact hl) hn hx ?_) hd
  refine Calls.Name_function_global (by rw [hs]; exact hk) (show cenv.scope.names.lookup g = some .globalImplicit by rw [hs]; exact hgl)
    (Calls.loadGlobal_global (by rw [hgs]; exact hG) hm ?_) hd2
  refine PyProof.Rows.in_str ⟨?_, keeps_refl _⟩
  rw [PySem.StrLaws.found_one l c]
section
variable {X : Cx} {pins : List (Addr × Obj)} {σ : L2.St} {H : Hp} {s : Shared}
theorem gen_glob {c P : Addr} {elt iter : Expr} {x : Str} {px gpos : Pos} {scope : Scope} {pb : Nat → Bool} {te : TE} {k : Nat}
    {W' : Value → Shared → Prop} {R : Str → Hp → Prop} (hr : Room k X.A) (TB : TabB X.base X.mg c P) (hcode : X.env.code = .ref c)
    (S : GenS X.env scope x) (hi : PE X iter te) (hel : EltG X.prog X.w X.mg scope x elt pb) (hs : ∀ v, genFold iter X.env v = pure v)
    (I : Inv X pins σ H s) (h : te σ H fun v H1 => ∃ a : Str, v = .str a ∧ TabG H1 P ∧ R a H1)
    (hQ : ∀ a H1 g z, R a H1 → Ready X pins σ H1 P a pb g z → W' (.ref g) z) :
    wpAny (model X.prog X.w) X.A (eval (.GeneratorExp elt [⟨.Name x px, iter, [], 0⟩] scope gpos) X.env) W' X.xe s := by
  have deep : X.A.depth < recursionLimit := by
    have := hr.dp
    omega
  refine wpAny_GeneratorExp_walksQ hr.hd S.co (closure_ok S.free) S.cell S.dot S.loc S.kind deep ?_ hs
  refine thn (hi.run pins s σ H _ I h) fun u z hz => ?_
  obtain ⟨v, J, I1, rv, a, rfl, ⟨ps, hP, ht⟩, hR⟩ := hz
  obtain ⟨t, rfl⟩ := _root_.id rv
  refine wpAny_pyIter_str fun o St W hst => ?_
  have atP : z.heap.get? P = some { cls := .none, data := .fields ps } := I1.hok P _ hP
  have ltP : P < z.heap.objs.size := Heap.lt_size atP
  have atP' : (z.heap.push o).get? P = some { cls := .none, data := .fields ps } := Heap.get?_push_of_some _ atP
  have cd : PySem.W.CodeHd (z.heap.push o) c P := TB.code.keeps fun b u e => Heap.get?_push_of_some _ (I1.bk b u e)
  have noL : (z.heap.push o).NoLimit := I1.nolimit.push o
  have szo : (z.heap.push o).objs.size = z.heap.objs.size + 1 := Heap.size_push ..
  refine ⟨noL, ?_⟩
  -- what comes behind the code object, however it was found
  have cont : ∀ (code : Value) (h3 : Heap) (tk : Nat) (qs : Array Value), Heap.ExtBut P (z.heap.push o) h3 → (z.heap.push o).objs.size ≤ h3.objs.size →
      h3.get? P = some { cls := .none, data := .fields qs } → (∃ more, qs = ps ++ more) → TriplesOk qs.toList →
      wpAny (model X.prog X.w) X.A (builtinsFor X.env.globals X.env.builtins) (fun bi r =>
        ∃ Ia fp wr n₀ Pf St₀ pz F, Value.ref z.heap.objs.size = .ref Ia ∧ (∀ A' : Around, A'.handled = none → Walks X.prog X.w A' Ia fp wr n₀ Pf St₀) ∧
          St₀ 0 r.heap ∧ (∀ b ∈ fp, b < r.heap.objs.size) ∧ r.heap.NoLimit ∧ cStatics ∉ wr ∧
          (∀ href : Heap, (∀ b o, r.heap.get? b = some o → href.get? b = some o) →
            QuietGen X.prog X.w (genEnv scope (cloFrom X.env.cells scope.names []) r.heap.objs.size code bi X.env) x [] elt (List.range r.heap.objs.size) wr Pf pz F href) ∧
          (∀ a h₅ tk gs, gs.bare = true → r.heap.objs.size < a → h₅.objs.size = a + 1 → (∀ b o, r.heap.get? b = some o → h₅.get? b = some o) →
            WalksS X.prog X.w X.A.in4 a (a :: r.heap.objs.size :: List.range r.heap.objs.size) (r.heap.objs.size :: wr) (GenOnlyQ r.gens.size) (passing pz n₀ 0).length
              (fun j y => ∃ i, (passing pz n₀ 0)[j]? = some i ∧ F i y) (GenAt X.prog X.w X.A.in4 a r.gens.size r.heap.objs.size (List.range r.heap.objs.size) wr pz n₀ F) →
            GenAt X.prog X.w X.A.in4 a r.gens.size r.heap.objs.size (List.range r.heap.objs.size) wr pz n₀ F 0 { r with gens := r.gens.push gs, toks := tk, heap := h₅ } →
            W' (.ref a) { r with gens := r.gens.push gs, toks := tk, heap := h₅ })) X.xe { z with heap := h3, toks := tk } := by
    intro code h3 tk qs hx hsz hP3 hmore ht3
    obtain ⟨bm, ob, e1, e2, e3, e4, e5, e6, e7, e8⟩ := TB.bm
    have cP : cStatics ≠ P := fun e => by
      obtain ⟨_, hns, _⟩ := I1.nolimit
      obtain ⟨o', es, ep, ho, hd, _⟩ := hns
      rw [e, atP] at ho
      cases ho
      cases hd
    have cLt : cStatics < z.heap.objs.size := let ⟨_, hns, _⟩ := I1.nolimit; hns.lt
    have stay : ∀ b u, b ≠ P → z.heap.get? b = some u → h3.get? b = some u := fun b u hb e => hx b u hb (Heap.get?_push_of_some _ e)
    have gl3 : h3.Ns mainGlobals X.mg := ((I1.mod.glob.keeps I1.bk).push o).extBut hx TB.gP
    refine wpAny_builtinsFor (m := X.mg) (by rw [I1.ok.glob]; exact gl3) e1 e2 (stay _ _ e4 (I1.bk _ _ e5)) e6 e7 e8 ?_
    refine ⟨z.heap.objs.size, [z.heap.objs.size], [z.heap.objs.size], a.cps.size, SignAt a, St, (fun _ => true),
      (fun i y => ∃ cc, a.cps[i]? = some cc ∧ y = .bool (pb cc)), rfl, W, ?_, ?_, noL.extBut hx cP, ?_, ?_, ?_⟩
    · refine (W X.A hr.hd).frame _ _ _ hst fun b hb u e => hx b u (fun q => ?_) e
      rcases List.mem_cons.mp hb with q2 | q2
      · exact Nat.ne_of_lt ltP (q.symm.trans q2)
      · cases q2
    · intro b hb
      rcases List.mem_cons.mp hb with q | q
      · rw [q]
        show z.heap.objs.size < h3.objs.size
        omega
      · cases q
    · intro q
      rcases List.mem_cons.mp q with q | q
      · exact Nat.ne_of_lt cLt q
      · cases q
    · intro href hh
      refine ⟨fun A' E' i v s₂ m₂ hA hPv hn hm hk => ?_, fun A' E' i v s₂ m₂ hA hPv hp hn hm hk => ?_⟩
      · simp only [List.forIn_nil]
        exact wpAny_pure ⟨rfl, keeps_refl _⟩
      · obtain ⟨cc, u, hcc, rfl⟩ := hPv
        have gl : s₂.heap.Ns mainGlobals X.mg := by
          obtain ⟨og, es, ep, ho, r⟩ := gl3
          have lt3 : mainGlobals < h3.objs.size := Heap.lt_size ho
          refine ⟨og, es, ep, hk mainGlobals (List.mem_range.mpr lt3) (fun q => ?_) og (hh _ _ ho), r⟩
          rcases List.mem_cons.mp q with q | q
          · obtain ⟨o9, _, _, ho9, _⟩ := I1.mod.glob.keeps I1.bk
            have := Heap.lt_size ho9
            rw [q] at this
            exact Nat.lt_irrefl _ this
          · cases q
        exact wpAny_mono (hel _ A' E' cc u s₂ m₂ rfl I1.ok.glob gl hn hm) (fun y s3 r => ⟨⟨cc, hcc, r.1⟩, r.2⟩) fun _ _ e => e
    · intro g h5 tk5 gs hgb hag hsz5 hk5 W5 hat
      simp only [GxR.passing_true, List.length_range] at W5
      refine hQ a J g _ hR ⟨_, _, _, _, _, W5.in4_1, hat, ?_, fun r hm => ?_⟩
      · intro j y sj Qj Ej hy hQj
        obtain ⟨i, hij, cc, hcc, rfl⟩ := hy
        obtain ⟨hj, ej⟩ := List.getElem?_eq_some_iff.mp hij
        rw [List.getElem_range] at ej
        subst ej
        have e9 : a.cps.toList[j]? = some cc := by rw [Array.getElem?_toList]; exact hcc
        have hQ2 : Qj (trF pb a.cps.toList j) sj := hQj
        rw [trF_some e9] at hQ2
        exact wpAny_truthy_bool hQ2
      · obtain ⟨more, em⟩ := hmore
        have nwr : ∀ b u, z.heap.get? b = some u → b ∉ h3.objs.size :: [z.heap.objs.size] := fun b u e hb => by
          have hl := Heap.lt_size e
          have hsz' : z.heap.objs.size + 1 ≤ h3.objs.size := by rw [← szo]; exact hsz
          rcases List.mem_cons.mp hb with q | q
          · have h9 : b = h3.objs.size := q
            have hl' : b < z.heap.objs.size := hl
            rw [h9] at hl'
            exact Nat.lt_irrefl _ (Nat.lt_of_lt_of_le hl' (Nat.le_trans (Nat.le_succ _) hsz'))
          · rcases List.mem_cons.mp q with q | q
            · rw [q] at hl
              exact Nat.lt_irrefl _ hl
            · cases q
        have G1 := inv_tab (more := more) (h' := r.heap) (g' := r.gens) (d' := r.drawn) (t' := r.toks) I1 hP
          (fun b u hb e => hm.heap b u (nwr b u e) (hk5 b u (stay b u hb e))) (by rw [← em]; exact hm.heap P _ (nwr P _ atP) (hk5 P _ hP3)) (AllBare.movedS (I1.bare.push hgb) hm)
        rw [sh_eta z r hm.os] at G1
        exact ⟨upd J P (.tbl (ps ++ more)), ⟨⟨ps ++ more, upd_same, by rw [← em]; exact ht3⟩, fun b hb => upd_ne hb⟩, G1⟩
  cases hf : codeAmong gpos ps.toList with
  | none =>
    refine wpAny_genexprCodeX hcode (cd.code atP' ht) (cd.tab atP') hf fun c' h' tk hx hge hlt hco' _ htab' _ => ?_
    obtain ⟨o1, vs, f1, tf, fl, tg, inF, tx, tt, op, _, _, _, _, _, _, _, _, _, htr, _⟩ := hco'
    exact cont _ h' tk _ hx (Nat.le_trans hge (Nat.le_of_lt hlt)) htab'.2 ⟨_, rfl⟩ htr
  | some cv =>
    refine wpAny_genexprCode_hit hcode (cd.code atP' ht) hf ?_
    exact cont cv (z.heap.push o) z.toks ps (Heap.ExtBut.refl _ _) (Nat.le_refl _) atP' ⟨#[], by simp⟩ ht
/-- all(elt for x in e), e a text, the element asking the module's names -/
theorem pe_allG {c P : Addr} {elt iter : Expr} {x : Str} {px p pos gpos : Pos} {scope : Scope} {pb : Nat → Bool} {te : TE} {k : Nat}
    (hr : Room k X.A) (hg : Gl X "all") (hm : X.mg "all" = none) (hb : bootBuiltins "all" = some (.builtin "all")) (TB : TabB X.base X.mg c P)
    (hcode : X.env.code = .ref c) (S : GenS X.env scope x) (hi : PE X iter te) (hel : EltG X.prog X.w X.mg scope x elt pb) (hs : ∀ v, genFold iter X.env v = pure v)
    (he : starEach [.GeneratorExp elt [⟨.Name x px, iter, [], 0⟩] scope gpos] X.env =
      (false, eval (.GeneratorExp elt [⟨.Name x px, iter, [], 0⟩] scope gpos) X.env) :: starEach [] X.env := by rfl) :
    PE X (.Call (.Name "all" p) [.GeneratorExp elt [⟨.Name x px, iter, [], 0⟩] scope gpos] [] pos) (tAllS P pb te) := by
  refine ⟨fun pins s σ H Q I h => ?_⟩
  refine wpAny_Call_Name_kw (ld_blt I hg hm hb ?_)
  refine PyProof.Rows.callWith_builtin1 ?_ he (by rfl)
  rw [he]
  show wpAny _ _ (spliced ((false, eval (.GeneratorExp elt [⟨.Name x px, iter, [], 0⟩] scope gpos) X.env) :: backTo pos (starEach [] X.env))) _ _ s
  refine Calls.spliced_cons (gen_glob (R := fun a H1 => ∀ H2, Tabbed P H1 H2 → Q (.bl (a.cps.toList.all pb)) H2) hr TB hcode S hi hel hs I h fun a H1 g z hR hG => ?_)
  obtain ⟨fp, wr, G, F, St, W, hst, htr, hI⟩ := hG
  refine Calls.spliced_nil ?_
  refine call_all_walkS (W.self 0 _ _ _ hst ⟨g, fp, wr, G, _, F, St, _, rfl, W, hst, htr, fun r hmv => ?_⟩)
  obtain ⟨H2, hT, J⟩ := hI r hmv
  refine ⟨.bl _, H2, J, rfl, ?_⟩
  rw [all_signs a pb]
  exact hR H2 hT
end
end SoGx
set_option Elab.async false
set_option linter.all false
set_option maxRecDepth 100000
set_option maxHeartbeats 4000000
namespace So
open PySem PySem.Spec PyProof.Rows L2
abbrev TabG := @GxR.TabG
/-- all but the table at P stands as before; the table stands still a table -/
def Sm (P : Addr) (H H' : Hp) : Prop := (∀ b o, b ≠ P → H b = some o → H' b = some o) ∧ GxR.TabG H' P
theorem tab_tup {H : Hp} {P b : Addr} {u : HO} (t : GxR.TabG H P) (h : H b = some u) (n : ∀ ps, u ≠ .tbl ps) : b ≠ P := fun z => by
  obtain ⟨ps, e, _⟩ := t
  rw [z, e] at h
  exact n ps (Option.some.inj h).symm
theorem Sm.refl {P : Addr} {H : Hp} (t : GxR.TabG H P) : Sm P H H := ⟨fun _ _ _ h => h, t⟩
theorem Sm.trans {P : Addr} {H H1 H2 : Hp} (a : Sm P H H1) (b : Sm P H1 H2) : Sm P H H2 := ⟨fun c o n h => b.1 c o n (a.1 c o n h), b.2⟩
theorem Sm.new {P p : Addr} {H : Hp} {o : HO} (t : GxR.TabG H P) (h : H p = none) : Sm P H (upd H p o) := by
  obtain ⟨ps, e, r⟩ := t
  refine ⟨fun b u _ e => ?_, ⟨ps, ?_, r⟩⟩
  · rw [upd_ne (ne_of_none e h)]
    exact e
  · rw [upd_ne (ne_of_none e h)]
    exact e
/-- what H does not know may change -/
theorem Sm.mut {P p : Addr} {H H' : Hp} {o : HO} (a : Sm P H H') (h : H p = none) (n : p ≠ P) : Sm P H (upd H' p o) := by
  obtain ⟨k, ps, e, r⟩ := a
  refine ⟨fun b u nb e => ?_, ⟨ps, ?_, r⟩⟩
  · rw [upd_ne (ne_of_none e h)]
    exact k b u nb e
  · rw [upd_ne (Ne.symm n)]
    exact e
section
variable {K : PySem.W.Frag} {P a : Addr} {H H' : Hp} {xs : List V}
theorem Sm.tup (t : GxR.TabG H P) (s : Sm P H H') (h : SqT K H a xs) : SqT K H' a xs := by
  rcases h with (h | ⟨o, h⟩) | h
  · exact .inl (.inl (s.1 _ _ (tab_tup t h (fun _ q => nomatch q)) h))
  · exact .inl (.inr ⟨o, s.1 _ _ (tab_tup t h (fun _ q => nomatch q)) h⟩)
  · exact .inr h
theorem Sm.lst (t : GxR.TabG H P) (s : Sm P H H') (h : SqL K H a xs) : SqL K H' a xs := by
  rcases h with (h | ⟨o, h⟩) | h
  · exact .inl (.inl (s.1 _ _ (tab_tup t h (fun _ q => nomatch q)) h))
  · exact .inl (.inr ⟨o, s.1 _ _ (tab_tup t h (fun _ q => nomatch q)) h⟩)
  · exact .inr h
theorem Sm.free (s : Sm P H H') (t : GxR.TabG H P) (h : H' a = none) : H a = none := by
  cases q : H a with
  | none => rfl
  | some o =>
    by_cases e : a = P
    · obtain ⟨ps, z, _⟩ := s.2
      rw [e, z] at h
      cases h
    · rw [s.1 _ _ e q] at h
      cases h
end
/-- a def of the text as its callers need it -/
structure Df (K : PySem.W.Frag) (mg : Str → Option Value) (x : Str) (st : Stmt) (ps : List Str) (f : Addr) (fd : FuncData) : Prop where
  F : Fun K x x st f fd
  g : mg x = some (.ref f)
  b : Binds K fd ps []
/-- .. with its code object -/
structure DfC (K : PySem.W.Frag) (mg : Str → Option Value) (x : Str) (st : Stmt) (ps : List Str) (f : Addr) (fd : FuncData) (c : Addr) : Prop where
  ex : ∃ (oc : Value) (od : Option Addr) (kV doc pm : Value) (an : Option Addr) (ct : Value) (osl : Array (Option Value)),
    fd = PySem.W.fnOf x x (defArgs st) (defBody st) (defScope st) .none kV doc pm an (.ref c) ct ∧ K.lookup f = some ⟨oc, od, .func fd, osl⟩ ∧ PySem.W.codeIn K (.ref c) x = true
  kp : PySem.W.keepIn K (.ref f) = true
  g : mg x = some (.ref f)
  b : Binds K fd ps []
theorem DfC.ok {Pg : Program} {w : World} {K : PySem.W.Frag} {mg : Str → Option Value} {base : Heap} {x : Str} {st : Stmt} {f c : Addr} {fd : FuncData} {N ps : List Str} {k : Nat} {sp : Sp} {CX : CXT}
    (F : DfC K mg x st ps f fd c) (S : FnScope N ps (defScope st)) (len : ∀ vs H Q E, sp vs H Q E → vs.length = ps.length)
    (body : ∀ (A : Around) (outer : List Env) (s : Shared) (H : Hp) (vs : List V) (Q : VK) (E : XK), Room k (A.deeper (envOfC x (defScope st) s.heap.objs.size f (.ref c))) → sp vs H Q E →
      ∃ t, PSs (cxOf CX Pg w K mg base N x (defScope st) f (.ref c) A outer s H E) (defBody st) t ∧ t { nx := fun _ H' => Q .non H', rt := Q } (start N vs) H) :
    FnOk Pg w K mg base CX (k + 1) f fd ps sp := by
  obtain ⟨oc, od, kV, doc, pm, an, ct, osl, rfl, lk, hcd⟩ := F.ex
  exact fn_of lk hcd S len body
end So
set_option Elab.async false
set_option linter.all false
set_option maxRecDepth 100000
set_option maxHeartbeats 4000000
namespace Dl
open PySem PySem.Spec PyProof.Rows L2 So
/-- a place of the text that makes functions: a lambda, a def within a def -/
structure SiteC where
  name : Str
  qual : Str
  params : Arguments
  scope : Scope
  fr : List Str
  body : Sum Expr (List Stmt)
/-- the tables: is_label's, those of defs that make functions; what an error's attribute is called -/
structure Tb where
  P : Addr
  L : List NdefX.NTab
  st : Nat → Option SiteC := fun _ => none
  an : Addr → Str := fun _ => "at"
def Tg (H : Hp) (T : Tb) : Prop := GxR.TabG H T.P ∧ NdefX.TabsN T.L H
/-- is_label's table is none of the others -/
def Apt (T : Tb) : Prop := ∀ p ∈ T.L, p.1 ≠ T.P
/-- all but the tables stays -/
def Ex (T : Tb) (H H' : Hp) : Prop := LamX.ExtN H H' ∧ Tg H' T
section
variable {T : Tb} {H H1 H' : Hp} {p a b : Addr} {o : HO} {xs : List V}
theorem Ex.refl (t : Tg H T) : Ex T H H := ⟨LamX.ExtN.refl H, t⟩
theorem Ex.trans (a : Ex T H H1) (b : Ex T H1 H') : Ex T H H' := ⟨a.1.trans b.1, b.2⟩
theorem Tg.ext (t : Tg H T) (e : ∀ b o, H b = some o → H' b = some o) : Tg H' T := ⟨by
  obtain ⟨⟨ps, h1, h2⟩, _⟩ := t
  exact ⟨ps, e _ _ h1, h2⟩, t.2.ext e⟩
theorem Ex.of (t : Tg H T) (e : ∀ b o, H b = some o → H' b = some o) : Ex T H H' := ⟨LamX.ExtN.of e, t.ext e⟩
theorem Ex.new (t : Tg H T) (h : H p = none) : Ex T H (upd H p o) := Ex.of t fun b u e => by rw [upd_ne (ne_of_none e h)]; exact e
theorem Ex.at (s : Ex T H H') (h : H b = some o) (n : ∀ ps, o ≠ .tbl ps) : H' b = some o := s.1 b o h n
/-- no table, no code object: may be taken away, may change -/
def Free (o : HO) : Prop := (∀ ps, o ≠ .tbl ps) ∧ ∀ c q, o ≠ LamX.CodeO c q
theorem Tg.but (t : Tg H T) (n : ∀ o, H p = some o → Free o) (e : ∀ b, b ≠ p → ∀ o, H b = some o → H' b = some o) : Tg H' T := by
  obtain ⟨⟨ps, h1, h2⟩, t2⟩ := t
  refine ⟨⟨ps, e _ (fun z => (n _ (z ▸ h1)).1 ps rfl) _ h1, h2⟩, fun q hq => ?_⟩
  obtain ⟨qs, a, b, c⟩ := t2 q hq
  refine ⟨qs, e _ (fun z => (n _ (z ▸ a)).1 qs rfl) _ a, b, fun pos cv hc => ?_⟩
  obtain ⟨d, e1, e2⟩ := c pos cv hc
  exact ⟨d, e1, e _ (fun z => (n _ (z ▸ e2)).2 _ _ rfl) _ e2⟩
/-- what H does not know may change -/
theorem Ex.mut (s : Ex T H H') (h : H p = none) (n : ∀ o, H' p = some o → Free o) : Ex T H (upd H' p o) := by
  refine ⟨fun b u e nt => ?_, s.2.but n fun b nb o e => by rw [upd_ne nb]; exact e⟩
  rw [upd_ne (ne_of_none e h)]
  exact s.1 b u e nt
/-- is_label's table alone has grown -/
theorem Ex.tabbed (ap : Apt T) (t : Tg H T) (g : GxR.Tabbed T.P H H') : Ex T H H' := by
  obtain ⟨⟨ps, h1, h2⟩, t2⟩ := t
  have e : ∀ b, b ≠ T.P → H' b = H b := g.2
  refine ⟨fun b o eb nt => ?_, g.1, fun q hq => ?_⟩
  · rw [e b fun z => ?_]
    · exact eb
    · rw [z, h1] at eb
      exact nt ps (Option.some.inj eb).symm
  · obtain ⟨qs, a, b, c⟩ := t2 q hq
    refine ⟨qs, by rw [e _ (ap q hq)]; exact a, b, fun pos cv hc => ?_⟩
    obtain ⟨d, e1, e2⟩ := c pos cv hc
    refine ⟨d, e1, ?_⟩
    rw [e _ fun z => ?_]
    · exact e2
    · rw [z, h1] at e2
      exact nomatch Option.some.inj e2
variable {K : PySem.W.Frag}
theorem sqt_ext (x : LamX.ExtN H H') {a : Addr} {xs : List V} (h : SqT K H a xs) : SqT K H' a xs := h.imp (fun q => q.imp (fun q => x _ _ q fun _ z => nomatch z) fun ⟨o, q⟩ => ⟨o, x _ _ q fun _ z => nomatch z⟩) _root_.id
theorem sql_ext (x : LamX.ExtN H H') {a : Addr} {xs : List V} (h : SqL K H a xs) : SqL K H' a xs := h.imp (fun q => q.imp (fun q => x _ _ q fun _ z => nomatch z) fun ⟨o, q⟩ => ⟨o, x _ _ q fun _ z => nomatch z⟩) _root_.id
theorem Ex.tup (s : Ex T H H') (h : SqT K H a xs) : SqT K H' a xs := sqt_ext s.1 h
theorem Ex.lst (s : Ex T H H') (h : SqL K H a xs) : SqL K H' a xs := sql_ext s.1 h
end
/-- its object tells all of it -/
structure Lcl (o : HO) : Prop where
  keep : ∀ {Pg : Program} {w : World} {H H' : Hp} {h h' : Heap} {a : Addr}, ObjOk Pg w H h a o → (∀ ob, h.get? a = some ob → h'.get? a = some ob) → ObjOk Pg w H' h' a o
  obj : ∀ {Pg : Program} {w : World} {H : Hp} {h : Heap} {a : Addr}, ObjOk Pg w H h a o → ∃ ob, h.get? a = some ob
  nt : ∀ xs, o ≠ .tup xs
  no : ∀ x, o ≠ .own x
theorem lcl_lst {xs : List V} : Lcl (.lst xs) := ⟨fun ⟨z, its, n, r, e⟩ k => ⟨z, its, n, r, k _ e⟩, fun ⟨_, _, _, _, e⟩ => ⟨_, e⟩, (fun _ z => nomatch z), (fun _ z => nomatch z)⟩
theorem lcl_ext {φ : Heap → Prop} : Lcl (.ext φ) := ⟨fun ⟨p, ⟨o, e⟩, st⟩ k => ⟨st _ _ p k, ⟨o, k _ e⟩, st⟩, fun ⟨_, e, _⟩ => e, (fun _ z => nomatch z), (fun _ z => nomatch z)⟩
theorem lcl_frz {ob : Obj} {u : HO} (l : Lcl u) : Lcl (.frz ob u) := ⟨fun ⟨e, q⟩ k => ⟨k _ e, l.keep q k⟩, fun ⟨e, _⟩ => ⟨_, e⟩, (fun _ z => nomatch z), (fun _ z => nomatch z)⟩
/-- a cell that is known and stays as it is -/
def CellU : HO := .ext fun _ => True
abbrev CellF (ob : Obj) : HO := .frz ob CellU
theorem cellF_ok {Pg : Program} {w : World} {H : Hp} {h : Heap} {a : Addr} {ob : Obj} (e : h.get? a = some ob) : ObjOk Pg w H h a (CellF ob) := ⟨e, trivial, ⟨ob, e⟩, fun _ _ _ _ => trivial⟩
/-- ls hidden, the cells co shown -/
def mask (ls : List Addr) (co : Addr → Option Obj) (H : Hp) : Hp := fun b => if b ∈ ls then none else match co b with
  | some ob => some (CellF ob)
  | none => H b
def unmask (ls : List Addr) (co : Addr → Option Obj) (H H' : Hp) : Hp := fun b => if b ∈ ls then H b else match co b with
  | some _ => none
  | none => H' b
def noCo : Addr → Option Obj := fun _ => none
section
variable {ls : List Addr} {co : Addr → Option Obj} {H H' : Hp} {b : Addr}
theorem mask_in (h : b ∈ ls) : mask ls co H b = none := if_pos h
theorem mask_co {ob : Obj} (h : b ∉ ls) (e : co b = some ob) : mask ls co H b = some (CellF ob) := by unfold mask; rw [if_neg h, e]
theorem mask_out (h : b ∉ ls) (e : co b = none) : mask ls co H b = H b := by unfold mask; rw [if_neg h, e]
theorem unmask_in (h : b ∈ ls) : unmask ls co H H' b = H b := if_pos h
theorem unmask_co {ob : Obj} (h : b ∉ ls) (e : co b = some ob) : unmask ls co H H' b = none := by unfold unmask; rw [if_neg h, e]
theorem unmask_out (h : b ∉ ls) (e : co b = none) : unmask ls co H H' b = H' b := by unfold unmask; rw [if_neg h, e]
/-- what may be hidden, what may be shown -/
structure Msk (fs : List Addr) (ls : List Addr) (co : Addr → Option Obj) (H : Hp) (h : Heap) : Prop where
  hid : ∀ b ∈ ls, ∃ o, H b = some o ∧ Lcl o
  sho : ∀ b ob, co b = some ob → H b = none ∧ h.get? b = some ob ∧ b ∉ fs
variable {Pg : Program} {w : World} {fs : List Addr} {h h' : Heap}
theorem Msk.nl (M : Msk fs ls co H h) (n : H b = none) : b ∉ ls := fun m => by
  obtain ⟨o, e, _⟩ := M.hid b m
  rw [n] at e
  cases e
theorem Msk.nc {o : HO} (M : Msk fs ls co H h) (e : H b = some o) : co b = none := by
  cases q : co b with
  | none => rfl
  | some ob => rw [(M.sho b ob q).1] at e; cases e
theorem Msk.has {o : HO} (M : Msk fs ls co H h) (e : H b = some o) (n : ¬ Lcl o) : mask ls co H b = some o := by
  rw [mask_out (fun m => ?_) (M.nc e)]
  · exact e
  · obtain ⟨u, q, l⟩ := M.hid b m
    rw [e] at q
    cases q
    exact n l
theorem not_lcl_tup {xs : List V} : ¬ Lcl (.tup xs) := fun l => l.nt xs rfl
theorem not_lcl_own {x : Addr} : ¬ Lcl (.own x) := fun l => l.no x rfl
theorem mask_ok (M : Msk fs ls co H h) (ok : HOk Pg w H h) : HOk Pg w (mask ls co H) h := by
  intro a o e
  by_cases m : a ∈ ls
  · rw [mask_in m] at e
    cases e
  · cases q : co a with
    | some ob =>
      rw [mask_co m q] at e
      cases e
      exact cellF_ok (M.sho a ob q).2.1
    | none =>
      rw [mask_out m q] at e
      exact (ok a o e).stay (fun _ _ _ q => q) (fun c q => M.has q not_lcl_own) fun c xs q => M.has q not_lcl_tup
/-- what the called def's end has of it -/
structure Bck (ls : List Addr) (co : Addr → Option Obj) (H' : Hp) : Prop where
  gone : ∀ b ∈ ls, H' b = none
  kept : ∀ b ob, co b = some ob → H' b = some (CellF ob)
theorem unmask_ok (M : Msk fs ls co H h) (ok : HOk Pg w H h) (B : Bck ls co H') (ok' : HOk Pg w H' h') (kp : ∀ c ∈ ls, ∀ o, h.get? c = some o → h'.get? c = some o) : HOk Pg w (unmask ls co H H') h' := by
  have key : ∀ c u, H' c = some u → (∀ ob, u ≠ CellF ob) → unmask ls co H H' c = some u := fun c u q n => by
    have m : c ∉ ls := fun k => by
      rw [B.gone c k] at q
      cases q
    have e : co c = none := by
      cases e : co c with
      | none => rfl
      | some ob =>
        rw [B.kept c ob e] at q
        cases q
        exact absurd rfl (n ob)
    rw [unmask_out m e]
    exact q
  intro a o e
  by_cases m : a ∈ ls
  · rw [unmask_in m] at e
    obtain ⟨u, q, l⟩ := M.hid a m
    rw [q] at e
    cases e
    exact l.keep (ok a _ q) (kp a m)
  · cases q : co a with
    | some ob => rw [unmask_co m q] at e; cases e
    | none =>
      rw [unmask_out m q] at e
      exact (ok' a o e).stay (fun _ _ _ q => q) (fun c q => key c _ q fun _ z => nomatch z) fun c xs q => key c _ q fun _ z => nomatch z
theorem Msk.obj (M : Msk fs ls co H h) (ok : HOk Pg w H h) {c : Addr} (m : c ∈ ls) : ∃ o, h.get? c = some o := by
  obtain ⟨o, e, l⟩ := M.hid c m
  exact l.obj (ok c o e)
end
end Dl
set_option Elab.async false
set_option linter.all false
set_option maxRecDepth 100000
set_option maxHeartbeats 4000000
namespace Dl
open PySem PySem.Spec PyProof.Rows L2 So
section
variable {ls : List Addr} {co : Addr → Option Obj} {H H' : Hp} {b : Addr} {Pg : Program} {w : World} {fs : List Addr} {h h' : Heap}
theorem bck_of (M : Msk fs ls co H h) (ok : HOk Pg w H h) (u : Un fs [] (mask ls co H) H' h h') : Bck ls co H' := by
  refine ⟨fun b m => ?_, fun b ob e => ?_⟩
  · obtain ⟨o, q⟩ := M.obj ok m
    exact u.free b o q (mask_in m) (fun z => nomatch z)
  · exact u.frzs b ob _ (mask_co (M.nl (M.sho b ob e).1) e)
theorem unmask_un (M : Msk fs ls co H h) (ok : HOk Pg w H h) (u : Un fs [] (mask ls co H) H' h h') (ok' : HOk Pg w H' h') : Un fs [] H (unmask ls co H H') h h' := by
  have B := bck_of M ok u
  have out : ∀ {b o}, H b = some o → b ∉ ls → mask ls co H b = some o := fun {b o} e m => by rw [mask_out m (M.nc e)]; exact e
  have nn : ∀ {b}, H b = none → co b = none → mask ls co H b = none := fun {b} n e => by rw [mask_out (M.nl n) e]; exact n
  refine ⟨fun b o g n f x => ?_, fun b o g n f x => ?_, fun b o g n x => ?_, u.there, fun b xs e => ?_, fun b o v e => ?_, fun b ps e => ?_⟩
  · cases q : co b with
    | some ob =>
      have e1 := (M.sho b ob q).2.1
      rw [g] at e1
      cases e1
      exact (ok' b _ (B.kept b o q)).1
    | none => exact u.keep b o g (nn n q) f x
  · cases q : co b with
    | some ob => exact absurd f (M.sho b ob q).2.2
    | none => exact u.slot b o g (nn n q) f x
  · cases q : co b with
    | some ob => exact unmask_co (M.nl n) q
    | none =>
      rw [unmask_out (M.nl n) q]
      exact u.free b o g (nn n q) x
  · have m : b ∉ ls := fun m => by
      obtain ⟨o, q, l⟩ := M.hid b m
      rw [e] at q
      cases q
      exact l.nt _ rfl
    rw [unmask_out m (M.nc e)]
    exact u.tups b xs (out e m)
  · by_cases m : b ∈ ls
    · rw [unmask_in m]
      exact e
    · rw [unmask_out m (M.nc e)]
      exact u.frzs b o v (out e m)
  · by_cases m : b ∈ ls
    · rw [unmask_in m]
      exact ⟨#[], by rw [e]; simp⟩
    · rw [unmask_out m (M.nc e)]
      exact u.tbls b ps (out e m)
theorem cx_unmask {outer : List Env} {s s' : Shared} {E E' : XK} {u : Value} (M : Msk (frs outer) ls co H s.heap) (ok : HOk Pg w H s.heap) (nf : ∀ b ∈ frs outer, H b = none) (h : L2.CX Pg w outer (mask ls co H) s E' u s')
    (hE : ∀ cls d H2, E' cls d H2 → Bck ls co H2 → E cls d (unmask ls co H H2)) : L2.CX Pg w outer H s E u s' := by
  obtain ⟨a, B, H2, cls, d, rfl, fl, hok, ub, na, os, ag, q⟩ := h
  have nfr : ∀ c ∈ ls, c ∉ frs outer := fun c m f => by
    obtain ⟨o, e, _⟩ := M.hid c m
    rw [nf c f] at e
    cases e
  have bk : Bck ls co H2 := ⟨fun c m => by
    obtain ⟨o, g⟩ := M.obj ok m
    exact ub.free c o g (mask_in m), fun c ob e => ub.frzs c ob _ (mask_co (M.nl (M.sho c ob e).1) e)⟩
  have kp : ∀ c ∈ ls, ∀ o, s.heap.get? c = some o → B.get? c = some o := fun c m o g => ub.keep c o g (mask_in m) (nfr c m)
  have out : ∀ {b o}, H b = some o → b ∉ ls → mask ls co H b = some o := fun {b o} e m => by rw [mask_out m (M.nc e)]; exact e
  have nn : ∀ {b}, H b = none → co b = none → mask ls co H b = none := fun {b} n e => by rw [mask_out (M.nl n) e]; exact n
  refine ⟨a, B, unmask ls co H H2, cls, d, rfl, fl, unmask_ok M ok bk hok kp, ?_, ?_, os, ag, hE cls d H2 q bk⟩
  · refine ⟨fun b o g n f => ?_, ub.slot, fun b o g n => ?_, ub.there, fun b xs e => ?_, fun b o v e => ?_, fun b ps e => ?_⟩
    · cases q : co b with
      | some ob =>
        have e1 := (M.sho b ob q).2.1
        rw [g] at e1
        cases e1
        exact (hok b _ (bk.kept b o q)).1
      | none => exact ub.keep b o g (nn n q) f
    · cases q : co b with
      | some ob => exact unmask_co (M.nl n) q
      | none =>
        rw [unmask_out (M.nl n) q]
        exact ub.free b o g (nn n q)
    · have m : b ∉ ls := fun m => by
        obtain ⟨o, q, l⟩ := M.hid b m
        rw [e] at q
        cases q
        exact l.nt _ rfl
      rw [unmask_out m (M.nc e)]
      exact ub.tups b xs (out e m)
    · by_cases m : b ∈ ls
      · rw [unmask_in m]
        exact e
      · rw [unmask_out m (M.nc e)]
        exact ub.frzs b o v (out e m)
    · by_cases m : b ∈ ls
      · rw [unmask_in m]
        exact ⟨#[], by rw [e]; simp⟩
      · rw [unmask_out m (M.nc e)]
        exact ub.tbls b ps (out e m)
  · by_cases m : a ∈ ls
    · obtain ⟨o, g⟩ := M.obj ok m
      have g' := kp a m o g
      rw [fl.2.1] at g'
      cases g'
    · cases q : co a with
      | some ob => exact unmask_co m q
      | none =>
        rw [unmask_out m q]
        exact na
theorem mask_env {K : PySem.W.Frag} {mg : Str → Option Value} {base : Heap} {A : Around} {outer : List Env} {s : Shared} (M : Msk (frs outer) ls co H s.heap) (nb : ∀ b ob, co b = some ob → base.get? b = none) (e0 : Env0 Pg w K mg base A outer s H) : Env0 Pg w K mg base A outer s (mask ls co H) := by
  have nn : ∀ {b}, H b = none → co b = none → mask ls co H b = none := fun {b} n e => by rw [mask_out (M.nl n) e]; exact n
  refine ⟨e0.frames, e0.mod, fun b o g => ⟨(e0.bs b o g).1, nn (e0.bs b o g).2 ?_⟩, e0.bsz, e0.funs, fun b m => nn (e0.frf b m) ?_, mask_ok M e0.hok, e0.bare⟩
  · cases q : co b with
    | none => rfl
    | some ob => rw [nb b ob q] at g; cases g
  · cases q : co b with
    | none => rfl
    | some ob => exact absurd m (M.sho b ob q).2.2
end
structure FnD (Pg : Program) (w : World) (K : PySem.W.Frag) (mg : Str → Option Value) (base : Heap) (CX : CXT) (k : Nat) (f : Addr) (fd : FuncData) (ps : List Str) (sp : Sp) : Prop where
  len : ∀ vs H Q E, sp vs H Q E → vs.length = ps.length
  run : ∀ (A : Around) (outer : List Env) (s : Shared) (H : Hp) (args : Args) (us : List Value) (vs : List V) (Q : VK) (E : XK), Room k A → A.guards = some [] → Env0 Pg w K mg base A outer s H → BindsTo s fd args (ps.zip us) → Vals vs us → sp vs H Q E →
    codeAny (model Pg w) A (.call (.ref f) args) (CR CX outer Pg w H s Q E) s
section
variable {Pg : Program} {w : World} {K : PySem.W.Frag} {mg : Str → Option Value} {base : Heap} {CX : CXT} {k j : Nat} {f : Addr} {fd : FuncData} {ps : List Str} {sp sp' : Sp}
theorem FnD.of (F : FnOk Pg w K mg base CX k f fd ps sp) : FnD Pg w K mg base CX k f fd ps sp := ⟨F.len, fun A outer s H args us vs Q E hr _ e0 hb r h => F.run A outer s H args us vs Q E hr e0 hb r h⟩
theorem FnD.mono (F : FnD Pg w K mg base CX j f fd ps sp) (h : j ≤ k) : FnD Pg w K mg base CX k f fd ps sp := ⟨F.len, fun A outer s H args us vs Q E hr => F.run A outer s H args us vs Q E (hr.mono h)⟩
theorem FnD.imp (F : FnD Pg w K mg base CX k f fd ps sp) (h : ∀ vs H Q E, sp' vs H Q E → sp vs H Q E) : FnD Pg w K mg base CX k f fd ps sp' :=
  ⟨fun vs H Q E q => F.len vs H Q E (h vs H Q E q), fun A outer s H args us vs Q E hr hg e0 hb r q => F.run A outer s H args us vs Q E hr hg e0 hb r (h vs H Q E q)⟩
/-- what lets nothing out may be called where something may be let out -/
theorem FnD.up (F : FnD Pg w K mg base CX0 k f fd ps sp) : FnD Pg w K mg base CX k f fd ps sp := ⟨F.len, fun A outer s H args us vs Q E hr hg e0 hb r q => codeAny_mono (F.run A outer s H args us vs Q E hr hg e0 hb r q) fun z s' hq => by
  match z, hq with
  | .ok (.ret u), hq => exact hq
  | .error e, hq => exact hq.elim⟩
/-- a def by its body -/
theorem FnD.ok {x y : Str} {st : Stmt} {N : List Str} (F : Fun K x y st f fd) (S : FnScope N ps (defScope st)) (len : ∀ vs H Q E, sp vs H Q E → vs.length = ps.length)
    (body : ∀ (cd : Value) (A : Around) (outer : List Env) (s : Shared) (H : Hp) (vs : List V) (Q : VK) (E : XK), Room k (A.deeper (envOfC y (defScope st) s.heap.objs.size f cd)) → (A.deeper (envOfC y (defScope st) s.heap.objs.size f cd)).guards = some [] → sp vs H Q E →
      ∃ t, PSs (cxOf CX0 Pg w K mg base N y (defScope st) f cd A outer s H E).nox (defBody st) t ∧ t { nx := fun _ H' => Q .non H', rt := Q } (start N vs) H) : FnD Pg w K mg base CX0 (k + 1) f fd ps sp := by
  obtain ⟨oc, od, kV, doc, pm, an, cd, ct, osl, rfl, lk, hcd⟩ := F.ex
  refine ⟨len, ?_⟩
  intro A outer s H args us vs Q E hr hg e0 hb r hsp
  have hl := len _ _ _ _ hsp
  have kp : ∀ b o, base.get? b = some o → s.heap.get? b = some o := fun b o z => (e0.bs b o z).1
  have pk : ∀ y ∈ ps.zip us, (defScope st).names.lookup y.1 = some .local ∨ ((defScope st).names.lookup y.1 = some .cell ∧ ((cellsFrom (s.heap.objs.size + 1) (defScope st).names []).lookup y.1).isSome = true) := fun y hy =>
    (S.par y.1 (List.of_mem_zip hy).1).imp id fun q => ⟨q, PySem.W.cellsFrom_some _ _ _ (.inl q)⟩
  have KX := e0.mod.kin.keeps kp
  refine codeAny_call_function hr.depth (KX _ _ lk) rfl S.co S.gen rfl (PySem.W.codeRec_of KX hcd) (hb _ _ _ _ (wpAny_newFunctionEnv_cells S.kind pk fun env he s1 x1 => ?_))
  subst he
  obtain ⟨t, ht, hq⟩ := body cd A outer s H vs Q E (hr.deeper _) hg hsp
  have I := inv_start (CX := CX0) (E := E) (cd := cd) (f := f) (qual := y) (us := us) S hr.hd e0 hl r x1
  refine ⟨(e0.mod.nolimit.keeps kp).keeps x1.toInCall.keep, codeAny_func (wpAny_mono (ht.nox.run [] s1 _ H _ I hq) (fun fl s' hs => ?_) fun _ _ z => z)⟩
  match fl, hs with
  | .ret u, ⟨v, σ', H', J, rv, q⟩ => exact ⟨v, H', J.os, J.bare, J.base, J.hok, rv, q⟩
  | .next, ⟨σ', H', J, q⟩ => exact ⟨V.non, H', J.os, J.bare, J.base, J.hok, rfl, q⟩
  | .brk, ⟨_, _, _, q⟩ => exact q.elim
  | .cont, ⟨_, _, _, q⟩ => exact q.elim
/-- a def that may raise, by its body -/
theorem FnD.okX {x y : Str} {st : Stmt} {N : List Str} (F : Fun K x y st f fd) (S : FnScope N ps (defScope st)) (len : ∀ vs H Q E, sp vs H Q E → vs.length = ps.length)
    (body : ∀ (cd : Value) (A : Around) (outer : List Env) (s : Shared) (H : Hp) (vs : List V) (Q : VK) (E : XK), Room k (A.deeper (envOfC y (defScope st) s.heap.objs.size f cd)) → (A.deeper (envOfC y (defScope st) s.heap.objs.size f cd)).guards = some [] → sp vs H Q E →
      ∃ t, PSs (cxOf CX Pg w K mg base N y (defScope st) f cd A outer s H E) (defBody st) t ∧ t { nx := fun _ H' => Q .non H', rt := Q } (start N vs) H) : FnD Pg w K mg base CX (k + 1) f fd ps sp := by
  obtain ⟨oc, od, kV, doc, pm, an, cd, ct, osl, rfl, lk, hcd⟩ := F.ex
  refine ⟨len, ?_⟩
  intro A outer s H args us vs Q E hr hg e0 hb r hsp
  have hl := len _ _ _ _ hsp
  have kp : ∀ b o, base.get? b = some o → s.heap.get? b = some o := fun b o z => (e0.bs b o z).1
  have pk : ∀ y ∈ ps.zip us, (defScope st).names.lookup y.1 = some .local ∨ ((defScope st).names.lookup y.1 = some .cell ∧ ((cellsFrom (s.heap.objs.size + 1) (defScope st).names []).lookup y.1).isSome = true) := fun y hy =>
    (S.par y.1 (List.of_mem_zip hy).1).imp id fun q => ⟨q, PySem.W.cellsFrom_some _ _ _ (.inl q)⟩
  have KX := e0.mod.kin.keeps kp
  refine codeAny_call_function hr.depth (KX _ _ lk) rfl S.co S.gen rfl (PySem.W.codeRec_of KX hcd) (hb _ _ _ _ (wpAny_newFunctionEnv_cells S.kind pk fun env he s1 x1 => ?_))
  subst he
  obtain ⟨t, ht, hq⟩ := body cd A outer s H vs Q E (hr.deeper _) hg hsp
  have I := inv_start (CX := CX) (E := E) (cd := cd) (f := f) (qual := y) (us := us) S hr.hd e0 hl r x1
  refine ⟨(e0.mod.nolimit.keeps kp).keeps x1.toInCall.keep, codeAny_func (wpAny_mono (ht.run [] s1 _ H _ I hq) (fun fl s' hs => ?_) fun _ _ z => z)⟩
  match fl, hs with
  | .ret u, ⟨v, σ', H', J, rv, q⟩ => exact ⟨v, H', J.os, J.bare, J.base, J.hok, rv, q⟩
  | .next, ⟨σ', H', J, q⟩ => exact ⟨V.non, H', J.os, J.bare, J.base, J.hok, rfl, q⟩
  | .brk, ⟨_, _, _, q⟩ => exact q.elim
  | .cont, ⟨_, _, _, q⟩ => exact q.elim
end
theorem cell_one {h : Heap} {c : Addr} {v u : Option Value} (a : h.IsCell c v) (b : h.IsCell c u) : v = u := by
  obtain ⟨o, e1, e2⟩ := a
  obtain ⟨o', e3, e4⟩ := b
  rw [e1] at e3
  cases e3
  rw [e2] at e4
  cases e4
  rfl
/-- the slots js are cells of the running def's own -/
def CellJ (X : Cx) (js : List Nat) : Prop := ∀ j ∈ js, ∃ y, X.N[j]? = some y ∧ X.env.scope.names.lookup y = some .cell ∧ X.fn y = true
/-- the cells of the slots js, as they stand; where a slot is known, what the cell holds -/
structure Shown (X : Cx) (σ : L2.St) (js : List Nat) (co : Addr → Option Obj) : Prop where
  own : ∀ b ob, co b = some ob → ∃ j y, j ∈ js ∧ X.N[j]? = some y ∧ X.env.cells.lookup y = some b
  at_ : ∀ j ∈ js, ∀ y, X.N[j]? = some y → ∃ c ob, X.env.cells.lookup y = some c ∧ co c = some ob ∧ ∃ x, ob.data = .cell x ∧ ∀ v, σ[j]? = some (some v) → ∃ u, x = some u ∧ RelV v u
section
variable {X : Cx} {pins : List (Addr × Obj)} {σ : L2.St} {H : Hp} {s : Shared}
theorem own_cell (I : Inv X pins σ H s) {y : Str} {b : Addr} (hf : X.fn y = true) (e : X.env.cells.lookup y = some b) : b ∉ frs X.stack ∧ X.base.get? b = none := by
  have ge := I.ok.cab y b hf e
  refine ⟨fun m => ?_, ?_⟩
  · rcases List.mem_cons.mp (I.stkSub b m) with z | z
    · exact I.cne y b e z
    · obtain ⟨_, o, ho, _⟩ := I.ok.funs.mem z
      exact absurd (Nat.lt_of_lt_of_le (Heap.lt_size ho) ge) (Nat.lt_irrefl _)
  · cases q : X.base.get? b with
    | none => rfl
    | some o => exact absurd (Nat.lt_of_lt_of_le (Heap.lt_size (I.ok.bs b o q).1) ge) (Nat.lt_irrefl _)
open Classical in
theorem shown_of (I : Inv X pins σ H s) {js : List Nat} (hj : CellJ X js) : ∃ co, Shown X σ js co ∧ (∀ b ob, co b = some ob → H b = none ∧ s.heap.get? b = some ob ∧ b ∉ frs X.stack) ∧ ∀ b ob, co b = some ob → X.base.get? b = none := by
  have cell : ∀ j ∈ js, ∀ y, X.N[j]? = some y → ∃ c, X.env.cells.lookup y = some c ∧ X.fn y = true ∧ ∃ x, s.heap.IsCell c x ∧ ∀ v, σ[j]? = some (some v) → ∃ u, x = some u ∧ RelV v u := by
    intro j mj y ey
    obtain ⟨y', e1, kd, hf⟩ := hj j mj
    rw [ey] at e1
    cases e1
    obtain ⟨c, hc⟩ := I.ok.has y (.inl kd)
    obtain ⟨x, hx⟩ := I.cell y c hc
    refine ⟨c, hc, hf, x, hx, fun v ev => ?_⟩
    obtain ⟨m, hn, hl⟩ := I.loc
    obtain ⟨u, r, l⟩ := hl j y v ey ev (.inr (.inl kd))
    rcases l with ⟨k', _⟩ | ⟨_, c', hc', hcell⟩
    · have k' : X.env.scope.names.lookup y = some .local := k'
      rw [kd] at k'
      cases k'
    · rw [hc] at hc'
      cases hc'
      exact ⟨u, cell_one hx hcell, r⟩
  refine ⟨fun b => if ∃ j y, j ∈ js ∧ X.N[j]? = some y ∧ X.env.cells.lookup y = some b then s.heap.get? b else none, ⟨fun b ob e => ?_, fun j mj y ey => ?_⟩, fun b ob e => ?_, fun b ob e => ?_⟩
  · split at e
    · rename_i h
      exact h
    · cases e
  · obtain ⟨c, hc, _, x, ⟨ob, ho, hd⟩, hv⟩ := cell j mj y ey
    exact ⟨c, ob, hc, by rw [if_pos ⟨j, y, mj, ey, hc⟩]; exact ho, x, hd, hv⟩
  · dsimp only at e
    split at e
    · rename_i h
      obtain ⟨j, y, mj, ey, hc⟩ := h
      obtain ⟨c, hc', hf, _⟩ := cell j mj y ey
      rw [hc] at hc'
      cases hc'
      exact ⟨I.freeC y b hc, e, (own_cell I hf hc).1⟩
    · cases e
  · dsimp only at e
    split at e
    · rename_i h
      obtain ⟨j, y, mj, ey, hc⟩ := h
      obtain ⟨c, hc', hf, _⟩ := cell j mj y ey
      rw [hc] at hc'
      cases hc'
      exact (own_cell I hf hc).2
    · cases e
end
/-- a call: ls hidden, the cells of the slots js shown -/
@[irreducible] def maskK (X : Cx) (σ : L2.St) (sp : Sp) (E : XK) : List V → Hp → VK → Prop := fun vs H1 Q => ∃ (ls : List Addr) (js : List Nat), (∀ b ∈ ls, ∃ o, H1 b = some o ∧ Lcl o) ∧ CellJ X js ∧ ∀ co, Shown X σ js co → (∀ b ob, co b = some ob → H1 b = none) →
  sp vs (mask ls co H1) (fun v H2 => Bck ls co H2 → Q v (unmask ls co H1 H2)) (fun cls d H2 => Bck ls co H2 → E cls d (unmask ls co H1 H2))
section
variable {X : Cx} {CX : CXT} {k : Nat} {f : Addr} {fd : FuncData} {ps ks : List Str} {sp : Sp} {E : L2.St → XK} {x : Str} {p pos : Pos} {e : Expr} {es : List Expr} {t tk : TA} {kws : List Keyword} {g : List Value → List Value → List Value} {gV : List V → List V → List V}
/-- what lets nothing out, or what tells of errors -/
inductive Lets (X : Cx) : CXT → (L2.St → XK) → Prop
  | non {E : L2.St → XK} : Lets X CX0 E
  | may {E : L2.St → XK} (hx : ∀ σ, PassesAt (L2.CX X.prog X.w) X σ (E σ)) : Lets X (L2.CX X.prog X.w) E
theorem Lets.all {X : Cx} {E : XK} (hx : Passes (L2.CX X.prog X.w) X E) : Lets X (L2.CX X.prog X.w) (fun _ => E) := .may fun σ pins H s e s' I c => hx pins σ H s e s' I c
theorem run_mask {pins : List (Addr × Obj)} {σ : L2.St} {H : Hp} {s : Shared} {Q : VK} {us : List Value} {vs : List V} {args : Args} (F : FnD X.prog X.w X.K X.mg X.base CX k f fd ps sp) (hl : Lets X CX E) (hr : Room k X.A) (hgd : X.A.guards = some []) (I : Inv X pins σ H s) (r : Vals vs us)
    (hb : us.length = ps.length → BindsTo s fd args (ps.zip us)) (h : maskK X σ sp (E σ) vs H Q) : codeAny (model X.prog X.w) X.A (.call (.ref f) args) (fun z s' => match z with
      | .ok (.ret u) => EP X pins σ Q u s'
      | .ok _ => False
      | .error e => X.xe e s') s := by
  unfold maskK at h
  obtain ⟨ls, js, L, hj, q⟩ := h
  obtain ⟨co, sh, c1, c2⟩ := shown_of I hj
  have q := q co sh fun b ob e => (c1 b ob e).1
  have M : Msk (frs X.stack) ls co H s.heap := ⟨L, c1⟩
  have e0 := I.env0
  refine codeAny_mono (F.run X.A X.stack s (mask ls co H) args us vs _ _ hr hgd (mask_env M c2 e0) (hb (r.length.symm.trans (F.len _ _ _ _ q))) r q) fun z s' hq => ?_
  match z, hq with
  | .error e, hq =>
    cases hl with
    | non => exact hq.elim
    | may hx => exact hx σ pins H s e s' I (cx_unmask M e0.hok e0.frf hq fun cls d H2 q g => q g)
  | .ok (.ret u), ⟨v, H2, os, bare, un, hok, rv, z⟩ =>
    have bk := bck_of M e0.hok un
    exact I.after ⟨v, unmask ls co H H2, os, bare, unmask_un M e0.hok un hok, unmask_ok M e0.hok bk hok fun c m o g => un.keep c o g (mask_in m) (fun m2 => by
      obtain ⟨o, e, _⟩ := L c m
      rw [e0.frf c m2] at e
      cases e) (fun z => nomatch z), rv, z bk⟩
theorem run_call {pins : List (Addr × Obj)} {σ : L2.St} {H : Hp} {s : Shared} {Q : VK} {us : List Value} {vs : List V} (F : FnD X.prog X.w X.K X.mg X.base CX k f fd ps sp) (hl : Lets X CX E) (hr : Room k X.A) (hgd : X.A.guards = some []) (hb : Binds X.K fd ps []) (I : Inv X pins σ H s) (r : Vals vs us) (h : maskK X σ sp (E σ) vs H Q) :
    wpAny (model X.prog X.w) X.A (call (.ref f) us) (EP X pins σ Q) X.xe s := by
  refine wpAny_call (codeAny_mono (run_mask F hl hr hgd I r (fun z => ?_) h) fun z s' hq => ?_)
  · have B := hb s us I.kIn (by rw [List.append_nil]; exact z)
    rwa [List.append_nil] at B
  · match z, hq with
    | .error e, hq => exact hq
    | .ok (.ret u), hq => exact hq
def tCallM (X : Cx) (sp : Sp) (E : L2.St → XK) (t : TA) : TE := fun σ H Q => t σ H fun vs H1 => maskK X σ sp (E σ) vs H1 Q
theorem pe_callM (F : FnD X.prog X.w X.K X.mg X.base CX k f fd ps sp) (hl : Lets X CX E) (hr : Room k X.A) (hgd : X.A.guards = some []) (hg : Gl X x) (hm : X.mg x = some (.ref f)) (hk : PySem.W.keepIn X.K (.ref f) = true) (hb : Binds X.K fd ps []) (ha : PA X (e :: es) t)
    (hdb : (x == ("__debug__" : Str)) = false := by decide) (he : starEach (e :: es) X.env = (false, eval e X.env) :: starEach es X.env := by rfl) (hpl : (backTo pos (starEach es X.env)).any (·.1) = false := by rfl) :
    PE X (.Call (.Name x p) (e :: es) [] pos) (tCallM X sp E t) := by
  refine ⟨fun pins s σ H Q I h => wpAny_Call_Name_kw (ld_glob I hg hm ?_ hdb)⟩
  refine PySem.W.callWith_K (h₀ := X.base) I.ok.mod.kin hk ?_ he hpl
  exact thn (ha.run pos pins s σ H _ I h) fun us s1 ⟨vs, H1, J, r, hh⟩ => ⟨J.kIn, run_call F hl hr hgd hb J r hh⟩
/-- a call by keywords alone -/
theorem pe_callMK (F : FnD X.prog X.w X.K X.mg X.base CX k f fd ps sp) (hlt : Lets X CX E) (hr : Room k X.A) (hgd : X.A.guards = some []) (hg : Gl X x) (hm : X.mg x = some (.ref f)) (hk : PySem.W.keepIn X.K (.ref f) = true) (hb : KBinds X.K fd ps ks g gV)
    (hkw : PK X kws tk) (hall : (backToKw pos (keywordEach kws X.env)).all (·.1.isSome) = true := by rfl) (hks : (backToKw pos (keywordEach kws X.env)).filterMap (·.1) = ks := by rfl)
    (hdb : (x == ("__debug__" : Str)) = false := by decide) (hpl : ((backTo pos (starEach [] X.env)).any (·.1) || (backToKw pos (keywordEach kws X.env)).any (·.1.isNone)) = false := by rfl) :
    PE X (.Call (.Name x p) [] kws pos) (fun σ H Q => tk σ H fun zs H1 => maskK X σ sp (E σ) (gV [] zs) H1 Q) := by
  refine ⟨fun pins s σ H Q I h => wpAny_Call_Name_kw (ld_glob I hg hm ?_ hdb)⟩
  refine PySem.W.callWith_KW0 (h₀ := X.base) I.ok.mod.kin hk hall (thn (hkw.run pos pins s σ H _ I h) fun ws s1 ⟨zs, H1, J, rz, hh⟩ => ⟨J.kIn, ?_⟩) hpl
  rw [hks]
  refine wpAny_call (codeAny_mono (run_mask (us := g [] ws) F hlt hr hgd J (hb.rel (vs := []) (us := []) .nil rz) (fun z => hb.to s1 [] ws J.kIn z) hh) fun z s' hq => ?_)
  match z, hq with
  | .error e, hq => exact hq
  | .ok (.ret u), hq => exact hq
end
end Dl
set_option Elab.async false
set_option linter.all false
set_option maxRecDepth 100000
set_option maxHeartbeats 4000000
namespace SoC
open PySem PySem.Spec PyProof.Rows L2 LamX NdefX So
/-- what cells hold, by their addresses -/
abbrev CF := Addr → Option Value → Prop
/-- what is tracked -/
abbrev TR := Addr → HO → Prop
def cellsIn (C : CF) (s : Shared) (H : Hp) : Prop := ∀ c v, C c v → H c = none ∧ s.heap.IsCell c v
def trkIn (T : TR) (H : Hp) : Prop := ∀ a o, T a o → H a = some o
theorem cellsIn.un {C : CF} {s s' : Shared} {H H' : Hp} {fs ex : List Addr} (h : cellsIn C s H) (u : Un fs ex H H' s.heap s'.heap) (hx : ∀ c v, C c v → c ∉ ex) : cellsIn C s' H' := by
  intro c v q
  obtain ⟨n, o, ho, hd⟩ := h c v q
  obtain ⟨sl, e⟩ := u.any ho n (hx c v q)
  exact ⟨u.free c o ho n (hx c v q), _, e, hd⟩
/-- the function at f keeps sp, wherever what it leans on stands -/
def Cal (Pg : Program) (w : World) (K : PySem.W.Frag) (mg : Str → Option Value) (base : Heap) (k : Nat) (C : CF) (T : TR) (f : Addr) (sp : Sp) : Prop :=
  ∀ (A : Around) (outer : List Env) (s : Shared) (H : Hp) (us : List Value) (vs : List V) (Q : VK) (E : XK), Room k A → Env0 Pg w K mg base A outer s H → cellsIn C s H → trkIn T H → Vals vs us → sp vs H Q E →
    codeAny (model Pg w) A (.call (.ref f) ⟨us, []⟩) (CR (L2.CX Pg w) outer Pg w H s Q E) s
section
variable {Pg : Program} {w : World} {K : PySem.W.Frag} {mg : Str → Option Value} {base : Heap} {k j : Nat} {C : CF} {T : TR} {f : Addr} {sp sp' : Sp}
theorem Cal.mono (c : Cal Pg w K mg base j C T f sp) (h : j ≤ k) : Cal Pg w K mg base k C T f sp := fun A outer s H us vs Q E hr => c A outer s H us vs Q E (hr.mono h)
theorem Cal.imp (c : Cal Pg w K mg base k C T f sp) (h : ∀ vs H Q E, trkIn T H → sp' vs H Q E → sp vs H Q E) : Cal Pg w K mg base k C T f sp' := fun A outer s H us vs Q E hr e0 hc ht r q => c A outer s H us vs Q E hr e0 hc ht r (h vs H Q E ht q)
end
/-- a lambda stands at f: its words, its cells, its code -/
def LmO (f : Addr) (F : NF) (body : Expr) : HO := .ext fun h => ∃ pm ctv : Value, h.get? f = some (PySem.W.kla_obj "<lambda>" F.qual F.params body F.scope F.cl pm F.c ctv)
/-- something that is called stands at f -/
def FnK (H : Hp) (f : Addr) : Prop := ∃ φ : Heap → Prop, H f = some (.ext φ) ∧ ∀ h, φ h → PySem.W.FnAt f h
theorem FnK.at {Pg : Program} {w : World} {H : Hp} {h : Heap} {f : Addr} (x : FnK H f) (hok : HOk Pg w H h) : PySem.W.FnAt f h := by
  obtain ⟨φ, e, q⟩ := x
  obtain ⟨z, _, _⟩ := hok f _ e
  exact q h z
section
variable {X : Cx} {k j i : Nat} {C : CF} {T : TR} {f : Addr} {sp : Sp} {E : XK} {t : TA} {x : Str} {e : Expr} {es : List Expr} {p pos : Pos}
end
end SoC
set_option Elab.async false
set_option linter.all false
set_option maxRecDepth 100000
set_option maxHeartbeats 4000000
namespace Dl
open PySem PySem.Spec PyProof.Rows L2 So
/-- what the rules ask of a run: its tables, its program's constants -/
structure Zw where
  T : Tb
  K : PySem.W.Frag
  Pg : Program
  w : World
  mg : Str → Option Value
  base : Heap
abbrev zOf (X : Cx) (T : Tb) : Zw := ⟨T, X.K, X.prog, X.w, X.mg, X.base⟩
def cloD (s : Nat) (Ds : List PyData) : PyData := .dict [(.list [.int s], .tuple Ds)]
def SiteC.nf (sc : SiteC) (cl : List (Str × Addr)) (c : Addr) : NdefX.NF := ⟨sc.name, sc.qual, sc.params, (match sc.body with | .inr b => b | .inl _ => []), sc.scope, cl, c⟩
def FunO (sc : SiteC) (f : Addr) (F : NdefX.NF) : HO := match sc.body with
  | .inl e => SoC.LmO f F e
  | .inr _ => NdefX.FnO f F
theorem funO_ext (sc : SiteC) (f : Addr) (F : NdefX.NF) : ∃ φ : Heap → Prop, FunO sc f F = .ext φ ∧ ∀ h, φ h → PySem.W.FnAt f h := by
  unfold FunO
  split
  · exact ⟨_, rfl, fun h ⟨pm, ctv, z⟩ => ⟨_, _, _, _, z⟩⟩
  · exact ⟨_, rfl, fun h ⟨od, sl, doc, pm, ctv, z⟩ => ⟨_, _, _, _, z⟩⟩
theorem funO_cls (sc : SiteC) (f : Addr) (F : NdefX.NF) : ∃ φ : Heap → Prop, FunO sc f F = .ext φ ∧ ∀ h, φ h → ∃ o, h.get? f = some o ∧ o.cls = .type "function" := by
  unfold FunO
  split
  · exact ⟨_, rfl, fun h ⟨pm, ctv, z⟩ => ⟨_, z, rfl⟩⟩
  · exact ⟨_, rfl, fun h ⟨od, sl, doc, pm, ctv, z⟩ => ⟨_, z, rfl⟩⟩
/-- what the captured cells hold for good -/
structure CellsF (G : Hp) (cl : List (Str × Addr)) (fr : List Str) (as : List Addr) (vs : List V) : Prop where
  la : as.length = fr.length
  lv : vs.length = fr.length
  at_ : ∀ (i : Nat) (y : Str), fr[i]? = some y → ∃ a v u ob, as[i]? = some a ∧ vs[i]? = some v ∧ cl.lookup y = some a ∧ G a = some (CellF ob) ∧ ob.data = .cell (some u) ∧ RelV v u
  all : ∀ y a, cl.lookup y = some a → a ∈ as
  inj : ∀ x y a, cl.lookup x = some a → cl.lookup y = some a → x = y
structure CloAt (T : Tb) (G : Hp) (f : Addr) (s : Nat) (as : List Addr) (vs : List V) : Prop where
  ex : ∃ sc cl c, T.st s = some sc ∧ G f = some (FunO sc f (sc.nf cl c)) ∧ G c = some (LamX.CodeO c sc.qual) ∧ CellsF G cl sc.fr as vs
def dels (as : List Addr) (G : Hp) : Hp := fun b => if b ∈ as then none else G b
theorem dels_ext {as : List Addr} {G G' : Hp} (x : LamX.ExtN G G') : LamX.ExtN (dels as G) (dels as G') := fun b o e n => by
  unfold dels at e ⊢
  split at e
  · cases e
  · rename_i h
    rw [if_neg h]
    exact x b o e n
theorem CellsF.ext {G G' : Hp} {cl : List (Str × Addr)} {fr : List Str} {as : List Addr} {vs : List V} (x : LamX.ExtN G G') (h : CellsF G cl fr as vs) : CellsF G' cl fr as vs :=
  ⟨h.la, h.lv, fun i y e => by
    obtain ⟨a, v, u, ob, h1, h2, h3, h4, h5⟩ := h.at_ i y e
    exact ⟨a, v, u, ob, h1, h2, h3, x _ _ h4 (fun ps z => nomatch z), h5⟩, h.all, h.inj⟩
theorem CloAt.ext {T : Tb} {G G' : Hp} {f : Addr} {s : Nat} {as : List Addr} {vs : List V} (x : LamX.ExtN G G') (h : CloAt T G f s as vs) : CloAt T G' f s as vs := by
  obtain ⟨sc, cl, c, h1, h2, h3, h4⟩ := h.ex
  refine ⟨sc, cl, c, h1, x _ _ h2 (fun ps z => ?_), x _ _ h3 (fun ps z => ?_), h4.ext x⟩
  · obtain ⟨φ, e, _⟩ := funO_ext sc f (sc.nf cl c)
    rw [e] at z
    cases z
  · exact LamX.codeO_ne ps z
/-- a dict by its raw entries -/
def DicO (a : Addr) (es : Array DictEntry) : HO := .ext fun h => ∃ ep, h.DictRaw a es ep
mutual
/-- a key, up to == -/
def nk : PyData → NestedKey
  | .none => .none
  | .bool b => .num (if b = true then 1 else 0)
  | .int i => .num i
  | .str z => .text z
  | .tuple ds => .tup (nks ds)
  | .list _ => .none
  | .dict _ => .none
def nks : List PyData → List NestedKey
  | [] => []
  | d :: ds => nk d :: nks ds
end
mutual
inductive Dw (Z : Zw) : Hp → V → PyData → Prop
  | non {G : Hp} : Dw Z G .non .none
  | bl {G : Hp} (b : Bool) : Dw Z G (.bl b) (.bool b)
  | int {G : Hp} (i : Int) : Dw Z G (.int i) (.int i)
  | str {G : Hp} (x : Str) : Dw Z G (.str x) (.str x)
  | lst {G : Hp} {a : Addr} {xs : List V} {ds : List PyData} : SqL Z.K G a xs → DwAll Z G xs ds → Dw Z G (.ref a) (.list ds)
  | tup {G : Hp} {a : Addr} {xs : List V} {ds : List PyData} : SqT Z.K G a xs → DwAll Z G xs ds → Dw Z G (.ref a) (.tuple ds)
  | dic {G : Hp} {a : Addr} {es : Array DictEntry} {kvs : List (PyData × PyData)} : G a = some (DicO a es) → DwKV Z G es.toList kvs → Dw Z G (.ref a) (.dict kvs)
  | clo {G : Hp} {f : Addr} {s : Nat} {as : List Addr} {vs : List V} {Ds : List PyData} : CloAt Z.T G f s as vs → DwAll Z (dels as G) vs Ds → Dw Z G (.ref f) (cloD s Ds)
inductive DwAll (Z : Zw) : Hp → List V → List PyData → Prop
  | nil {G : Hp} : DwAll Z G [] []
  | cons {G : Hp} {v : V} {vs : List V} {d : PyData} {ds : List PyData} : Dw Z G v d → DwAll Z G vs ds → DwAll Z G (v :: vs) (d :: ds)
inductive DwKV (Z : Zw) : Hp → List DictEntry → List (PyData × PyData) → Prop
  | nil {G : Hp} : DwKV Z G [] []
  | cons {G : Hp} {e : DictEntry} {es : List DictEntry} {k v : V} {dk dv : PyData} {kvs : List (PyData × PyData)} : RelV k e.key → RelV v e.val → e.hash = (nk dk).hash Z.w → Dw Z G k dk → Dw Z G v dv → (∀ p ∈ kvs, nk p.1 ≠ nk dk) → DwKV Z G es kvs → DwKV Z G (e :: es) ((dk, dv) :: kvs)
end
section
variable {Z : Zw} {G G' : Hp} {v : V} {D : PyData}
mutual
theorem Dw.ext : ∀ {G G' : Hp} {v : V} {D : PyData}, LamX.ExtN G G' → Dw Z G v D → Dw Z G' v D
  | _, _, _, _, _, .non => .non
  | _, _, _, _, _, .bl b => .bl b
  | _, _, _, _, _, .int b => .int b
  | _, _, _, _, _, .str b => .str b
  | _, _, _, _, x, .lst a b => .lst (sql_ext x a) (DwAll.ext x b)
  | _, _, _, _, x, .tup a b => .tup (sqt_ext x a) (DwAll.ext x b)
  | _, _, _, _, x, .dic a b => .dic (x _ _ a (fun _ z => nomatch z)) (DwKV.ext x b)
  | _, _, _, _, x, .clo a b => .clo (a.ext x) (DwAll.ext (dels_ext x) b)
theorem DwAll.ext : ∀ {G G' : Hp} {vs : List V} {Ds : List PyData}, LamX.ExtN G G' → DwAll Z G vs Ds → DwAll Z G' vs Ds
  | _, _, _, _, _, .nil => .nil
  | _, _, _, _, x, .cons a b => .cons (Dw.ext x a) (DwAll.ext x b)
theorem DwKV.ext : ∀ {G G' : Hp} {es : List DictEntry} {kvs : List (PyData × PyData)}, LamX.ExtN G G' → DwKV Z G es kvs → DwKV Z G' es kvs
  | _, _, _, _, _, .nil => .nil
  | _, _, _, _, x, .cons r1 r2 h a b n c => .cons r1 r2 h (Dw.ext x a) (Dw.ext x b) n (DwKV.ext x c)
end
theorem Dw.mono {T : Tb} (s : Ex T G G') (h : Dw Z G v D) : Dw Z G' v D := h.ext s.1
theorem DwAll.mono {T : Tb} {vs : List V} {Ds : List PyData} (s : Ex T G G') (h : DwAll Z G vs Ds) : DwAll Z G' vs Ds := h.ext s.1
mutual
/-- no dict, no function in it -/
def plain : PyData → Bool
  | .dict _ => false
  | .list ds => plains ds
  | .tuple ds => plains ds
  | _ => true
def plains : List PyData → Bool
  | [] => true
  | d :: ds => plain d && plains ds
end
mutual
theorem plain_of_lay : ∀ {D : PyData}, D.canLay0 = true → plain D = true
  | .none, _ => rfl
  | .bool _, _ => rfl
  | .int _, _ => rfl
  | .str _, _ => rfl
  | .list ds, h => by
    simp only [PyData.canLay0] at h
    unfold plain
    exact plains_of_lay h
  | .tuple ds, h => by
    simp only [PyData.canLay0] at h
    unfold plain
    exact plains_of_lay h
  | .dict _, h => by simp [PyData.canLay0] at h
theorem plains_of_lay : ∀ {Ds : List PyData}, PyData.canLayAll0 Ds = true → plains Ds = true
  | [], _ => rfl
  | d :: ds, h => by
    unfold PyData.canLayAll0 at h
    rw [Bool.and_eq_true] at h
    unfold plains
    rw [plain_of_lay h.1, plains_of_lay h.2]
    rfl
end
mutual
theorem Dw.dp : ∀ {D : PyData} {v : V}, plain D = true → Dw Z G v D → Dp Z.K G v D
  | .none, _, _, h => by cases h; exact .non
  | .bool _, _, _, h => by cases h; exact .bl _
  | .int _, _, _, h => by cases h; exact .int _
  | .str _, _, _, h => by cases h; exact .str _
  | .list ds, _, p, h => by
    cases h with
    | lst a b => exact .lst a (DwAll.dp (by unfold plain at p; exact p) b)
  | .tuple ds, _, p, h => by
    cases h with
    | tup a b => exact .tup a (DwAll.dp (by unfold plain at p; exact p) b)
  | .dict _, _, p, _ => nomatch p
theorem DwAll.dp : ∀ {Ds : List PyData} {vs : List V}, plains Ds = true → DwAll Z G vs Ds → DpAll Z.K G vs Ds
  | [], _, _, h => by cases h; exact .nil
  | d :: ds, _, p, h => by
    unfold plains at p
    rw [Bool.and_eq_true] at p
    cases h with
    | cons a b => exact .cons (Dw.dp p.1 a) (DwAll.dp p.2 b)
end
end
end Dl
set_option Elab.async false
set_option linter.all false
set_option maxRecDepth 100000
namespace PySem
open Sem (wp)
theorem fnT_get : Slot "function" "__getattribute__" "object.__getattribute__" := by
  refine .of (owner := "object") (n := "__getattribute__") ?_ ?_ ?_ ?_ ?_ ?_
  · rw [typeLookup_type, builtinLookup_eq_fast]; kernel_rfl
  · decide +kernel
  · decide +kernel
  · decide +kernel
  · first | exact .inl (by decide +kernel) | exact .inr (by decide +kernel)
  · rw [isSubtype_type]; kernel_rfl
theorem fnT_look : typeLookup (.type "function") "__class__" = pure (some (.builtin "object.__class__")) := by rw [typeLookup_type, builtinLookup_eq_fast]; kernel_rfl
theorem fnT_sub : isSubtype (.type "function") (.type (".".intercalate ("object.__class__".cutAt '.').dropLast)) = pure true := by rw [F.owner_object_class, isSubtype_type]; kernel_rfl
section
variable {prog : Program} {w : World} {A : Around} {E : Value → Shared → Prop} {h : Heap} {g : Array GenState} {d : Drawn} {t : Nat} {os : OsState} {a : Addr}
/-- a function object at a -/
def FnAtT (h : Heap) (a : Addr) : Prop := ∃ o, h.get? a = some o ∧ o.cls = .type "function"
theorem FnAtT.ty (p : FnAtT h a) : (⟨h, g, d, t, os⟩ : Shared).TypeIs (.ref a) "function" := p
/-- the descriptor's answer -/
theorem fnT_desc {R : Result → Shared → Prop} (p : FnAtT h a) (r : R (.ok (.ret (.type "function"))) ⟨h, g, d, t, os⟩) :
    codeAny (model prog w) A (.call (.builtin "getset_descriptor.__get__") ⟨[.builtin "object.__class__", .ref a, .type "function"], []⟩) R ⟨h, g, d, t, os⟩ := by
  obtain ⟨o, hx, hc⟩ := p
  have k1 : (⟨h, g, d, t, os⟩ : Shared).TypeIs (.ref a) "function" := ⟨o, hx, hc⟩
  have k2 : (⟨h, g, d, t, os⟩ : Shared).TypeIs (.builtin "object.__class__") "getset_descriptor" := F.typeOf_object_class
  have k3 := fnT_sub
  refine codeAny_call_builtin F.slot_gs_get.plain F.entry_gs_get (F.slot_gs_get.check _ _ _ _ _ _ _ _ k2 (F.args_gs_get _ _ _) ?_)
  repeat (any_goals (first | assumption | wp_step))
  refine ⟨Code.quiet_builtin _ (by decide +kernel), codeAny_builtin F.entry_object_class ?_⟩
  repeat (any_goals (first | assumption | wp_step))
/-- the general way to an attribute, asked for the class -/
theorem fnT_own {tk : Tok} {R : Result → Shared → Prop} (p : FnAtT h a) (r : R (.ok (.ret (.type "function"))) ⟨h, g, d, t, os⟩) :
    codeAny (model prog w) A (.call (.builtin "object.__getattribute__") ⟨[.ref a, .str "__class__" tk], []⟩) R ⟨h, g, d, t, os⟩ := by
  refine codeAny_call_builtin fnT_get.plain F.entry_object_getattribute (fnT_get.check _ _ _ _ _ _ _ _ p.ty (F.args_object_getattribute_2 _ _) ?_)
  have p' := p
  obtain ⟨o, hx, hc⟩ := p'
  have k1 : (⟨h, g, d, t, os⟩ : Shared).TypeIs (.ref a) "function" := ⟨o, hx, hc⟩
  have k2 : (⟨h, g, d, t, os⟩ : Shared).TypeIs (.builtin "object.__class__") "getset_descriptor" := F.typeOf_object_class
  have k3 := fnT_look
  have k4 := F.typeOf_object_class
  have k5 := F.slot_gs_get.lookup
  have k6 := F.slot_gs_set.lookup
  repeat (any_goals (first | assumption | wp_step))
  refine fnT_desc p ?_
  repeat (any_goals (first | assumption | wp_step))
theorem fnT_by {tk : Tok} {Q : Value → Shared → Prop} (p : FnAtT h a) (r : Q (.type "function") ⟨h, g, d, t, os⟩) : wpAny (model prog w) A (getAttrBy (.ref a) (.str "__class__" tk) false) Q E ⟨h, g, d, t, os⟩ := by
  have p' := p
  obtain ⟨o, hx, hc⟩ := p'
  have k1 : (⟨h, g, d, t, os⟩ : Shared).TypeIs (.ref a) "function" := ⟨o, hx, hc⟩
  have k2 := fnT_get.lookup
  have k3 := fnT_get.bind (.ref a)
  repeat (any_goals (first | assumption | wp_step))
  refine fnT_own p ?_
  repeat (any_goals (first | assumption | wp_step))
/-- what f.__class__ is -/
theorem fnT_class {Q : Option Value → Shared → Prop} (p : FnAtT h a) (r : Q (some (.type "function")) ⟨h, g, d, t + 1, os⟩) : wpAny (model prog w) A (getAttr? (.ref a) "__class__") Q E ⟨h, g, d, t, os⟩ := by
  unfold getAttr? getAttrBy?
  repeat (any_goals (first | assumption | with_reducible apply fnT_by p | wp_step))
end
namespace W
theorem kitx_fn {K : Frag} {a : Addr} : KitX K (.ref a) (.type "function") (KitAt a "function") := kitx_of kitAt_ty fun {_ _ _ _ _ s} p k => by
  obtain ⟨h, g, d, t, os⟩ := s
  exact fnT_class p k
end W
end PySem
set_option Elab.async false
set_option linter.all false
set_option maxRecDepth 100000
set_option maxHeartbeats 4000000
namespace SoE
open PySem PySem.Spec PyProof.Rows L2
theorem enum_new {v : Value} {o : Obj} {Z : Heap → Prop} (B : Begins v o Z) :
    Meets (Builtin.«enumerate.__new__» ⟨[.type "enumerate", v], []⟩) (fun _ R s => Z s.heap ∧
      R (.ok (.ret (.ref (s.heap.push o).objs.size))) { s with heap := (s.heap.push o).push { cls := .type "enumerate", data := .fields #[.none, .bool false, .ref s.heap.objs.size, rawInt 0, .none, .none] } }) :=
  .of_wp fun prog w A R s h => by
    obtain ⟨hp, g, d, tk, os⟩ := s
    obtain ⟨z, r⟩ := h
    have hsub := sub_enumerate
    have it0 : ∀ {A' : Around} {E : Value → Shared → Prop} {Q : Value → Shared → Prop}, Q (.ref hp.objs.size) ⟨hp.push o, g, d, tk, os⟩ →
        wpAny (model prog w) A' (pyIter v) Q E ⟨hp, g, d, tk, os⟩ := fun q => B.iter prog w _ _ ⟨hp, g, d, tk, os⟩ _ z q
    wp_walk using it0
    refine wpAny_stack_any fun st => wpAny_pure ?_
    split
    · rename_i c _ _ _ _ _
      cases (c == Value.type "enumerate") <;> (wp_walk using it0; exact ⟨_, rfl, r⟩)
    · wp_walk using it0
      exact ⟨_, rfl, r⟩
theorem enum_call {prog : Program} {w : World} {A : Around} {E : Value → Shared → Prop} {s : Shared} {v : Value} {o : Obj} {Z : Heap → Prop} {Q : Value → Shared → Prop} (B : Begins v o Z) (z : Z s.heap)
    (h : ∀ h', IsEnum h' (s.heap.objs.size + 1) s.heap.objs.size 0 .none → h'.get? s.heap.objs.size = some o → h'.objs.size = s.heap.objs.size + 2 →
      (∀ b u, s.heap.get? b = some u → h'.get? b = some u) → Q (.ref (s.heap.objs.size + 1)) { s with heap := h' }) : wpAny (model prog w) A (call (.type "enumerate") [v]) Q E s := by
  refine callType_new F.called_enumerate (by decide) (F.typeCall_enumerate_1 _) (F.newCall_enumerate_1 _) (fun obj => F.args_object_init_2 obj _) F.entry_enumerate_new (enum_new B) ⟨z, ?_⟩
  have sz : (s.heap.push o).objs.size = s.heap.objs.size + 1 := Heap.size_push ..
  show _ ∧ _
  rw [sz]
  have he : IsEnum ((s.heap.push o).push { cls := .type "enumerate", data := .fields #[.none, .bool false, .ref s.heap.objs.size, rawInt 0, .none, .none] }) (s.heap.objs.size + 1) s.heap.objs.size 0 .none := by
    have q := Heap.get?_push_size (s.heap.push o) (o := { cls := .type "enumerate", data := .fields #[.none, .bool false, .ref s.heap.objs.size, rawInt 0, .none, .none] }) rfl
    rw [sz] at q
    exact q
  exact ⟨⟨_, he, rfl⟩, h _ he (Heap.get?_push_of_some _ (Heap.get?_push_size _ B.free)) (by rw [Heap.size_push, sz]) fun b u x => Heap.get?_push_of_some _ (Heap.get?_push_of_some _ x)⟩
/-- the tuple at a, each item in a new pair with its place -/
def IteT (K : PySem.W.Frag) (a : Addr) : It :=
  ⟨fun i H => ∃ (xs : List V) (x : V), SqT K H a xs ∧ xs[i]? = some x,
    fun i H v H' => ∃ T x, v = .ref T ∧ H T = none ∧ H' = upd H T (.tup [.int (i : Nat), x]) ∧ ∀ xs, SqT K H a xs → xs[i]? = some x,
    fun i H => ∃ xs : List V, SqT K H a xs ∧ xs.length = i⟩
theorem walk_enumT {K : PySem.W.Frag} {a : Addr} {xs : List V} : Walk (IteT K a) xs.length (fun H => SqT K H a xs) (YPair (fun i => some (.int (i : Nat))) (fun i => xs[i]?)) := by
  refine ⟨fun i _ hi q => ⟨xs, xs[i], q, by simp [hi]⟩, fun _ q => ⟨xs, q, rfl⟩, fun i H v H' _ q y => ?_⟩
  obtain ⟨T, x, h1, h2, h3, h4⟩ := y
  exact ⟨T, .int (i : Nat), x, h1, h2, h3, rfl, h4 xs q⟩
theorem turn_enumT {P : Program} {w : World} {K : PySem.W.Frag} {elts : List Expr} {kk : Nat} {tpos : Pos} (a e it : Addr) :
    Turn P w K (.Tuple elts kk tpos) (IteT K a) [e, it] e (fun i h => (∃ old, IsEnum h e it ((i : Nat) : Int) old) ∧ h.IsTupleIter it a i ∧ e ≠ it) where
  mem := by simp
  obj := fun i h st b hb => by
    obtain ⟨⟨old, he⟩, ⟨o, ho, hc, hd⟩, _⟩ := st
    have e' : b = e ∨ b = it := by simpa using hb
    rcases e' with z | z
    · rw [z]; exact ⟨_, he, fun v q => nomatch q⟩
    · rw [z]; exact ⟨o, ho, fun v q => by rw [hd] at q; cases q⟩
  keep := fun i h h' st k => let ⟨⟨old, he⟩, hi, hne⟩ := st; ⟨⟨old, k e (by simp) _ he⟩, hi.at fun o q => k it (by simp) o q, hne⟩
  item := by
    intro X hP hw hK hc i pins s σ H E I hf st hg
    subst hP hw hK
    obtain ⟨⟨old, he⟩, hit, hne⟩ := st
    obtain ⟨xs, x, hq, hx⟩ := hg
    obtain ⟨its, rv, p, hz⟩ := I.tuple hq
    have pt : s.heap.IsTuple a its.toArray := p
    obtain ⟨u, hu, ru⟩ := rv.get hx
    have hel : e < s.heap.objs.size := Heap.lt_size he
    have hil : it < s.heap.objs.size := by obtain ⟨_, q, _⟩ := hit; exact Heap.lt_size q
    have nai : a ≠ it := fun z => by
      obtain ⟨o1, q1, c1, _⟩ := hit
      obtain ⟨o2, q2, c2, _⟩ := pt
      rw [z, q1] at q2
      cases q2
      rw [c1] at c2
      exact absurd c2 (by simp)
    have nae : e ≠ a := fun z => by
      obtain ⟨o2, q2, c2, _⟩ := pt
      rw [← z] at q2
      have he' : s.heap.get? e = some _ := he
      rw [he'] at q2
      cases q2
      exact absurd c2 (by simp)
    have hlt : i < its.toArray.size := by
      have q := (List.getElem?_eq_some_iff.mp hu).1
      simpa using q
    refine wpAny_pyNext_enum_itemC (Draws.tuple (A := X.A.in1) (I.ok.hd hc) it a nai its.toArray) he ⟨hit, pt⟩ hlt hne (by simp [hne, nae]) fun y h' tk hPy ho hst' hT hsz hk => ?_
    have hy : y = u := by
      have q : its.toArray[i]? = some u := by simpa using hu
      have q2 : its.toArray[i]? = some y := hPy
      rw [q] at q2
      exact (Option.some.inj q2).symm
    subst hy
    refine ⟨_, rfl, wpAny_letOwnedTupleGo_enum (s := { s with heap := h', toks := tk + 1 }) ho fun h'' he' sb => ?_⟩
    have hT2 : h''.get? s.heap.objs.size = some { cls := .type "tuple", data := .seq #[.int i tk, y] } := (sb.2 _ (Nat.ne_of_gt hel)).trans hT
    have new : ObjOk X.prog X.w (upd H s.heap.objs.size (.tup [.int (i : Nat), x])) h'' s.heap.objs.size (.tup [.int (i : Nat), x]) :=
      ⟨by show 2 ≤ sizeLine; decide, [.int i tk, y], .cons ⟨_, rfl⟩ (.cons ru .nil), ⟨_, hT2, rfl, _, rfl⟩⟩
    have I1 : Inv X pins σ (upd H s.heap.objs.size (.tup [.int (i : Nat), x])) { s with heap := h'', toks := tk + 1 } :=
      I.turnedNew (ch := [e, it]) (fun b ob hb q => (sb.2 b (fun z => hb (by simp [z]))).trans (hk b ob (fun z => hb (by simp [z])) (fun z => hb (by simp [z])) q)) hf (Nat.le_refl _) new
    refine ⟨.ref s.heap.objs.size, _, I1, rfl, ⟨_, x, rfl, I.hok.fresh (Nat.le_refl _), rfl, fun ys hy => by rw [I.tuple_inj hy hq]; exact hx⟩, ⟨⟨y, ?_⟩, hst'.1.at fun o q => (sb.2 it (Ne.symm hne)).trans q, hne⟩, fun b hb => ?_⟩
    · have e1 : ((i + 1 : Nat) : Int) = (i : Int) + 1 := by omega
      rw [e1]; exact he'
    · have hb' : b < s.heap.objs.size := by
        have e' : b = e ∨ b = it := by simpa using hb
        rcases e' with z | z
        · rw [z]; exact hel
        · rw [z]; exact hil
      rw [upd_ne (Nat.ne_of_lt hb')]
      exact (hf b hb).1
  done := by
    intro X hP hw hK hc i pins s σ H E I hf st hg
    subst hP hw hK
    obtain ⟨⟨old, he⟩, hit, hne⟩ := st
    obtain ⟨xs, hq, hx⟩ := hg
    obtain ⟨its, rv, p, hz⟩ := I.tuple hq
    have pt : s.heap.IsTuple a its.toArray := p
    have nai : a ≠ it := fun z => by
      obtain ⟨o1, q1, c1, _⟩ := hit
      obtain ⟨o2, q2, c2, _⟩ := pt
      rw [z, q1] at q2
      cases q2
      rw [c1] at c2
      exact absurd c2 (by simp)
    obtain ⟨f0, f1, f2, f3, f4, f5⟩ := hf it (by simp)
    have hl := rv.length
    have en : i = its.toArray.size := by
      rw [List.size_toArray]
      omega
    subst en
    exact wpAny_pyNext_enum_endD (Draws.tuple (A := X.A.in1) (I.ok.hd hc) it a nai its.toArray) he ⟨hit, pt⟩ fun h' eb => ⟨rfl, I.turned (t' := s.toks) (fun b o hb q => eb b o hb q) f0 f1 f3 f4 f5⟩
  self := fun A i s Q E st h => let ⟨⟨_, he⟩, _⟩ := st; wpAny_pyIter_enum he h
end SoE
set_option Elab.async false
set_option linter.all false
set_option maxRecDepth 100000
set_option maxHeartbeats 4000000
namespace SoM
open PySem PySem.Spec PyProof.Rows L2
end SoM
set_option Elab.async false
set_option linter.all false
set_option maxRecDepth 100000
set_option maxHeartbeats 4000000
namespace Da
open PySem PySem.Spec PyProof.Rows L2 So Dl
theorem pe_weak {X : Cx} {e : Expr} {t t' : TE} (h : PE X e t) (i : ∀ σ H Q, t' σ H Q → t σ H Q) : PE X e t' := ⟨fun pins s σ H Q I q => h.run pins s σ H Q I (i σ H Q q)⟩
theorem pt_weak {X : Cx} {e : Expr} {t t' : TT} (h : PT X e t) (i : ∀ σ H Q, t' σ H Q → t σ H Q) : PT X e t' := ⟨fun pins s σ H Q I q => h.run pins s σ H Q I (i σ H Q q)⟩
theorem pw_weak {X : Cx} {e : Expr} {t t' : TT} (h : PW X e t) (i : ∀ σ H Q, t' σ H Q → t σ H Q) : PW X e t' := ⟨fun wh pins s σ H Q I q => h.run wh pins s σ H Q I (i σ H Q q)⟩
theorem pa_weak {X : Cx} {es : List Expr} {t t' : TA} (h : PA X es t) (i : ∀ σ H Q, t' σ H Q → t σ H Q) : PA X es t' := ⟨fun pos pins s σ H Q I q => h.run pos pins s σ H Q I (i σ H Q q)⟩
theorem ps_weak {X : Cx} {e : Stmt} {t t' : TS} (h : PS X e t) (i : ∀ D σ H, t' D σ H → t D σ H) : PS X e t' := ⟨fun pins s σ H D I q => h.run pins s σ H D I (i D σ H q)⟩
theorem pss_weak {X : Cx} {e : List Stmt} {t t' : TS} (h : PSs X e t) (i : ∀ D σ H, t' D σ H → t D σ H) : PSs X e t' := ⟨fun pins s σ H D I q => h.run pins s σ H D I (i D σ H q)⟩
def Sq (K : PySem.W.Frag) (H : Hp) (a : Addr) (xs : List V) : Prop := SqT K H a xs ∨ SqL K H a xs
theorem Sq.ext {K : PySem.W.Frag} {H H' : Hp} {a : Addr} {xs : List V} (s : LamX.ExtN H H') (h : Sq K H a xs) : Sq K H' a xs := h.elim (fun h => .inl (sqt_ext s h)) (fun h => .inr (sql_ext s h))
def tnD : PyData → String
  | .none => "NoneType"
  | .bool _ => "bool"
  | .int _ => "int"
  | .str _ => "str"
  | .list _ => "list"
  | .tuple _ => "tuple"
  | .dict _ => "dict"
/-- no dict, no function -/
def nd : PyData → Bool
  | .dict _ => false
  | _ => true
def isSq : PyData → Bool
  | .list _ => true
  | .tuple _ => true
  | _ => false
def itD : PyData → List PyData
  | .list xs => xs
  | .tuple xs => xs
  | _ => []
def isStr : PyData → Bool
  | .str _ => true
  | _ => false
def intB : PyData → Bool
  | .int _ => true
  | .bool _ => true
  | _ => false
def blB : PyData → Bool
  | .bool _ => true
  | _ => false
mutual
/-- no text, no row is longer than this -/
def fitD : PyData → Bool
  | .str z => decide (z.length ≤ 100000)
  | .list xs => decide (xs.length ≤ 100000) && fitA xs
  | .tuple xs => decide (xs.length ≤ 100000) && fitA xs
  | .dict _ => false
  | _ => true
def fitA : List PyData → Bool
  | [] => true
  | x :: xs => fitD x && fitA xs
end
/-- data as it is handed to the program -/
structure OkD (D : PyData) : Prop where
  fit : fitD D = true
  lay : D.canLay0 = true
  dep : D.depth ≤ 50
theorem OkD.sh {D : PyData} (h : OkD D) : SeqAt.shaped D = true := by
  unfold SeqAt.shaped
  rw [h.lay, decide_eq_true (Nat.le_trans h.dep (by decide))]
  rfl
theorem fit_mem : ∀ {xs : List PyData}, fitA xs = true → ∀ x ∈ xs, fitD x = true
  | y :: ys, h, x, hx => by
    unfold fitA at h
    rw [Bool.and_eq_true] at h
    rcases List.mem_cons.mp hx with rfl | hx
    · exact h.1
    · exact fit_mem h.2 x hx
theorem lay_mem : ∀ {xs : List PyData}, PyData.canLayAll0 xs = true → ∀ x ∈ xs, x.canLay0 = true
  | y :: ys, h, x, hx => by
    unfold PyData.canLayAll0 at h
    rw [Bool.and_eq_true] at h
    rcases List.mem_cons.mp hx with rfl | hx
    · exact h.1
    · exact lay_mem h.2 x hx
theorem dep_mem : ∀ {xs : List PyData}, ∀ x ∈ xs, x.depth ≤ PyData.depthAll xs
  | y :: ys, x, hx => by
    simp only [PyData.depthAll]
    rcases List.mem_cons.mp hx with rfl | hx
    · exact Nat.le_max_left _ _
    · exact Nat.le_trans (dep_mem x hx) (Nat.le_max_right _ _)
theorem okD_it {D : PyData} (h : OkD D) : ∀ d ∈ itD D, OkD d := by
  intro d hd
  cases D with
  | list xs =>
    have h1 := h.fit
    have h2 := h.lay
    have h3 := h.dep
    simp only [fitD, Bool.and_eq_true] at h1
    simp only [PyData.canLay0] at h2
    simp only [PyData.depth] at h3
    exact ⟨fit_mem h1.2 d hd, lay_mem h2 d hd, by have := dep_mem (xs := xs) d hd; omega⟩
  | tuple xs =>
    have h1 := h.fit
    have h2 := h.lay
    have h3 := h.dep
    simp only [fitD, Bool.and_eq_true] at h1
    simp only [PyData.canLay0] at h2
    simp only [PyData.depth] at h3
    exact ⟨fit_mem h1.2 d hd, lay_mem h2 d hd, by have := dep_mem (xs := xs) d hd; omega⟩
  | none => exact nomatch hd
  | bool b => exact nomatch hd
  | int b => exact nomatch hd
  | str b => exact nomatch hd
  | dict b => exact nomatch hd
theorem okD_len {D : PyData} (h : OkD D) : (itD D).length ≤ 100000 := by
  have h1 := h.fit
  cases D with
  | list xs =>
    simp only [fitD, Bool.and_eq_true, decide_eq_true_eq] at h1
    exact h1.1
  | tuple xs =>
    simp only [fitD, Bool.and_eq_true, decide_eq_true_eq] at h1
    exact h1.1
  | none => exact Nat.zero_le _
  | bool b => exact Nat.zero_le _
  | int b => exact Nat.zero_le _
  | str b => exact Nat.zero_le _
  | dict b => exact Nat.zero_le _
theorem okD_str {z : Str} (h : OkD (.str z)) : z.length ≤ 100000 := by
  have h1 := h.fit
  simp only [fitD, decide_eq_true_eq] at h1
  exact h1
def isS : PyData → Str → Bool
  | .str y, z => y == z
  | _, _ => false
theorem eqv_str (d : PyData) (z : Str) : PyData.eqv d (.str z) = isS d z := by
  cases d <;> rfl
theorem isS_iff {d : PyData} {z : Str} : isS d z = true ↔ d = .str z := by
  cases d with
  | str y => exact ⟨fun h => congrArg PyData.str (beq_iff_eq.mp h), fun h => beq_iff_eq.mpr (PyData.str.inj h)⟩
  | _ => exact ⟨fun h => (nomatch h), fun h => (nomatch h)⟩
section
variable {K : Zw} {H H' : Hp} {v : V} {D : PyData}
theorem tyT {p : Addr} {xs : List V} (h : SqT K.K H p xs) : TyX K.K H (.ref p) (.type "tuple") := by
  rcases h with (h | ⟨o, h⟩) | ⟨o, its, n, h, c, _⟩
  · exact .base (.tup h)
  · exact .fTuple h
  · exact .kTuple h c
theorem tyLL {p : Addr} {xs : List V} (h : SqL K.K H p xs) : TyX K.K H (.ref p) (.type "list") := by
  rcases h with (h | ⟨o, h⟩) | ⟨o, its, n, h, c, _⟩
  · exact .base (.lst h)
  · exact .base (.frz h)
  · exact .kList h c
theorem tyD (n : nd D = true) (h : Dw K H v D) : TyX K.K H v (.type (tnD D)) := by
  cases h with
  | non => exact .base .non
  | bl b => exact .base (.bl b)
  | int b => exact .base (.int b)
  | str b => exact .base (.str b)
  | lst h _ => exact tyLL h
  | tup h _ => exact tyT h
  | dic _ _ => exact nomatch n
  | clo _ _ => exact nomatch n
theorem dp_seq (h : Dw K H v D) (e : isSq D = true) : ∃ a xs, v = .ref a ∧ Sq K.K H a xs ∧ DwAll K H xs (itD D) := by
  cases h with
  | lst h g => exact ⟨_, _, rfl, .inr h, g⟩
  | tup h g => exact ⟨_, _, rfl, .inl h, g⟩
  | non => exact nomatch e
  | bl b => exact nomatch e
  | int b => exact nomatch e
  | str b => exact nomatch e
  | dic _ _ => exact nomatch e
  | clo _ _ => exact nomatch e
theorem kit_sq (n : nd D = true) : PySem.W.kitAny K.K (.type (tnD D)) [.type "list", .type "tuple"] = some (isSq D) := by
  have no : ∀ {t : String}, kitB t "list" = some false → kitB t "tuple" = some false → PySem.W.kitAny K.K (.type t) [.type "list", .type "tuple"] = some false := fun a b =>
    kitAny_cons (kit_ty a) (fun _ => kitAny_cons (kit_ty b) (fun _ => rfl) (fun q => nomatch q)) (fun q => nomatch q)
  cases D with
  | list _ => exact kitAny_cons (b := true) (kit_ty (show kitB "list" "list" = some true by decide +kernel)) (fun q => nomatch q) (fun _ => rfl)
  | tuple _ => exact kitAny_cons (b := false) (kit_ty (show kitB "tuple" "list" = some false by decide +kernel)) (fun _ => kitAny_cons (b := true) (kit_ty (show kitB "tuple" "tuple" = some true by decide +kernel)) (fun q => nomatch q) fun _ => rfl) (fun q => nomatch q)
  | none => exact no (t := "NoneType") (by decide +kernel) (by decide +kernel)
  | bool b => exact no (t := "bool") (by decide +kernel) (by decide +kernel)
  | int b => exact no (t := "int") (by decide +kernel) (by decide +kernel)
  | str b => exact no (t := "str") (by decide +kernel) (by decide +kernel)
  | dict b => exact nomatch n
theorem kit_str (n : nd D = true) : PySem.W.kitOne K.K (.type (tnD D)) (.type "str") = some (isStr D) := by
  cases D with
  | none => exact kit_ty (show kitB "NoneType" "str" = some false by decide +kernel)
  | bool _ => exact kit_ty (show kitB "bool" "str" = some false by decide +kernel)
  | int _ => exact kit_ty (show kitB "int" "str" = some false by decide +kernel)
  | str _ => exact kit_ty (show kitB "str" "str" = some true by decide +kernel)
  | list _ => exact kit_ty (show kitB "list" "str" = some false by decide +kernel)
  | tuple _ => exact kit_ty (show kitB "tuple" "str" = some false by decide +kernel)
  | dict b => exact nomatch n
theorem kit_int (n : nd D = true) : PySem.W.kitOne K.K (.type (tnD D)) (.type "int") = some (intB D) := by
  cases D with
  | none => exact kit_ty (show kitB "NoneType" "int" = some false by decide +kernel)
  | bool _ => exact kit_ty (show kitB "bool" "int" = some true by decide +kernel)
  | int _ => exact kit_ty (show kitB "int" "int" = some true by decide +kernel)
  | str _ => exact kit_ty (show kitB "str" "int" = some false by decide +kernel)
  | list _ => exact kit_ty (show kitB "list" "int" = some false by decide +kernel)
  | tuple _ => exact kit_ty (show kitB "tuple" "int" = some false by decide +kernel)
  | dict b => exact nomatch n
theorem kit_bool (n : nd D = true) : PySem.W.kitOne K.K (.type (tnD D)) (.type "bool") = some (blB D) := by
  cases D with
  | none => exact kit_ty (show kitB "NoneType" "bool" = some false by decide +kernel)
  | bool _ => exact kit_ty (show kitB "bool" "bool" = some true by decide +kernel)
  | int _ => exact kit_ty (show kitB "int" "bool" = some false by decide +kernel)
  | str _ => exact kit_ty (show kitB "str" "bool" = some false by decide +kernel)
  | list _ => exact kit_ty (show kitB "list" "bool" = some false by decide +kernel)
  | tuple _ => exact kit_ty (show kitB "tuple" "bool" = some false by decide +kernel)
  | dict b => exact nomatch n
theorem dpa_len : ∀ {xs : List V} {ds : List PyData}, DwAll K H xs ds → xs.length = ds.length
  | _, _, .nil => rfl
  | _, _, .cons _ h => congrArg Nat.succ (dpa_len h)
theorem dpa_at : ∀ {xs : List V} {ds : List PyData} {i : Nat} {x : V}, DwAll K H xs ds → xs[i]? = some x → ∃ d, ds[i]? = some d ∧ Dw K H x d
  | _, _, _, _, .nil, e => nomatch e
  | _, _, 0, _, .cons h _, e => by
    cases e
    exact ⟨_, rfl, h⟩
  | _, _, i + 1, x, .cons _ h, e => by
    obtain ⟨d, h1, h2⟩ := dpa_at (i := i) h (by simpa using e)
    exact ⟨d, by simpa using h1, h2⟩
theorem dpa_at' : ∀ {xs : List V} {ds : List PyData} {i : Nat} {d : PyData}, DwAll K H xs ds → ds[i]? = some d → ∃ x, xs[i]? = some x ∧ Dw K H x d
  | _, _, _, _, .nil, e => nomatch e
  | _, _, 0, _, .cons h _, e => by
    cases e
    exact ⟨_, rfl, h⟩
  | _, _, i + 1, x, .cons _ h, e => by
    obtain ⟨d, h1, h2⟩ := dpa_at' (i := i) h (by simpa using e)
    exact ⟨d, by simpa using h1, h2⟩
theorem dpa_app : ∀ {xs ys : List V} {ds es : List PyData}, DwAll K H xs ds → DwAll K H ys es → DwAll K H (xs ++ ys) (ds ++ es)
  | _, _, _, _, .nil, h => h
  | _, _, _, _, .cons a b, h => .cons a (dpa_app b h)
theorem Dw.xt (x : ∀ b o, H b = some o → H' b = some o) (h : Dw K H v D) : Dw K H' v D := h.ext (LamX.ExtN.of x)
theorem DwAll.xt {vs : List V} {Ds : List PyData} (x : ∀ b o, H b = some o → H' b = some o) (h : DwAll K H vs Ds) : DwAll K H' vs Ds := h.ext (LamX.ExtN.of x)
end
/-- a value's type; dicts by their entries and functions, too -/
def TyY (K : PySem.W.Frag) (H : Hp) (x : V) (t : Value) : Prop := TyX K H x t ∨ (∃ a es, x = .ref a ∧ H a = some (DicO a es) ∧ t = .type "dict") ∨ ∃ a, x = .ref a ∧ (∃ φ : Heap → Prop, H a = some (.ext φ) ∧ ∀ h, φ h → ∃ o, h.get? a = some o ∧ o.cls = .type "function") ∧ t = .type "function"
theorem kit_ofY {X : Cx} {pins : List (Addr × Obj)} {σ : L2.St} {H : Hp} {s : Shared} {x : V} {u t : Value} (I : Inv X pins σ H s) (rx : RelV x u) (ty : TyY X.K H x t) : ∃ P : Heap → Prop, PySem.W.KitX X.K u t P ∧ P s.heap ∧ u ≠ .builtin "__main__.__loader__#opaque" := by
  rcases ty with h | ⟨a, es, rfl, e, rfl⟩ | ⟨a, rfl, ⟨φ, e, k⟩, rfl⟩
  · exact kit_of I rx h
  · cases (show u = Value.ref a from rx)
    obtain ⟨⟨ep, o, h1, h2, _⟩, _⟩ := I.hok a _ e
    exact ⟨_, PySem.W.kitx_dict, ⟨o, h1, h2.1⟩, fun z => nomatch z⟩
  · cases (show u = Value.ref a from rx)
    obtain ⟨z, _⟩ := I.hok a _ e
    exact ⟨_, PySem.W.kitx_fn, k _ z, fun z => nomatch z⟩
def rIsY (K : PySem.W.Frag) : List V → Hp → VK → Prop := fun xs H Q => ∃ (x c : V) (t u : Value) (b : Bool), xs = [x, c] ∧ ClsV c u ∧ TyY K H x t ∧ PySem.W.kitOne K t u = some b ∧ Q (.bl b) H
def rIsYT (K : PySem.W.Frag) : List V → Hp → VK → Prop := fun xs H Q => ∃ (x : V) (tp : Addr) (cs : List V) (t : Value) (us : List Value) (b : Bool), xs = [x, .ref tp] ∧ H tp = some (.tup cs) ∧ Paired ClsV cs us ∧ TyY K H x t ∧ PySem.W.kitAny K t us = some b ∧ Q (.bl b) H
theorem call_isY {X : Cx} : CallR X (.builtin "isinstance") (rIsY X.K) := by
  intro pins s σ H xs us Q I r h
  obtain ⟨x, c, t, u, b, rfl, cv, ty, e, q⟩ := h
  match us, r with
  | [w1, w2], .cons r1 (.cons r2 .nil) =>
    cases cv.eq r2
    obtain ⟨P, kx, p, ne⟩ := kit_ofY I r1 ty
    exact PySem.W.kia_one kx I.kIn p e ne fun tk => ⟨.bl b, H, I.tok tk, rfl, q⟩
theorem call_isYT {X : Cx} : CallR X (.builtin "isinstance") (rIsYT X.K) := by
  intro pins s σ H xs us Q I r h
  obtain ⟨x, tp, cs, t, ws, b, rfl, ht, cv, ty, e, q⟩ := h
  match us, r with
  | [w1, w2], .cons r1 (.cons r2 .nil) =>
    obtain rfl : w2 = Value.ref tp := r2
    obtain ⟨P, kx, p, ne⟩ := kit_ofY I r1 ty
    obtain ⟨_, its, rv, o, g1, g2, n, g3⟩ := (show ObjOk X.prog X.w H s.heap tp (.tup cs) from I.hok tp _ ht)
    cases ClsV.all cv rv
    obtain ⟨oc, od, dt, sl⟩ := o
    dsimp only at g2 g3
    subst g2 g3
    exact PySem.W.kia_tup kx I.kIn p g1 e ne fun tk => ⟨.bl b, H, I.tok tk, rfl, q⟩
/-- a kind of value: which data is of it; no dict, no function -/
structure KitF (T : String) (kf : PyData → Bool) : Prop where
  nd : ∀ {K : Zw} {D : PyData}, nd D = true → PySem.W.kitOne K.K (.type (tnD D)) (.type T) = some (kf D)
  dic : ∀ K : PySem.W.Frag, PySem.W.kitOne K (.type "dict") (.type T) = some false
  fn : ∀ K : PySem.W.Frag, PySem.W.kitOne K (.type "function") (.type T) = some false
  no : ∀ kvs, kf (.dict kvs) = false
theorem kitf_str : KitF "str" isStr := ⟨fun h => kit_str h, fun K => kit_ty (by decide +kernel), fun K => kit_ty (by decide +kernel), fun _ => rfl⟩
theorem kitf_int : KitF "int" intB := ⟨fun h => kit_int h, fun K => kit_ty (by decide +kernel), fun K => kit_ty (by decide +kernel), fun _ => rfl⟩
theorem kitf_bool : KitF "bool" blB := ⟨fun h => kit_bool h, fun K => kit_ty (by decide +kernel), fun K => kit_ty (by decide +kernel), fun _ => rfl⟩
/-- the type of data, and what it is not -/
theorem tyAll {K : Zw} {H : Hp} {v : V} {D : PyData} {T : String} {kf : PyData → Bool} (k : KitF T kf) (h : Dw K H v D) : ∃ t, TyY K.K H v t ∧ PySem.W.kitOne K.K t (.type T) = some (kf D) := by
  cases h with
  | dic e q => exact ⟨_, .inr (.inl ⟨_, _, rfl, e, rfl⟩), by rw [k.no]; exact k.dic _⟩
  | clo c q =>
    obtain ⟨sc, cl, cc, _, e, _⟩ := c.ex
    obtain ⟨φ, e1, e2⟩ := funO_cls sc _ (sc.nf cl cc)
    rw [e1] at e
    exact ⟨_, .inr (.inr ⟨_, rfl, ⟨φ, e, e2⟩, rfl⟩), by unfold cloD; rw [k.no]; exact k.fn _⟩
  | non => exact ⟨_, .inl (tyD rfl .non), k.nd (K := K) rfl⟩
  | bl b => exact ⟨_, .inl (tyD rfl (.bl b)), k.nd (K := K) rfl⟩
  | int b => exact ⟨_, .inl (tyD rfl (.int b)), k.nd (K := K) rfl⟩
  | str b => exact ⟨_, .inl (tyD rfl (.str b)), k.nd (K := K) rfl⟩
  | lst y z => exact ⟨_, .inl (tyD rfl (.lst y z)), k.nd (K := K) rfl⟩
  | tup y z => exact ⟨_, .inl (tyD rfl (.tup y z)), k.nd (K := K) rfl⟩
theorem tySeq {K : Zw} {H : Hp} {v : V} {D : PyData} (h : Dw K H v D) : ∃ t, TyY K.K H v t ∧ PySem.W.kitAny K.K t [.type "list", .type "tuple"] = some (isSq D) := by
  have no : ∀ {t : String}, kitB t "list" = some false → kitB t "tuple" = some false → PySem.W.kitAny K.K (.type t) [.type "list", .type "tuple"] = some false := fun a b =>
    kitAny_cons (kit_ty a) (fun _ => kitAny_cons (kit_ty b) (fun _ => rfl) (fun q => nomatch q)) (fun q => nomatch q)
  by_cases n : nd D = true
  · exact ⟨_, .inl (tyD n h), kit_sq (K := K) n⟩
  · cases h with
    | dic e q => exact ⟨_, .inr (.inl ⟨_, _, rfl, e, rfl⟩), no (t := "dict") (by decide +kernel) (by decide +kernel)⟩
    | clo c q =>
      obtain ⟨sc, cl, cc, _, e, _⟩ := c.ex
      obtain ⟨φ, e1, e2⟩ := funO_cls sc _ (sc.nf cl cc)
      rw [e1] at e
      exact ⟨_, .inr (.inr ⟨_, rfl, ⟨φ, e, e2⟩, rfl⟩), no (t := "function") (by decide +kernel) (by decide +kernel)⟩
    | _ => exact absurd rfl n
end Da
set_option Elab.async false
set_option linter.all false
set_option maxRecDepth 100000
set_option maxHeartbeats 4000000
namespace Dl
open PySem PySem.Spec PyProof.Rows L2 So Da
/-- an answer, or an error: its class, what it bears -/
inductive Out where
  | told (D : PyData)
  | err (C : Addr) (D : PyData)
/-- what a call comes to, by its arguments: what is wished of its outcome -/
abbrev LW := List PyData → (Out → Prop) → Prop
/-- what a captured name holds: data, a function and the level of its calls -/
inductive Cp where
  | dat (D : PyData)
  | fn (k : Nat) (W : LW)
  | bx
/-- .. by what its captured names hold -/
abbrev LW2 := List Cp → LW
/-- a function: whatever it leans on stands for good; or it leans on the cells of slots of the running def -/
inductive Fk where
  | fn (k : Nat) (W : LW)
  | lam (ca : Nat → Addr) (js : List Nat) (W : LW2)
  | bx
/-- what an owned object holds -/
inductive Oc where
  | lst (ds : List PyData)
  | box
  | dic (kvs : List (PyData × PyData))
  | lams (ca : Nat → Addr) (ls : List (List Nat × LW2))
/-- a slot: nothing known, data that stands for good, an object of one's own, an error that was caught, a function -/
inductive Lc where
  | un
  | sh (D : PyData)
  | ob (a : Addr) (c : Oc)
  | exc (a C d : Addr) (D : PyData)
  | ask (O : Fk)
abbrev Sto := List Lc
/-- an error's own dict -/
def Xd (K : Zw) (C : Addr) (H : Hp) (d : Addr) (v : V) : Prop := H d = some (.xd [(K.T.an C, v)])
/-- all that G knows stands in H -/
def Sub (G H : Hp) : Prop := ∀ b o, G b = some o → H b = some o
/-- a tuple of texts stands in the ground only where its object is known, and has no attributes of its own -/
def txV (xs : List V) : Bool := !xs.isEmpty && xs.all fun x => match x with
  | .str _ => true
  | _ => false
def NTo : HO → Prop
  | .tup xs => txV xs = false
  | .frz ob (.tup _) => ob.dict = none
  | _ => True
def NT (G : Hp) : Prop := ∀ p o, G p = some o → NTo o
theorem NT.upd {G : Hp} {p : Addr} {o : HO} (h : NT G) (k : NTo o) : NT (upd G p o) := fun b u e => by
  by_cases q : b = p
  · rw [q, upd_same] at e
    cases e
    exact k
  · rw [upd_ne q] at e
    exact h b u e
/-- what is wished behind a call -/
def spAsk (K : Zw) : Out → Hp → VK → XK → Prop
  | .told D, G, Q, _ => ∀ v G' H', Ex K.T G G' → Sub G' H' → NT G' → Dw K G' v D → Q v H'
  | .err C D, G, _, E => ∀ d v G' H', Ex K.T G G' → Sub G' H' → NT G' → Xd K C G' d v → Dw K G' v D → E (.ref C) (some d) H'
/-- lambdas stand at this level -/
def aL : Nat := 60
def FnT (K : PySem.W.Frag) (G : Hp) (f : Addr) : Prop := (∃ φ : Heap → Prop, G f = some (.ext φ) ∧ ∀ h, φ h → PySem.W.FnAt f h) ∨ ∀ h, K.In h → PySem.W.FnAt f h
theorem FnT.ext {K : PySem.W.Frag} {G G' : Hp} {f : Addr} (x : LamX.ExtN G G') (h : FnT K G f) : FnT K G' f := by
  refine h.imp_left fun h => ?_
  obtain ⟨φ, e, q⟩ := h
  exact ⟨φ, x _ _ e (fun _ z => nomatch z), q⟩
/-- a function at f, wherever it is called -/
structure AskOk (K : Zw) (G : Hp) (f : Addr) (k : Nat) (W : LW) : Prop where
  fn : FnT K.K G f
  run : ∀ (A : Around) (outer : List Env) (s : Shared) (H G1 : Hp) (us : List Value) (vs : List V) (Ds : List PyData) (R : Out → Prop) (Q : VK) (E : XK), Room k A → A.guards = some [] → Env0 K.Pg K.w K.K K.mg K.base A outer s H → Ex K.T G G1 → Sub G1 H → NT G1 → Vals vs us → DwAll K G1 vs Ds → W Ds R → (∀ o, R o → spAsk K o G1 Q E) →
    codeAny (model K.Pg K.w) A (.call (.ref f) ⟨us, []⟩) (CR (L2.CX K.Pg K.w) outer K.Pg K.w H s Q E) s
theorem AskOk.mono {K : Zw} {G G' : Hp} {f : Addr} {k : Nat} {W : LW} (s : Ex K.T G G') (h : AskOk K G f k W) : AskOk K G' f k W := ⟨h.fn.ext s.1, fun A outer s1 H G1 us vs Ds R Q E hr hg e0 x sub nt r d q k => h.run A outer s1 H G1 us vs Ds R Q E hr hg e0 (s.trans x) sub nt r d q k⟩
/-- two numbers, whichever they are -/
def BxP (b : Addr) (h : Heap) : Prop := ∃ (g s : Int) (t u : Tok) (n : Nat), h.get? b = some { cls := .type "list", data := .seq #[.int g t, .int s u] n } ∧ 0 ≤ g ∧ 0 ≤ s ∧ s ≤ 2147483648
def BxO (b : Addr) : HO := .ext (BxP b)
def CpOk (K : Zw) (G : Hp) (v : V) : Cp → Prop
  | .dat D => Dw K G v D
  | .fn k W => ∃ f, v = .ref f ∧ AskOk K G f k W
  | .bx => ∃ b, v = .ref b ∧ G b = some (BxO b)
theorem CpOk.mono {K : Zw} {G G' : Hp} {v : V} (s : Ex K.T G G') : ∀ {c : Cp}, CpOk K G v c → CpOk K G' v c
  | .dat _, h => Dw.mono s h
  | .fn _ _, ⟨f, e, h⟩ => ⟨f, e, h.mono s⟩
  | .bx, ⟨b, e, h⟩ => ⟨b, e, s.1 _ _ h (fun _ z => nomatch z)⟩
/-- what untracked cells hold -/
def CellsU (K : Zw) (G : Hp) (h : Heap) (H : Hp) : List Addr → List Cp → Prop
  | [], [] => True
  | a :: as, c :: cs => (H a = none ∧ ∃ v u, h.IsCell a (some u) ∧ RelV v u ∧ CpOk K G v c) ∧ CellsU K G h H as cs
  | _, _ => False
/-- .. by what the cells at as hold -/
structure LamOk (K : Zw) (G : Hp) (f : Addr) (k : Nat) (as : List Addr) (W : LW2) : Prop where
  fn : FnT K.K G f
  run : ∀ (A : Around) (outer : List Env) (s : Shared) (H G1 : Hp) (us : List Value) (vs : List V) (Ds : List PyData) (cs : List Cp) (R : Out → Prop) (Q : VK) (E : XK), Room k A → A.guards = some [] → Env0 K.Pg K.w K.K K.mg K.base A outer s H → Ex K.T G G1 → Sub G1 H → NT G1 → CellsU K G1 s.heap H as cs → Vals vs us → DwAll K G1 vs Ds → W cs Ds R → (∀ o, R o → spAsk K o G1 Q E) →
    codeAny (model K.Pg K.w) A (.call (.ref f) ⟨us, []⟩) (CR (L2.CX K.Pg K.w) outer K.Pg K.w H s Q E) s
theorem LamOk.mono {K : Zw} {G G' : Hp} {f : Addr} {k : Nat} {as : List Addr} {W : LW2} (s : Ex K.T G G') (h : LamOk K G f k as W) : LamOk K G' f k as W := ⟨h.fn.ext s.1, fun A outer s1 H G1 us vs Ds cs R Q E hr hg e0 x sub nt c r d q kk => h.run A outer s1 H G1 us vs Ds cs R Q E hr hg e0 (s.trans x) sub nt c r d q kk⟩
def FkOk (K : Zw) (G : Hp) (f : Addr) : Fk → Prop
  | .fn k W => AskOk K G f k W
  | .lam ca js W => LamOk K G f aL (js.map ca) W
  | .bx => G f = some (BxO f)
theorem FkOk.mono {K : Zw} {G G' : Hp} {f : Addr} (s : Ex K.T G G') : ∀ {O : Fk}, FkOk K G f O → FkOk K G' f O
  | .fn _ _, h => AskOk.mono s h
  | .lam _ _ _, h => LamOk.mono s h
  | .bx, h => s.1 _ _ h (fun _ z => nomatch z)
theorem FkOk.fnT {K : Zw} {G : Hp} {f : Addr} {k : Nat} {W : LW} (h : FkOk K G f (.fn k W)) : FnT K.K G f := AskOk.fn h
def OcOk (K : Zw) (G : Hp) (a : Addr) : Oc → HO → Prop
  | .lst ds, o => ∃ vs, o = .lst vs ∧ DwAll K G vs ds
  | .box, o => ∃ g s : Int, o = .lst [.int g, .int s] ∧ 0 ≤ g ∧ 0 ≤ s ∧ s ≤ 2147483648
  | .dic kvs, o => ∃ es, o = DicO a es ∧ DwKV K G es.toList kvs ∧ kvs.length ≤ sizeLine
  | .lams ca ls, o => ∃ vs, o = .lst vs ∧ Paired (fun v (l : List Nat × LW2) => ∃ f, v = V.ref f ∧ LamOk K G f aL (l.1.map ca) l.2) vs ls
theorem paired_imp {α β : Type} {p q : α → β → Prop} (h : ∀ a b, p a b → q a b) : ∀ {l : List α} {m : List β}, Paired p l m → Paired q l m
  | _, _, .nil => .nil
  | _, _, .cons a b => .cons (h _ _ a) (paired_imp h b)
theorem OcOk.mono {K : Zw} {G G' : Hp} {a : Addr} (s : Ex K.T G G') : ∀ {c : Oc} {o : HO}, OcOk K G a c o → OcOk K G' a c o
  | .lst _, _, ⟨vs, e, d⟩ => ⟨vs, e, d.mono s⟩
  | .box, _, h => h
  | .dic _, _, ⟨es, e, d, l⟩ => ⟨es, e, d.ext s.1, l⟩
  | .lams _ _, _, ⟨vs, e, d⟩ => ⟨vs, e, paired_imp (fun _ _ ⟨f, e, m⟩ => ⟨f, e, m.mono s⟩) d⟩
theorem OcOk.lcl {K : Zw} {G : Hp} {a : Addr} : ∀ {c : Oc} {o : HO}, OcOk K G a c o → Lcl o
  | .lst _, _, ⟨vs, e, _⟩ => e ▸ lcl_lst
  | .box, _, ⟨_, _, e, _⟩ => e ▸ lcl_lst
  | .dic _, _, ⟨_, e, _⟩ => e ▸ lcl_ext
  | .lams _ _, _, ⟨_, e, _⟩ => e ▸ lcl_lst
def Owns (ρ : Sto) (a : Addr) : Prop := ∃ (i : Nat) (c : Oc), ρ[i]? = some (.ob a c)
structure Rep (K : Zw) (F : List (Addr × HO)) (G : Hp) (ρ : Sto) (σ : L2.St) (H : Hp) : Prop where
  len : σ.length = ρ.length
  sh : ∀ {i : Nat} {D : PyData}, ρ[i]? = some (.sh D) → ∃ v, σ[i]? = some (some v) ∧ Dw K G v D
  ob : ∀ {i : Nat} {a : Addr} {c : Oc}, ρ[i]? = some (.ob a c) → σ[i]? = some (some (.ref a)) ∧ G a = none ∧ ∃ o, H a = some o ∧ OcOk K G a c o
  exc : ∀ {i : Nat} {a C d : Addr} {D : PyData}, ρ[i]? = some (.exc a C d D) → σ[i]? = some (some (.ref a)) ∧ ∃ v, Xd K C G d v ∧ Dw K G v D
  ask : ∀ {i : Nat} {O : Fk}, ρ[i]? = some (.ask O) → ∃ f, σ[i]? = some (some (.ref f)) ∧ FkOk K G f O
  uniq : ∀ {i j : Nat} {a : Addr} {c c' : Oc}, ρ[i]? = some (.ob a c) → ρ[j]? = some (.ob a c') → i = j
  ex : ∀ {a : Addr} {o : HO}, (a, o) ∈ F → H a = some o ∧ G a = none ∧ ¬ Owns ρ a ∧ Lcl o
  sub : Sub G H
  nt : NT G
/-- what a slot says of what stands for good -/
def LcOk (K : Zw) (G : Hp) (x : Option V) : Lc → Prop
  | .un => True
  | .sh D => ∃ v, x = some v ∧ Dw K G v D
  | .ob _ _ => False
  | .exc a C d D => x = some (.ref a) ∧ ∃ v, Xd K C G d v ∧ Dw K G v D
  | .ask O => ∃ f, x = some (.ref f) ∧ FkOk K G f O
theorem LcOk.mono {K : Zw} {G G' : Hp} {x : Option V} (s : Ex K.T G G') : ∀ {lc : Lc}, LcOk K G x lc → LcOk K G' x lc
  | .un, _ => trivial
  | .sh _, ⟨v, e, d⟩ => ⟨v, e, d.mono s⟩
  | .exc _ _ _ _, ⟨e, v, d, q⟩ => ⟨e, v, s.1 _ _ d (fun _ z => nomatch z), q.mono s⟩
  | .ask _, ⟨f, e, q⟩ => ⟨f, e, q.mono s⟩
/-- the objects of one's own stay where they are, in the first n slots -/
def Alike (n : Nat) (ρ ρ' : Sto) : Prop := ∀ (i : Nat) (a : Addr) (c : Oc), i < n → ρ[i]? = some (.ob a c) → ∃ c', ρ'[i]? = some (.ob a c')
theorem Alike.refl {n : Nat} {ρ : Sto} : Alike n ρ ρ := fun _ _ c _ h => ⟨c, h⟩
theorem Alike.trans {n : Nat} {ρ ρ1 ρ2 : Sto} (a : Alike n ρ ρ1) (b : Alike n ρ1 ρ2) : Alike n ρ ρ2 := fun i x c hi h => by
  obtain ⟨c', h'⟩ := a i x c hi h
  exact b i x c' hi h'
theorem set_get {α : Type} {l : List α} {i j : Nat} {x y : α} (e : (l.set i x)[j]? = some y) : (j = i ∧ y = x ∧ i < l.length) ∨ (j ≠ i ∧ l[j]? = some y) := by
  by_cases q : j = i
  · subst q
    rw [List.getElem?_set] at e
    simp only [if_pos] at e
    split at e
    · rename_i h
      cases e
      exact .inl ⟨rfl, rfl, h⟩
    · cases e
  · rw [List.getElem?_set_ne (Ne.symm q)] at e
    exact .inr ⟨q, e⟩
section
variable {K : Zw} {G G' H H' : Hp} {ρ : Sto} {σ : L2.St} {v : V} {D : PyData} {i : Nat} {a p : Addr} {F : List (Addr × HO)} {lc : Lc}
theorem Rep.tab (R : Rep K F G ρ σ H) (t : Tg G K.T) : Tg H K.T := t.ext R.sub
theorem Rep.sm (R : Rep K F G ρ σ H) (t : Tg G K.T) : Ex K.T G H := Ex.of t R.sub
theorem Rep.dp (R : Rep K F G ρ σ H) (d : Dw K G v D) : Dw K H v D := Da.Dw.xt R.sub d
theorem Rep.xt (R : Rep K F G ρ σ H) : LamX.ExtN G H := LamX.ExtN.of R.sub
theorem Rep.lt (R : Rep K F G ρ σ H) (h : ρ[i]? = some lc) : i < σ.length := by
  rw [R.len]
  exact (List.getElem?_eq_some_iff.mp h).1
theorem Rep.gnone (R : Rep K F G ρ σ H) (h : H p = none) : G p = none := by
  cases e : G p with
  | none => rfl
  | some u => rw [R.sub p u e] at h; cases h
/-- the ground grows -/
theorem Rep.grow0 (R : Rep K F G ρ σ H) (s : Ex K.T G G') (free : ∀ {i : Nat} {a : Addr} {c : Oc}, ρ[i]? = some (Lc.ob a c) → G' a = none) (exf : ∀ {a : Addr} {o : HO}, (a, o) ∈ F → G' a = none) (sub : ∀ b o, G' b = some o → H b = some o) (nt : NT G') : Rep K F G' ρ σ H := by
  refine ⟨R.len, fun e => ?_, fun e => ?_, fun e => ?_, fun e => ?_, R.uniq, fun m => ⟨(R.ex m).1, exf m, (R.ex m).2.2⟩, sub, nt⟩
  · obtain ⟨v, h1, h2⟩ := R.sh e
    exact ⟨v, h1, h2.mono s⟩
  · obtain ⟨h1, h2, u, h3, h4⟩ := R.ob e
    exact ⟨h1, free e, u, h3, h4.mono s⟩
  · obtain ⟨h1, v, h2, h3⟩ := R.exc e
    exact ⟨h1, v, s.1 _ _ h2 (fun _ z => nomatch z), h3.mono s⟩
  · obtain ⟨f, h1, h2⟩ := R.ask e
    exact ⟨f, h1, h2.mono s⟩
/-- a new object, known for good -/
theorem Rep.new {o : HO} (t : Tg G K.T) (R : Rep K F G ρ σ H) (h : H p = none) (nt : NTo o) : G p = none ∧ Rep K F (upd G p o) ρ σ (upd H p o) := by
  have gp := R.gnone h
  have np : ∀ {b o'}, H b = some o' → b ≠ p := fun e => ne_of_none e h
  have s : Ex K.T G (upd G p o) := Ex.new t gp
  refine ⟨gp, R.len, fun e => ?_, fun e => ?_, fun e => ?_, fun e => ?_, R.uniq, fun {b u} m => ?_, fun b u e => ?_, R.nt.upd nt⟩
  · obtain ⟨v, h1, h2⟩ := R.sh e
    exact ⟨v, h1, h2.mono s⟩
  · obtain ⟨h1, h2, u, h3, h4⟩ := R.ob e
    exact ⟨h1, by rw [upd_ne (np h3)]; exact h2, u, by rw [upd_ne (np h3)]; exact h3, h4.mono s⟩
  · obtain ⟨h1, v, h2, h3⟩ := R.exc e
    exact ⟨h1, v, s.1 _ _ h2 (fun _ z => nomatch z), h3.mono s⟩
  · obtain ⟨f, h1, h2⟩ := R.ask e
    exact ⟨f, h1, h2.mono s⟩
  · obtain ⟨h1, h2, h3⟩ := R.ex m
    exact ⟨by rw [upd_ne (np h1)]; exact h1, by rw [upd_ne (np h1)]; exact h2, h3⟩
  · by_cases q : b = p
    · rw [q, upd_same] at e ⊢
      exact e
    · rw [upd_ne q] at e ⊢
      exact R.sub b u e
/-- a slot set, no object of one's own in it -/
theorem Rep.setLc {x : Option V} (R : Rep K F G ρ σ H) (n : ∀ a c, ρ[i]? ≠ some (.ob a c)) (k : LcOk K G x lc) : Rep K F G (ρ.set i lc) (σ.set i x) H := by
  have no : ∀ a c, lc ≠ .ob a c := fun a c z => by
    rw [z] at k
    exact k
  have ob' : ∀ {j a c}, (ρ.set i lc)[j]? = some (.ob a c) → j ≠ i ∧ ρ[j]? = some (.ob a c) := fun {j a c} e => by
    rcases set_get e with ⟨_, z, _⟩ | h
    · exact absurd z.symm (no a c)
    · exact h
  refine ⟨by rw [List.length_set, List.length_set]; exact R.len, fun {j D'} e => ?_, fun {j a c} e => ?_, fun {j a C d D} e => ?_, fun {j O} e => ?_, fun e e' => R.uniq (ob' e).2 (ob' e').2, fun {b u} m => ⟨(R.ex m).1, (R.ex m).2.1, fun ⟨j, c, e⟩ => (R.ex m).2.2.1 ⟨j, c, (ob' e).2⟩, (R.ex m).2.2.2⟩, R.sub, R.nt⟩
  · rcases set_get e with ⟨rfl, z, l⟩ | ⟨q, e⟩
    · subst z
      obtain ⟨v, rfl, d⟩ := k
      exact ⟨v, by rw [List.getElem?_set_self (by rw [R.len]; exact l)], d⟩
    · rw [List.getElem?_set_ne (Ne.symm q)]
      exact R.sh e
  · obtain ⟨q, e⟩ := ob' e
    rw [List.getElem?_set_ne (Ne.symm q)]
    exact R.ob e
  · rcases set_get e with ⟨rfl, z, l⟩ | ⟨q, e⟩
    · subst z
      obtain ⟨rfl, d⟩ := k
      exact ⟨by rw [List.getElem?_set_self (by rw [R.len]; exact l)], d⟩
    · rw [List.getElem?_set_ne (Ne.symm q)]
      exact R.exc e
  · rcases set_get e with ⟨rfl, z, l⟩ | ⟨q, e⟩
    · subst z
      obtain ⟨f, rfl, d⟩ := k
      exact ⟨f, by rw [List.getElem?_set_self (by rw [R.len]; exact l)], d⟩
    · rw [List.getElem?_set_ne (Ne.symm q)]
      exact R.ask e
theorem Rep.set (R : Rep K F G ρ σ H) (n : ∀ a c, ρ[i]? ≠ some (.ob a c)) (d : Dw K G v D) : Rep K F G (ρ.set i (.sh D)) (σ.set i (some v)) H := R.setLc n ⟨v, rfl, d⟩
/-- nothing need be known of a slot that holds no object of one's own -/
theorem Rep.forget (R : Rep K F G ρ σ H) (n : ∀ a c, ρ[i]? ≠ some (.ob a c)) (x : Option V) : Rep K F G (ρ.set i .un) (σ.set i x) H := R.setLc n trivial
/-- a slot set to a new object of one's own -/
theorem Rep.own {o : HO} {c : Oc} (R : Rep K F G ρ σ H) (hi : i < ρ.length) (n : ∀ a c, ρ[i]? ≠ some (.ob a c)) (h : H p = none) (k : OcOk K G p c o) : Rep K F G (ρ.set i (.ob p c)) (σ.set i (some (.ref p))) (upd H p o) := by
  have np : ∀ {b o'}, H b = some o' → b ≠ p := fun e => ne_of_none e h
  have no : ∀ {j : Nat} {c' : Oc}, ρ[j]? ≠ some (Lc.ob p c') := fun {j c'} e => by
    obtain ⟨_, _, u, h3, _⟩ := R.ob e
    rw [h3] at h
    cases h
  have gp := R.gnone h
  have ob' : ∀ {j a c'}, (ρ.set i (.ob p c))[j]? = some (.ob a c') → (j = i ∧ a = p ∧ c' = c) ∨ (j ≠ i ∧ a ≠ p ∧ ρ[j]? = some (.ob a c')) := fun {j a c'} e => by
    rcases set_get e with ⟨z, z2, _⟩ | ⟨q, e⟩
    · cases z2
      exact .inl ⟨z, rfl, rfl⟩
    · exact .inr ⟨q, fun z => no (z ▸ e), e⟩
  have oth : ∀ {j : Nat} {lc' : Lc}, (ρ.set i (.ob p c))[j]? = some lc' → (∀ a c, lc' ≠ .ob a c) → j ≠ i ∧ ρ[j]? = some lc' := fun {j lc'} e m => by
    rcases set_get e with ⟨_, z, _⟩ | h
    · exact absurd z (m p c)
    · exact h
  refine ⟨by rw [List.length_set, List.length_set]; exact R.len, fun {j D'} e => ?_, fun {j a c'} e => ?_, fun {j a C d D} e => ?_, fun {j O} e => ?_, fun {j j' a c1 c2} e e' => ?_, fun {b u} m => ?_, fun b u e => ?_, R.nt⟩
  · obtain ⟨q, e⟩ := oth e (fun _ _ z => nomatch z)
    rw [List.getElem?_set_ne (Ne.symm q)]
    exact R.sh e
  · rcases ob' e with ⟨rfl, rfl, rfl⟩ | ⟨q, qa, e⟩
    · exact ⟨by rw [List.getElem?_set_self (by rw [R.len]; exact hi)], gp, o, upd_same, k⟩
    · rw [List.getElem?_set_ne (Ne.symm q), upd_ne qa]
      exact R.ob e
  · obtain ⟨q, e⟩ := oth e (fun _ _ z => nomatch z)
    rw [List.getElem?_set_ne (Ne.symm q)]
    exact R.exc e
  · obtain ⟨q, e⟩ := oth e (fun _ _ z => nomatch z)
    rw [List.getElem?_set_ne (Ne.symm q)]
    exact R.ask e
  · rcases ob' e with ⟨rfl, rfl, rfl⟩ | ⟨q, qa, e⟩
    · rcases ob' e' with ⟨rfl, _, _⟩ | ⟨_, qa, _⟩
      · rfl
      · exact absurd rfl qa
    · rcases ob' e' with ⟨_, z, _⟩ | ⟨_, _, e'⟩
      · exact absurd z qa
      · exact R.uniq e e'
  · obtain ⟨h1, h2, h3, h4⟩ := R.ex m
    refine ⟨by rw [upd_ne (np h1)]; exact h1, h2, fun ⟨j, c', e⟩ => ?_, h4⟩
    rcases ob' e with ⟨_, z, _⟩ | ⟨_, _, e⟩
    · exact np h1 z
    · exact h3 ⟨j, c', e⟩
  · rw [upd_ne (np (R.sub b u e))]
    exact R.sub b u e
/-- an object of one's own changes -/
theorem Rep.put {o : HO} {c c' : Oc} (R : Rep K F G ρ σ H) (h : ρ[i]? = some (.ob a c)) (k : OcOk K G a c' o) : Rep K F G (ρ.set i (.ob a c')) σ (upd H a o) := by
  have hi := (List.getElem?_eq_some_iff.mp h).1
  have ob' : ∀ {j b c2}, (ρ.set i (.ob a c'))[j]? = some (.ob b c2) → (j = i ∧ b = a ∧ c2 = c') ∨ (j ≠ i ∧ ρ[j]? = some (.ob b c2)) := fun {j b c2} e => by
    rcases set_get e with ⟨z, z2, _⟩ | h
    · cases z2
      exact .inl ⟨z, rfl, rfl⟩
    · exact .inr h
  have oth : ∀ {j : Nat} {lc' : Lc}, (ρ.set i (.ob a c'))[j]? = some lc' → (∀ a c, lc' ≠ .ob a c) → ρ[j]? = some lc' := fun {j lc'} e m => by
    rcases set_get e with ⟨_, z, _⟩ | h
    · exact absurd z (m a c')
    · exact h.2
  refine ⟨by rw [List.length_set]; exact R.len, fun {j D'} e => R.sh (oth e (fun _ _ z => nomatch z)), fun {j b c2} e => ?_, fun {j a C d D} e => R.exc (oth e (fun _ _ z => nomatch z)), fun {j O} e => R.ask (oth e (fun _ _ z => nomatch z)), fun {j j' b c1 c2} e e' => ?_, fun {b u} m => ?_, fun b u e => ?_, R.nt⟩
  · rcases ob' e with ⟨rfl, rfl, rfl⟩ | ⟨q, e⟩
    · exact ⟨(R.ob h).1, (R.ob h).2.1, o, upd_same, k⟩
    · have qa : b ≠ a := fun z => q (R.uniq e (z ▸ h))
      rw [upd_ne qa]
      exact R.ob e
  · rcases ob' e with ⟨z1, z2, _⟩ | ⟨_, f⟩
    · rcases ob' e' with ⟨z3, _, _⟩ | ⟨_, f'⟩
      · rw [z1, z3]
      · rw [z1]
        exact R.uniq (z2 ▸ h) f'
    · rcases ob' e' with ⟨z1, z2, _⟩ | ⟨_, f'⟩
      · rw [z1]
        exact R.uniq f (z2 ▸ h)
      · exact R.uniq f f'
  · obtain ⟨h1, h2, h3, h4⟩ := R.ex m
    have qa : b ≠ a := fun z => h3 ⟨i, c, z ▸ h⟩
    refine ⟨by rw [upd_ne qa]; exact h1, h2, fun ⟨j, c2, e⟩ => ?_, h4⟩
    rcases ob' e with ⟨_, z, _⟩ | ⟨_, e⟩
    · exact qa z
    · exact h3 ⟨j, c2, e⟩
  · rw [upd_ne (fun z => by rw [z, (R.ob h).2.1] at e; cases e)]
    exact R.sub b u e
/-- what an owned object is when it stands for good -/
def ocD : Oc → Option PyData
  | .lst ds => some (.list ds)
  | .dic kvs => some (.dict kvs)
  | _ => none
/-- an object of one's own stands for good from here on -/
theorem Rep.freeze {c : Oc} {D : PyData} (t : Tg G K.T) (R : Rep K F G ρ σ H) (h : ρ[i]? = some (.ob a c)) (hc : ocD c = some D) : ∃ G', Ex K.T G G' ∧ Rep K F G' (ρ.set i (.sh D)) σ H := by
  have hi := (List.getElem?_eq_some_iff.mp h).1
  obtain ⟨h1, h2, o, h3, h4⟩ := R.ob h
  have s : Ex K.T G (upd G a o) := Ex.new t h2
  have hd : Dw K (upd G a o) (.ref a) D ∧ NTo o := by
    cases c with
    | lst ds =>
      cases hc
      obtain ⟨vs, rfl, d⟩ := h4
      exact ⟨.lst (.inl (.inl upd_same)) (d.mono s), trivial⟩
    | dic kvs =>
      cases hc
      obtain ⟨es, rfl, d, _⟩ := h4
      exact ⟨.dic upd_same (d.ext s.1), trivial⟩
    | box => cases hc
    | lams _ _ => cases hc
  refine ⟨upd G a o, s, ?_⟩
  have ob' : ∀ {j b c2}, (ρ.set i (.sh D))[j]? = some (.ob b c2) → j ≠ i ∧ ρ[j]? = some (.ob b c2) := fun {j b c2} e => by
    rcases set_get e with ⟨_, z, _⟩ | h
    · cases z
    · exact h
  refine ⟨by rw [List.length_set]; exact R.len, fun {j D'} e => ?_, fun {j b c2} e => ?_, fun {j b C d D'} e => ?_, fun {j O} e => ?_, fun e e' => R.uniq (ob' e).2 (ob' e').2, fun {b u} m => ?_, fun b u e => ?_, R.nt.upd hd.2⟩
  · rcases set_get e with ⟨rfl, z, _⟩ | ⟨q, e⟩
    · cases z
      exact ⟨_, h1, hd.1⟩
    · obtain ⟨v, q1, q2⟩ := R.sh e
      exact ⟨v, q1, q2.mono s⟩
  · obtain ⟨q, e⟩ := ob' e
    obtain ⟨q1, q2, u, q3, q4⟩ := R.ob e
    have qa : b ≠ a := fun z => q (R.uniq e (z ▸ h))
    exact ⟨q1, by rw [upd_ne qa]; exact q2, u, q3, q4.mono s⟩
  · rcases set_get e with ⟨_, z, _⟩ | ⟨q, e⟩
    · cases z
    · obtain ⟨q1, v, q2, q3⟩ := R.exc e
      exact ⟨q1, v, s.1 _ _ q2 (fun _ z => nomatch z), q3.mono s⟩
  · rcases set_get e with ⟨_, z, _⟩ | ⟨q, e⟩
    · cases z
    · obtain ⟨f, q1, q2⟩ := R.ask e
      exact ⟨f, q1, q2.mono s⟩
  · obtain ⟨k1, k2, k3, k4⟩ := R.ex m
    have qa : b ≠ a := fun z => k3 ⟨i, _, z ▸ h⟩
    exact ⟨k1, by rw [upd_ne qa]; exact k2, fun ⟨j, c2, e⟩ => k3 ⟨j, c2, (ob' e).2⟩, k4⟩
  · by_cases q : b = a
    · rw [q, upd_same] at e
      cases e
      rw [q]
      exact h3
    · rw [upd_ne q] at e
      exact R.sub b u e
end
end Dl
set_option Elab.async false
set_option linter.all false
set_option maxRecDepth 100000
set_option maxHeartbeats 4000000
namespace Dl
open PySem PySem.Spec PyProof.Rows L2 So Da
abbrev DTE := Sto → (PyData → Sto → Prop) → Prop
abbrev DTT := Sto → (Bool → Sto → Prop) → Prop
abbrev DTA := Sto → (List PyData → Sto → Prop) → Prop
/-- a value that is looked at: data, or what stands in a slot -/
inductive Rv where
  | val (D : PyData)
  | slot (i : Nat)
abbrev DTR := Sto → (Rv → Sto → Prop) → Prop
def deref (ρ : Sto) : Rv → Option PyData
  | .val D => some D
  | .slot i => match ρ[i]? with
    | some (.sh D) => some D
    | some (.ob _ (.lst ds)) => some (.list ds)
    | some (.ob _ (.dic kvs)) => some (.dict kvs)
    | _ => none
def derefW (ρ : Sto) (r : Rv) (k : PyData → Prop) : Prop := match deref ρ r with
  | some D => k D
  | none => False
def RvOk (K : Zw) (G : Hp) (σ : L2.St) (v : V) : Rv → Prop
  | .val D => Dw K G v D
  | .slot i => σ[i]? = some (some v)
theorem RvOk.mono {K : Zw} {G G' : Hp} {σ : L2.St} {v : V} (s : Ex K.T G G') : ∀ {r : Rv}, RvOk K G σ v r → RvOk K G' σ v r
  | .val _, h => Dw.mono s h
  | .slot _, h => h
/-- data that lies in the ground, or an object of one's own -/
def Dq (K : Zw) (G H : Hp) (v : V) (D : PyData) : Prop := Dw K G v D ∨ ∃ a c o, v = .ref a ∧ ocD c = some D ∧ H a = some o ∧ OcOk K G a c o
section
variable {K : Zw} {G G' H H' : Hp} {ρ ρ' : Sto} {σ : L2.St} {v : V} {D : PyData} {F : List (Addr × HO)}
theorem dq_of {r : Rv} (R : Rep K F G ρ σ H) (h : RvOk K G σ v r) (e : deref ρ r = some D) : Dq K G H v D := by
  cases r with
  | val D' =>
    cases e
    exact .inl h
  | slot i =>
    have h : σ[i]? = some (some v) := h
    unfold deref at e
    dsimp only at e
    split at e
    · rename_i D' q
      cases e
      obtain ⟨v', h1, h2⟩ := R.sh q
      rw [h] at h1
      cases h1
      exact .inl h2
    · rename_i a ds q
      cases e
      obtain ⟨h1, h2, o, h3, h4⟩ := R.ob q
      rw [h] at h1
      cases h1
      exact .inr ⟨a, _, _, rfl, rfl, h3, h4⟩
    · rename_i a kvs q
      cases e
      obtain ⟨h1, h2, o, h3, h4⟩ := R.ob q
      rw [h] at h1
      cases h1
      exact .inr ⟨a, _, _, rfl, rfl, h3, h4⟩
    · cases e
theorem Dq.dp (R : Rep K F G ρ σ H) (h : Dq K G H v D) : Dw K H v D := by
  rcases h with h | ⟨a, c, o, rfl, e, h1, h2⟩
  · exact R.dp h
  · cases c with
    | lst ds =>
      cases e
      obtain ⟨vs, rfl, d⟩ := h2
      exact .lst (.inl (.inl h1)) (d.ext R.xt)
    | dic kvs =>
      cases e
      obtain ⟨es, rfl, d, _⟩ := h2
      exact .dic h1 (d.ext R.xt)
    | box => cases e
    | lams _ _ => cases e
theorem Dq.seq (R : Rep K F G ρ σ H) (h : Dq K G H v D) (e : isSq D = true) : ∃ a xs, v = .ref a ∧ Sq K.K H a xs ∧ DwAll K G xs (itD D) := by
  rcases h with h | ⟨a, c, o, rfl, e1, h1, h2⟩
  · obtain ⟨a, xs, rfl, h1, h2⟩ := dp_seq h e
    exact ⟨a, xs, rfl, h1.ext R.xt, h2⟩
  · cases c with
    | lst ds =>
      cases e1
      obtain ⟨vs, rfl, d⟩ := h2
      exact ⟨a, vs, rfl, .inr (.inl (.inl h1)), d⟩
    | dic kvs =>
      cases e1
      exact nomatch e
    | box => cases e1
    | lams _ _ => cases e1
theorem Dq.list {ds : List PyData} (R : Rep K F G ρ σ H) (h : Dq K G H v (.list ds)) : ∃ a xs, v = .ref a ∧ SqL K.K H a xs ∧ DwAll K G xs ds := by
  rcases h with h | ⟨a, c, o, rfl, e1, h1, h2⟩
  · cases h with
    | lst a b => exact ⟨_, _, rfl, sql_ext R.xt a, b⟩
  · cases c with
    | lst ds' =>
      cases e1
      obtain ⟨vs, rfl, d⟩ := h2
      exact ⟨a, vs, rfl, .inl (.inl h1), d⟩
    | dic kvs => cases e1
    | box => cases e1
    | lams _ _ => cases e1
theorem Dq.tup {ds : List PyData} (R : Rep K F G ρ σ H) (h : Dq K G H v (.tuple ds)) : ∃ a xs, v = .ref a ∧ SqT K.K H a xs ∧ DwAll K G xs ds ∧ Dw K G v (.tuple ds) := by
  rcases h with h | ⟨a, c, o, rfl, e, h1, h2⟩
  · have h' := h
    cases h with
    | tup a b => exact ⟨_, _, rfl, sqt_ext R.xt a, b, h'⟩
  · cases c <;> cases e
theorem Dq.flat (h : Dq K G H v D) (n : ∀ ds, D ≠ .list ds) (m : ∀ ds, D ≠ .dict ds) : Dw K G v D := by
  rcases h with h | ⟨a, c, o, rfl, e, h1, h2⟩
  · exact h
  · cases c with
    | lst ds =>
      cases e
      exact absurd rfl (n _)
    | dic kvs =>
      cases e
      exact absurd rfl (m _)
    | box => cases e
    | lams _ _ => cases e
theorem Dq.int {i : Int} (h : Dq K G H v (.int i)) : v = .int i := by
  cases h.flat (fun _ z => nomatch z) (fun _ z => nomatch z)
  rfl
theorem Dq.str {i : Str} (h : Dq K G H v (.str i)) : v = .str i := by
  cases h.flat (fun _ z => nomatch z) (fun _ z => nomatch z)
  rfl
theorem Dq.bl {i : Bool} (h : Dq K G H v (.bool i)) : v = .bl i := by
  cases h.flat (fun _ z => nomatch z) (fun _ z => nomatch z)
  rfl
end
/-- what an expression's end asks -/
def Kn (K : Zw) (F : List (Addr × HO)) (n : Nat) (Q0 : PyData → Sto → Prop) (ρ : Sto) (G : Hp) (σ : L2.St) (Q : VK) : Prop :=
  ∀ D ρ' v G' H', Q0 D ρ' → Ex K.T G G' → Alike n ρ ρ' → Rep K F G' ρ' σ H' → Dw K G' v D → Q v H'
def KnT (K : Zw) (F : List (Addr × HO)) (n : Nat) (Q0 : Bool → Sto → Prop) (ρ : Sto) (G : Hp) (σ : L2.St) (Q : Bool → Hp → Prop) : Prop :=
  ∀ b ρ' G' H', Q0 b ρ' → Ex K.T G G' → Alike n ρ ρ' → Rep K F G' ρ' σ H' → Q b H'
def KnR (K : Zw) (F : List (Addr × HO)) (n : Nat) (Q0 : Rv → Sto → Prop) (ρ : Sto) (G : Hp) (σ : L2.St) (Q : VK) : Prop :=
  ∀ r ρ' v G' H', Q0 r ρ' → Ex K.T G G' → Alike n ρ ρ' → Rep K F G' ρ' σ H' → RvOk K G' σ v r → Q v H'
def KnA (K : Zw) (F : List (Addr × HO)) (n : Nat) (Q0 : List PyData → Sto → Prop) (ρ : Sto) (G : Hp) (σ : L2.St) (Q : List V → Hp → Prop) : Prop :=
  ∀ Ds ρ' vs G' H', Q0 Ds ρ' → Ex K.T G G' → Alike n ρ ρ' → Rep K F G' ρ' σ H' → DwAll K G' vs Ds → Q vs H'
def rdE (K : Zw) (G0 : Hp) (n : Nat) (t : DTE) : TE := fun σ H Q => ∃ F ρ G Q0, Ex K.T G0 G ∧ Rep K F G ρ σ H ∧ t ρ Q0 ∧ Kn K F n Q0 ρ G σ Q
def rdT (K : Zw) (G0 : Hp) (n : Nat) (t : DTT) : TT := fun σ H Q => ∃ F ρ G Q0, Ex K.T G0 G ∧ Rep K F G ρ σ H ∧ t ρ Q0 ∧ KnT K F n Q0 ρ G σ Q
def rdR (K : Zw) (G0 : Hp) (n : Nat) (t : DTR) : TE := fun σ H Q => ∃ F ρ G Q0, Ex K.T G0 G ∧ Rep K F G ρ σ H ∧ t ρ Q0 ∧ KnR K F n Q0 ρ G σ Q
def rdA (K : Zw) (G0 : Hp) (n : Nat) (t : DTA) : TA := fun σ H Q => ∃ F ρ G Q0, Ex K.T G0 G ∧ Rep K F G ρ σ H ∧ t ρ Q0 ∧ KnA K F n Q0 ρ G σ Q
def DE (P : Tb) (G0 : Hp) (n : Nat) (X : Cx) (e : Expr) (t : DTE) : Prop := PE X e (rdE (zOf X P) G0 n t)
def DT (P : Tb) (G0 : Hp) (n : Nat) (X : Cx) (e : Expr) (t : DTT) : Prop := PT X e (rdT (zOf X P) G0 n t)
def DW (P : Tb) (G0 : Hp) (n : Nat) (X : Cx) (e : Expr) (t : DTT) : Prop := PW X e (rdT (zOf X P) G0 n t)
def DR (P : Tb) (G0 : Hp) (n : Nat) (X : Cx) (e : Expr) (t : DTR) : Prop := PE X e (rdR (zOf X P) G0 n t)
def DA (P : Tb) (G0 : Hp) (n : Nat) (X : Cx) (es : List Expr) (t : DTA) : Prop := PA X es (rdA (zOf X P) G0 n t)
section
variable {K : Zw} {n : Nat} {G G' H H' : Hp} {ρ ρ' : Sto} {σ : L2.St} {v : V} {D : PyData} {Q : VK} {p : Addr} {F : List (Addr × HO)}
theorem Kn.here {Q0 : PyData → Sto → Prop} (k : Kn K F n Q0 ρ G σ Q) (t : Tg G K.T) (R : Rep K F G ρ σ H) (d : Dw K G v D) (q : Q0 D ρ) : Q v H := k D ρ v G H q (Ex.refl t) Alike.refl R d
theorem Kn.new {Q0 : PyData → Sto → Prop} (k : Kn K F n Q0 ρ G σ Q) (t : Tg G K.T) (R : Rep K F G ρ σ H) (hp : H p = none) {o : HO} (d : ∀ s : Ex K.T G (upd G p o), Dw K (upd G p o) v D) (q : Q0 D ρ) (nt : NTo o := by exact trivial) : Q v (upd H p o) := by
  obtain ⟨gp, R'⟩ := R.new (o := o) t hp nt
  exact k D ρ v _ _ q (Ex.new t gp) Alike.refl R' (d (Ex.new t gp))
theorem Kn.after {Q0 : PyData → Sto → Prop} (k : Kn K F n Q0 ρ G σ Q) (s : Ex K.T G G') (a : Alike n ρ ρ') : Kn K F n Q0 ρ' G' σ Q := fun D r v G2 H2 q s2 a2 R d => k D r v G2 H2 q (s.trans s2) (a.trans a2) R d
theorem KnT.here {Q0 : Bool → Sto → Prop} {Q : Bool → Hp → Prop} {b : Bool} (k : KnT K F n Q0 ρ G σ Q) (t : Tg G K.T) (R : Rep K F G ρ σ H) (q : Q0 b ρ) : Q b H := k b ρ G H q (Ex.refl t) Alike.refl R
theorem KnT.after {Q0 : Bool → Sto → Prop} {Q : Bool → Hp → Prop} (k : KnT K F n Q0 ρ G σ Q) (s : Ex K.T G G') (a : Alike n ρ ρ') : KnT K F n Q0 ρ' G' σ Q := fun b r G2 H2 q s2 a2 R => k b r G2 H2 q (s.trans s2) (a.trans a2) R
theorem KnR.after {Q0 : Rv → Sto → Prop} (k : KnR K F n Q0 ρ G σ Q) (s : Ex K.T G G') (a : Alike n ρ ρ') : KnR K F n Q0 ρ' G' σ Q := fun b r v G2 H2 q s2 a2 R => k b r v G2 H2 q (s.trans s2) (a.trans a2) R
theorem KnA.after {Q0 : List PyData → Sto → Prop} {Q : List V → Hp → Prop} (k : KnA K F n Q0 ρ G σ Q) (s : Ex K.T G G') (a : Alike n ρ ρ') : KnA K F n Q0 ρ' G' σ Q := fun b r v G2 H2 q s2 a2 R => k b r v G2 H2 q (s.trans s2) (a.trans a2) R
end
section
variable {P : Tb} {G0 : Hp} {n : Nat} {X : Cx} {a b c e : Expr} {es : List Expr} {pos : Pos}
def dVar (i : Nat) : DTE := fun ρ Q => match ρ[i]? with
  | some (.sh D) => Q D ρ
  | _ => False
theorem de_var (i : Nat) {x : Str} {pos : Pos} (hN : X.N[i]? = some x := by rfl) (hv : Vis X.env.scope x := by first | exact Or.inl rfl | exact Or.inr (Or.inl rfl) | exact Or.inr (Or.inr rfl)) (hd : (x == ("__debug__" : Str)) = false := by decide)
    (hcd : (x == ("__classdict__" : Str)) = false := by decide) : DE P G0 n X (.Name x pos) (dVar i) := pe_weak (pe_var hN hv hd hcd) fun σ H Q ⟨F, ρ, G, Q0, s, R, h, k⟩ => by
  unfold dVar at h
  split at h
  · rename_i D q
    obtain ⟨v, h1, h2⟩ := R.sh q
    exact ⟨v, h1, k.here s.2 R h2 h⟩
  · exact h.elim
def known (ρ : Sto) (i : Nat) : Prop := match ρ[i]? with
  | some (.sh _) => True
  | some (.ob _ _) => True
  | some (.ask _) => True
  | _ => False
theorem dr_var (i : Nat) {x : Str} {pos : Pos} (hN : X.N[i]? = some x := by rfl) (hv : Vis X.env.scope x := by first | exact Or.inl rfl | exact Or.inr (Or.inl rfl) | exact Or.inr (Or.inr rfl)) (hd : (x == ("__debug__" : Str)) = false := by decide)
    (hcd : (x == ("__classdict__" : Str)) = false := by decide) : DR P G0 n X (.Name x pos) (fun ρ Q => known ρ i ∧ Q (.slot i) ρ) := pe_weak (pe_var hN hv hd hcd) fun σ H Q ⟨F, ρ, G, Q0, s, R, ⟨h1, h2⟩, k⟩ => by
  have : ∃ v, σ[i]? = some (some v) := by
    unfold known at h1
    split at h1
    · rename_i D q
      obtain ⟨v, h3, _⟩ := R.sh q
      exact ⟨v, h3⟩
    · rename_i a c q
      exact ⟨_, (R.ob q).1⟩
    · rename_i O q
      obtain ⟨f, h3, _⟩ := R.ask q
      exact ⟨_, h3⟩
    · exact h1.elim
  obtain ⟨v, hv⟩ := this
  exact ⟨v, hv, k _ ρ v G H h2 (Ex.refl s.2) Alike.refl R hv⟩
theorem dr_of {t : DTE} (h : DE P G0 n X e t) : DR P G0 n X e (fun ρ Q => t ρ fun D ρ' => Q (.val D) ρ') := pe_weak h fun σ H Q ⟨F, ρ, G, Q0, s, R, h, k⟩ => ⟨F, ρ, G, _, s, R, h, fun D ρ' v G' H' q s' a R' d => k (.val D) ρ' v G' H' q s' a R' d⟩
def dC (D : PyData) : DTE := fun ρ Q => Q D ρ
theorem de_con {v : V} {D : PyData} (h : PE X e (tC v)) (d : ∀ K H, Dw K H v D) : DE P G0 n X e (dC D) := pe_weak h fun σ H Q ⟨F, ρ, G, Q0, s, R, h, k⟩ => k.here s.2 R (d _ _) h
theorem de_int {i : Int} {j : Nat} : DE P G0 n X (.Constant (.int i) j pos) (dC (.int i)) := de_con pe_int fun _ _ => .int _
theorem de_str {i : Str} {j : Nat} : DE P G0 n X (.Constant (.str i) j pos) (dC (.str i)) := de_con pe_str fun _ _ => .str _
theorem de_bl {i : Bool} {j : Nat} : DE P G0 n X (.Constant (.bool i) j pos) (dC (.bool i)) := de_con pe_bl fun _ _ => .bl _
theorem de_non {j : Nat} : DE P G0 n X (.Constant .none j pos) (dC .none) := de_con pe_non fun _ _ => .non
theorem de_gInt {x : Str} {i : Int} (hg : Gl X x) (hm : ∃ t, X.mg x = some (.int i t)) (hd : (x == ("__debug__" : Str)) = false := by decide) : DE P G0 n X (.Name x pos) (dC (.int i)) := by
  obtain ⟨t, h⟩ := hm
  exact de_con (pe_glob (v := .int i) hg h ⟨_, rfl⟩ hd) fun _ _ => .int _
abbrev OpT := PyData → PyData → (PyData → Prop) → Prop
def dOp (f : OpT) (ta tb : DTR) : DTE := fun ρ Q => ta ρ fun r ρ1 => tb ρ1 fun q ρ2 => derefW ρ2 r fun x => derefW ρ2 q fun y => f x y fun z => Q z ρ2
/-- an operator's rule by data -/
def OpD (P : Tb) (n : Nat) (X : Cx) (r : R2) (f : OpT) : Prop := ∀ x y dx dy F G ρ σ H Q0 Q, Tg G P → Rep (zOf X P) F G ρ σ H → Dq (zOf X P) G H x dx → Dq (zOf X P) G H y dy → f dx dy (fun z => Q0 z ρ) → Kn (zOf X P) F n Q0 ρ G σ Q → r x y H Q
theorem op_read {r : R2} {f : OpT} {ta tb : DTR} (o : OpD P n X r f) {σ : L2.St} {H : Hp} {Q : VK} (h : rdE (zOf X P) G0 n (dOp f ta tb) σ H Q) : tOp r (rdR (zOf X P) G0 n ta) (rdR (zOf X P) G0 n tb) σ H Q := by
  obtain ⟨F, ρ, G, Q0, s, R, h, k⟩ := h
  refine ⟨F, ρ, G, _, s, R, h, fun r1 ρ1 v1 G1 H1 h1 s1 a1 R1 d1 => ⟨F, ρ1, G1, _, s.trans s1, R1, h1, fun r2 ρ2 v2 G2 H2 h2 s2 a2 R2 d2 => ?_⟩⟩
  unfold derefW at h2
  split at h2
  · rename_i D1 e1
    split at h2
    · rename_i D2 e2
      exact o v1 v2 D1 D2 F G2 ρ2 σ H2 Q0 Q s2.2 R2 (dq_of R2 (d1.mono s2) e1) (dq_of R2 d2 e2) h2 (k.after (s1.trans s2) (a1.trans a2))
    · exact h2.elim
  · exact h2.elim
theorem de_op {op : Operator} {r : R2} {f : OpT} {ta tb : DTR} (ho : OpR X (binaryOp op) r) (o : OpD P n X r f) (ha : DR P G0 n X a ta) (hb : DR P G0 n X b tb) : DE P G0 n X (.BinOp a op b pos) (dOp f ta tb) := pe_weak (pe_op ho ha hb) fun _ _ _ h => op_read o h
theorem de_cmp {op : CmpOp} {r : R2} {f : OpT} {ta tb : DTR} (ho : OpR X (compareOp op) r) (o : OpD P n X r f) (ha : DR P G0 n X a ta) (hb : DR P G0 n X b tb) (hm : behindInMarks op b = false) : DE P G0 n X (.Compare a [op] [b] pos) (dOp f ta tb) := pe_weak (pe_cmpR ho ha hb hm) fun _ _ _ h => op_read o h
def toB (t : DTE) : DTT := fun ρ Q => t ρ fun D ρ' => match D with
  | .bool b => Q b ρ'
  | _ => False
theorem b_read {t : DTE} {σ : L2.St} {H : Hp} {Q : Bool → Hp → Prop} (h : rdT (zOf X P) G0 n (toB t) σ H Q) : rdE (zOf X P) G0 n t σ H fun x H1 => ∃ c, x = .bl c ∧ Q c H1 := by
  obtain ⟨F, ρ, G, Q0, s, R, h, k⟩ := h
  refine ⟨F, ρ, G, _, s, R, h, fun D ρ' v G' H' q s' al R' d => ?_⟩
  split at q
  · cases d
    exact ⟨_, rfl, k _ ρ' G' H' q s' al R'⟩
  · exact q.elim
theorem dt_cmp {op : CmpOp} {r : R2} {f : OpT} {ta tb : DTR} (ho : OpR X (compareOp op) r) (o : OpD P n X r f) (ha : DR P G0 n X a ta) (hb : DR P G0 n X b tb) (hm : behindInMarks op b = false) : DT P G0 n X (.Compare a [op] [b] pos) (toB (dOp f ta tb)) :=
  pt_weak (pt_cmpR ho ha hb hm) fun _ _ _ h => op_read o (b_read h)
theorem dt_val {t : DTE} (h : DE P G0 n X e t) (he : ∀ whole, isTrue e X.env whole = (do let v ← whole; standAt e.pos; holding [v] (truthy v)) := by intro _; rfl) : DT P G0 n X e (toB t) := pt_weak (pt_val h he) fun _ _ _ h => b_read h
def dAnd (t u : DTT) : DTT := fun ρ Q => t ρ fun b ρ1 => if b = true then u ρ1 Q else Q false ρ1
def dOr (t u : DTT) : DTT := fun ρ Q => t ρ fun b ρ1 => if b = true then Q true ρ1 else u ρ1 Q
def dNot (t : DTT) : DTT := fun ρ Q => t ρ fun b ρ1 => Q (!b) ρ1
theorem dw_and1 {t : DTT} (ha : DT P G0 n X a t) : DW P G0 n X (.BoolOp .And [a] pos) t := pw_and1 ha
theorem dw_or1 {t : DTT} (ha : DT P G0 n X a t) : DW P G0 n X (.BoolOp .Or [a] pos) t := pw_or1 ha
theorem dw_and {t u : DTT} (ha : DT P G0 n X a t) (hb : DW P G0 n X (.BoolOp .And (b :: es) pos) u) : DW P G0 n X (.BoolOp .And (a :: b :: es) pos) (dAnd t u) := pw_weak (pw_and ha hb) fun σ H Q ⟨F, ρ, G, Q0, s, R, h, k⟩ =>
  ⟨F, ρ, G, _, s, R, h, fun c ρ' G' H' q s' al R' => by
    cases c with
    | true => exact ⟨F, ρ', G', _, s.trans s', R', q, k.after s' al⟩
    | false => exact k _ ρ' G' H' q s' al R'⟩
theorem dw_or {t u : DTT} (ha : DT P G0 n X a t) (hb : DW P G0 n X (.BoolOp .Or (b :: es) pos) u) : DW P G0 n X (.BoolOp .Or (a :: b :: es) pos) (dOr t u) := pw_weak (pw_or ha hb) fun σ H Q ⟨F, ρ, G, Q0, s, R, h, k⟩ =>
  ⟨F, ρ, G, _, s, R, h, fun c ρ' G' H' q s' al R' => by
    cases c with
    | false => exact ⟨F, ρ', G', _, s.trans s', R', q, k.after s' al⟩
    | true => exact k _ ρ' G' H' q s' al R'⟩
theorem DW.dt {t : DTT} (h : DW P G0 n X e t) : DT P G0 n X e t := PW.pt h
theorem dt_not {t : DTT} (ha : DT P G0 n X a t) : DT P G0 n X (.UnaryOp .Not a pos) (dNot t) := pt_weak (pt_not ha) fun σ H Q ⟨F, ρ, G, Q0, s, R, h, k⟩ => ⟨F, ρ, G, _, s, R, h, fun c ρ' G' H' q s' al R' => k _ ρ' G' H' q s' al R'⟩
def ofB (t : DTT) : DTE := fun ρ Q => t ρ fun b ρ1 => Q (.bool b) ρ1
def dAndV (t u : DTE) : DTE := fun ρ Q => t ρ fun D ρ1 => match D with
  | .bool b => if b = true then u ρ1 Q else Q (.bool false) ρ1
  | _ => False
def dOrV (t u : DTE) : DTE := fun ρ Q => t ρ fun D ρ1 => match D with
  | .bool b => if b = true then Q (.bool true) ρ1 else u ρ1 Q
  | _ => False
theorem de_one {op : BoolOp} {t : DTE} (ha : DE P G0 n X a t) : DE P G0 n X (.BoolOp op [a] pos) t := pe_one ha
theorem de_and {t u : DTE} (ha : DE P G0 n X a t) (hb : DE P G0 n X (.BoolOp .And (b :: es) pos) u) : DE P G0 n X (.BoolOp .And (a :: b :: es) pos) (dAndV t u) := pe_weak (pe_and ha hb) fun σ H Q ⟨F, ρ, G, Q0, s, R, h, k⟩ =>
  ⟨F, ρ, G, _, s, R, h, fun D ρ' v G' H' q s' al R' d => by
    split at q
    · rename_i c
      cases d
      cases c with
      | true => exact ⟨_, rfl, F, ρ', G', _, s.trans s', R', q, k.after s' al⟩
      | false => exact ⟨_, rfl, k _ ρ' _ G' H' q s' al R' (.bl _)⟩
    · exact q.elim⟩
theorem de_or {t u : DTE} (ha : DE P G0 n X a t) (hb : DE P G0 n X (.BoolOp .Or (b :: es) pos) u) : DE P G0 n X (.BoolOp .Or (a :: b :: es) pos) (dOrV t u) := pe_weak (pe_or ha hb) fun σ H Q ⟨F, ρ, G, Q0, s, R, h, k⟩ =>
  ⟨F, ρ, G, _, s, R, h, fun D ρ' v G' H' q s' al R' d => by
    split at q
    · rename_i c
      cases d
      cases c with
      | false => exact ⟨_, rfl, F, ρ', G', _, s.trans s', R', q, k.after s' al⟩
      | true => exact ⟨_, rfl, k _ ρ' _ G' H' q s' al R' (.bl _)⟩
    · exact q.elim⟩
theorem de_not {t : DTE} (ha : DE P G0 n X a t) : DE P G0 n X (.UnaryOp .Not a pos) (fun ρ Q => t ρ fun D ρ1 => match D with
  | .bool b => Q (.bool (!b)) ρ1
  | _ => False) := pe_weak (pe_not ha) fun σ H Q ⟨F, ρ, G, Q0, s, R, h, k⟩ =>
  ⟨F, ρ, G, _, s, R, h, fun D ρ' v G' H' q s' al R' d => by
    split at q
    · cases d
      exact ⟨_, rfl, k _ ρ' _ G' H' q s' al R' (.bl _)⟩
    · exact q.elim⟩
def dIf (c : DTT) (t u : DTE) : DTE := fun ρ Q => c ρ fun b ρ1 => if b = true then t ρ1 Q else u ρ1 Q
theorem de_if {tc : DTT} {t u : DTE} (hc : DT P G0 n X c tc) (ha : DE P G0 n X a t) (hb : DE P G0 n X b u) : DE P G0 n X (.IfExp c a b pos) (dIf tc t u) := pe_weak (pe_ifExp hc ha hb) fun σ H Q ⟨F, ρ, G, Q0, s, R, h, k⟩ =>
  ⟨F, ρ, G, _, s, R, h, fun c ρ' G' H' q s' al R' => by
    cases c with
    | true => exact ⟨F, ρ', G', _, s.trans s', R', q, k.after s' al⟩
    | false => exact ⟨F, ρ', G', _, s.trans s', R', q, k.after s' al⟩⟩
def dChain (f g : OpT) (ta tb tc : DTR) : DTE := fun ρ Q => ta ρ fun r ρ1 => tb ρ1 fun q ρ2 => derefW ρ2 r fun x => derefW ρ2 q fun y => f x y fun z => match z with
  | .bool b => if b = true then tc ρ2 fun w ρ3 => derefW ρ3 q fun y => derefW ρ3 w fun u => g y u fun z => Q z ρ3 else Q (.bool false) ρ2
  | _ => False
def tTupF (t : TA) : TE := fun σ H Q => t σ H fun xs H1 => xs.length ≤ sizeLine ∧ ∀ p ob, H1 p = none → ob.dict = none → Q (.ref p) (upd H1 p (.frz ob (.tup xs)))
theorem pe_tupF {t : TA} {k : Nat} (h : PA X es t) : PE X (.Tuple es k pos) (tTupF t) := by
  refine ⟨fun pins s σ H Q I hq => wpAny_Tuple_spliced (thn (h.run pos pins s σ H _ I hq) fun us s1 ⟨xs, H1, I1, r, z, q⟩ => ⟨by rw [← r.length]; exact z, ?_⟩)⟩
  have hf : H1 s1.heap.objs.size = none := I1.hok.fresh (Nat.le_refl _)
  have e := Heap.get?_push_size s1.heap (o := { cls := .type "tuple", data := .seq us.toArray }) rfl
  exact ⟨.ref s1.heap.objs.size, _, I1.laid (t' := s1.toks) (o := .frz { cls := .type "tuple", data := .seq us.toArray } (.tup xs)) (fun b u e => Heap.get?_push_of_some _ e) (Nat.le_refl _) ⟨e, z, us, r, _, e, rfl, _, rfl⟩, rfl, q _ _ hf rfl⟩
theorem da_nil : DA P G0 n X [] (fun ρ Q => Q [] ρ) := pa_weak pa_nil fun σ H Q ⟨F, ρ, G, Q0, s, R, h, k⟩ => k _ ρ _ G H h (Ex.refl s.2) Alike.refl R .nil
theorem da_cons {t : DTE} {u : DTA} (h : DE P G0 n X e t) (r : DA P G0 n X es u) (hs : starEach (e :: es) X.env = (false, eval e X.env) :: starEach es X.env := by rfl) : DA P G0 n X (e :: es) (fun ρ Q => t ρ fun D ρ1 => u ρ1 fun Ds ρ2 => Q (D :: Ds) ρ2) :=
  pa_weak (pa_cons h r hs) fun σ H Q ⟨F, ρ, G, Q0, s, R, h, k⟩ => ⟨F, ρ, G, _, s, R, h, fun D ρ' v G' H' q s' al R' d => ⟨F, ρ', G', _, s.trans s', R', q, fun Ds ρ2 vs G2 H2 q2 s2 al2 R2 d2 => k _ ρ2 _ G2 H2 q2 (s'.trans s2) (al.trans al2) R2 (.cons (Dw.mono s2 d) d2)⟩⟩
theorem de_tup {k : Nat} {t : DTA} (h : DA P G0 n X es t) : DE P G0 n X (.Tuple es k pos) (fun ρ Q => t ρ fun Ds ρ' => Ds.length ≤ sizeLine ∧ Q (.tuple Ds) ρ') := pe_weak (pe_tupF h) fun σ H Q ⟨F, ρ, G, Q0, s, R, h, k⟩ =>
  ⟨F, ρ, G, _, s, R, h, fun Ds ρ' vs G' H' ⟨l, q⟩ s' al R' d => ⟨by rw [dpa_len d]; exact l, fun p ob hp hd => (k.after s' al).new s'.2 R' hp (fun s2 => .tup (.inl (.inr ⟨ob, upd_same⟩)) (DwAll.mono s2 d)) q hd⟩⟩
/-- a built-in's call of one thing -/
def CaD (P : Tb) (n : Nat) (X : Cx) (r : List V → Hp → VK → Prop) (f : PyData → (PyData → Prop) → Prop) : Prop := ∀ x dx F G ρ σ H Q0 Q, Tg G P → Rep (zOf X P) F G ρ σ H → Dq (zOf X P) G H x dx → f dx (fun z => Q0 z ρ) → Kn (zOf X P) F n Q0 ρ G σ Q → r [x] H Q
def dUn (f : PyData → (PyData → Prop) → Prop) (t : DTR) : DTE := fun ρ Q => t ρ fun r ρ1 => derefW ρ1 r fun x => f x fun z => Q z ρ1
theorem ca_read {r : List V → Hp → VK → Prop} {f : PyData → (PyData → Prop) → Prop} {t : DTR} (o : CaD P n X r f) {σ : L2.St} {H : Hp} {Q : VK} (h : rdE (zOf X P) G0 n (dUn f t) σ H Q) : tCB r (tCons (rdR (zOf X P) G0 n t) tNil) σ H Q := by
  obtain ⟨F, ρ, G, Q0, s, R, h, k⟩ := h
  refine ⟨F, ρ, G, _, s, R, h, fun r1 ρ1 v1 G1 H1 h1 s1 a1 R1 d1 => ?_⟩
  unfold derefW at h1
  split at h1
  · rename_i D1 e1
    exact o v1 D1 F G1 ρ1 σ H1 Q0 Q s1.2 R1 (dq_of R1 d1 e1) h1 (k.after s1 a1)
  · exact h1.elim
theorem de_callB {id : String} {x : Str} {r : List V → Hp → VK → Prop} {f : PyData → (PyData → Prop) → Prop} {t : DTR} {p : Pos} (hc : CallR X (.builtin id) r) (o : CaD P n X r f) (hg : Gl X x) (hm : X.mg x = none) (hv : bootBuiltins x = some (.builtin id)) (ha : DR P G0 n X e t) (hn : x ≠ "__name__" := by decide) (hdb : (x == ("__debug__" : Str)) = false := by decide)
    (hs : starEach [e] X.env = (false, eval e X.env) :: starEach [] X.env := by rfl) (hpl : (backTo pos (starEach [] X.env)).any (·.1) = false := by rfl) : DE P G0 n X (.Call (.Name x p) [e] [] pos) (dUn f t) :=
  pe_weak (pe_callB hc hg hm hv (pa_cons ha pa_nil hs) hn hdb hs hpl) fun _ _ _ h => ca_read o h
theorem de_callTy {T : String} {x : Str} {r : List V → Hp → VK → Prop} {f : PyData → (PyData → Prop) → Prop} {t : DTR} {p : Pos} (hc : CallR X (.type T) r) (o : CaD P n X r f) (hg : Gl X x) (hm : X.mg x = none) (hv : bootBuiltins x = some (.type T)) (ha : DR P G0 n X e t) (hn : x ≠ "__name__" := by decide) (hdb : (x == ("__debug__" : Str)) = false := by decide)
    (hs : starEach [e] X.env = (false, eval e X.env) :: starEach [] X.env := by rfl) (hpl : (backTo pos (starEach [] X.env)).any (·.1) = false := by rfl) : DE P G0 n X (.Call (.Name x p) [e] [] pos) (dUn f t) :=
  pe_weak (pe_callTy hc hg hm hv (pa_cons ha pa_nil hs) hn hdb hs hpl) fun _ _ _ h => ca_read o h
end
end Dl
set_option Elab.async false
set_option linter.all false
set_option maxRecDepth 100000
set_option maxHeartbeats 4000000
namespace Dl
open PySem PySem.Spec PyProof.Rows L2 So Da
section
variable {X : Cx}
def rTupF (K : PySem.W.Frag) : List V → Hp → VK → Prop := fun xs H Q => ∃ p ys, xs = [.ref p] ∧ ((SqL K H p ys ∧ ∀ l ob, H l = none → ob.dict = none → Q (.ref l) (upd H l (.frz ob (.tup ys)))) ∨ (SqT K H p ys ∧ Q (.ref p) H))
theorem call_tupleF : CallR X (.type "tuple") (rTupF X.K) := by
  intro pins s σ H xs us Q I r h
  obtain ⟨p, ys, rfl, ⟨hq, q⟩ | h⟩ := h
  · obtain ⟨u, rfl, rx⟩ := vals1 r
    cases rx
    obtain ⟨its, rv, pl, hz⟩ := I.list hq
    have hl := rv.length
    refine call_tuple_list pl.isList (fun h' kp => ?_) (by rw [List.size_toArray]; omega)
    have I1 : Inv X pins σ H { s with heap := h' } := I.kept (t' := s.toks) kp
    have e := Heap.get?_push_size h' (o := { cls := .type "tuple", data := .seq its.toArray }) rfl
    exact ⟨.ref h'.objs.size, _, I1.laid (t' := s.toks) (o := .frz { cls := .type "tuple", data := .seq its.toArray } (.tup ys)) (fun b o e => Heap.get?_push_of_some _ e) (Nat.le_refl _) ⟨e, hz, its, rv, _, e, rfl, _, rfl⟩, rfl, q _ _ (I1.hok.fresh (Nat.le_refl _)) rfl⟩
  · exact call_tuple_of pins s σ H _ us Q I r ⟨p, ys, rfl, .inr h⟩
def rCatF (K : PySem.W.Frag) : R2 := fun x y H Q => ∃ a b xs ys, x = .ref a ∧ y = .ref b ∧ SqT K H a xs ∧ SqT K H b ys ∧ xs.length + ys.length ≤ sizeLine ∧
  (xs = [] → Q (.ref b) H) ∧ (xs ≠ [] → ys = [] → Q (.ref a) H) ∧ (xs ≠ [] → ys ≠ [] → ∀ p ob, H p = none → ob.dict = none → Q (.ref p) (upd H p (.frz ob (.tup (xs ++ ys)))))
theorem op_catF : OpR X (binaryOp .Add) (rCatF X.K) := by
  intro pins s σ H x y v u Q I rx ry h
  obtain ⟨a, b, xs, ys, rfl, rfl, ha, hb, hz, q0, q1, q2⟩ := h
  by_cases hx : xs = []
  · exact op_catA pins s σ H _ _ v u Q I rx ry ⟨a, b, xs, ys, rfl, rfl, ha, hb, hz, q0, q1, fun z => absurd hx z⟩
  by_cases hy : ys = []
  · exact op_catA pins s σ H _ _ v u Q I rx ry ⟨a, b, xs, ys, rfl, rfl, ha, hb, hz, q0, q1, fun _ z => absurd hy z⟩
  cases rx
  cases ry
  obtain ⟨its, r1, p1, _⟩ := I.tuple ha
  obtain ⟨its2, r2, p2, _⟩ := I.tuple hb
  refine HT.cat_tup p1 p2 (fun z => hx (r1.nil_iff.mp z)) (fun z => absurd (r2.nil_iff.mp z) hy) (fun _ => ?_) (by rw [← r1.length, ← r2.length]; exact hz)
  have e := Heap.get?_push_size s.heap (o := { cls := .type "tuple", data := .seq (its ++ its2).toArray }) rfl
  exact ⟨.ref s.heap.objs.size, _, I.laid (t' := s.toks) (o := .frz { cls := .type "tuple", data := .seq (its ++ its2).toArray } (.tup (xs ++ ys))) (fun b o e => Heap.get?_push_of_some _ e) (Nat.le_refl _) ⟨e, by rw [List.length_append]; exact hz, _, r1.append r2, _, e, rfl, _, rfl⟩, rfl, q2 hx hy _ _ (I.hok.fresh (Nat.le_refl _)) rfl⟩
def rSlF (K : PySem.W.Frag) : V → Option Int → Option Int → Hp → VK → Prop := fun x lo hi H Q => ∃ a xs, x = .ref a ∧ SqT K H a xs ∧
  (HT.sIx xs.length 0 lo = 0 ∧ HT.sIx xs.length xs.length hi = xs.length → Q (.ref a) H) ∧ (¬ (HT.sIx xs.length 0 lo = 0 ∧ HT.sIx xs.length xs.length hi = xs.length) → ∀ p ob, H p = none → ob.dict = none → Q (.ref p) (upd H p (.frz ob (.tup (cutV xs lo hi)))))
theorem sl_tupF : SlR X (rSlF X.K) := by
  intro pins s σ H x v vl vu lo hi sl Q I rx hs pl pu h
  obtain ⟨a, xs, rfl, hx, q1, q2⟩ := h
  by_cases hw : HT.sIx xs.length 0 lo = 0 ∧ HT.sIx xs.length xs.length hi = xs.length
  · exact sl_tupA pins s σ H _ v vl vu lo hi sl Q I rx hs pl pu ⟨a, xs, rfl, hx, q1, fun z => absurd hw z⟩
  · cases rx
    obtain ⟨its, r, ht, hz⟩ := I.tuple hx
    have hl : its.toArray.size = xs.length := by rw [List.size_toArray]; exact r.length.symm
    refine ⟨"tuple", _, PyProof.Rows.slot_tuple_getitem.lookup, ht.typeIs, HT.getItem_tuple_cut ht hs pl pu (by rw [hl]; exact hw) ?_ (by rw [hl]; exact hz)⟩
    rw [hl]
    have rr := (r.drop (HT.sIx xs.length 0 lo)).take (HT.sIx xs.length xs.length hi - HT.sIx xs.length 0 lo)
    refine ⟨.ref s.heap.objs.size, _, I.laid (t' := s.toks) (o := .frz _ (.tup (cutV xs lo hi))) (fun b o q => Heap.get?_push_of_some _ q) (Nat.le_refl _) ⟨Heap.get?_push_size _ rfl, Nat.le_trans (cutV_length xs lo hi) hz, _, rr, _, Heap.get?_push_size _ rfl, rfl, _, rfl⟩, rfl, q2 hw _ _ (I.hok.fresh (Nat.le_refl _)) rfl⟩
end
section
variable {K : Zw} {H : Hp}
theorem dpa_take : ∀ {xs : List V} {ds : List PyData} (n : Nat), DwAll K H xs ds → DwAll K H (xs.take n) (ds.take n)
  | _, _, 0, _ => by simpa using .nil
  | _, _, _ + 1, .nil => by simpa using .nil
  | _, _, n + 1, .cons a b => by simpa using .cons a (dpa_take n b)
theorem dpa_drop : ∀ {xs : List V} {ds : List PyData} (n : Nat), DwAll K H xs ds → DwAll K H (xs.drop n) (ds.drop n)
  | _, _, 0, h => h
  | _, _, _ + 1, .nil => .nil
  | _, _, n + 1, .cons _ b => by simpa using dpa_drop n b
theorem dpa_ati {xs : List V} {ds : List PyData} {i : Int} {d : PyData} (h : DwAll K H xs ds) (e : atI ds i = some d) : ∃ x, atI xs i = some x ∧ Dw K H x d := by
  unfold atI at e ⊢
  rw [dpa_len h]
  cases q : ixN ds.length i with
  | none => rw [q] at e; cases e
  | some j =>
    rw [q] at e
    exact dpa_at' h e
theorem dpa_ints : ∀ {xs : List V} {ns : List Int}, DwAll K H xs (ns.map .int) → xs = ns.map V.int
  | _, [], h => by cases h; rfl
  | _, n :: ns, h => by
    cases h with
    | cons a b =>
      cases a
      rw [dpa_ints b]
      rfl
theorem dpa_of_ints : ∀ {ns : List Int}, DwAll K H (ns.map V.int) (ns.map .int)
  | [] => .nil
  | _ :: _ => .cons (.int _) dpa_of_ints
theorem dpa_bls : ∀ {xs : List V} {ns : List Bool}, DwAll K H xs (ns.map .bool) → xs = ns.map V.bl
  | _, [], h => by cases h; rfl
  | _, n :: ns, h => by
    cases h with
    | cons a b =>
      cases a
      rw [dpa_bls b]
      rfl
theorem dpa_rep {v : V} {d : PyData} (h : Dw K H v d) : ∀ n : Nat, DwAll K H (List.replicate n v) (List.replicate n d)
  | 0 => .nil
  | n + 1 => .cons h (dpa_rep h n)
/-- None, a bool, an int, a text -/
def flatD : PyData → Bool
  | .none => true
  | .bool _ => true
  | .int _ => true
  | .str _ => true
  | _ => false
theorem flat_v {v : V} {d : PyData} (h : Dw K H v d) (f : flatD d = true) : flatV v = true := by cases h <;> first | rfl | exact nomatch f
theorem flat_eq {v u : V} {d e : PyData} (h : Dw K H v d) (h' : Dw K H u e) (f : flatD d = true) (f' : flatD e = true) : eqV v u = PyData.eqv d e := by
  cases h <;> cases h' <;> first | rfl | exact nomatch f | exact nomatch f'
theorem flat_in {v : V} {d : PyData} (h : Dw K H v d) (f : flatD d = true) : ∀ {xs : List V} {ds : List PyData}, DwAll K H xs ds → ds.all flatD = true → xs.all flatV = true ∧ inV v xs = ds.any fun z => PyData.eqv z d
  | _, _, .nil, _ => ⟨rfl, rfl⟩
  | _, _, .cons a b, g => by
    rw [List.all_cons, Bool.and_eq_true] at g
    obtain ⟨h1, h2⟩ := flat_in h f b g.2
    unfold inV at h2 ⊢
    rw [List.all_cons, List.any_cons, List.any_cons, flat_v a g.1, h1, flat_eq a h g.1 f, h2]
    exact ⟨rfl, rfl⟩
end
def cutD (xs : List PyData) (lo hi : Option Int) : List PyData := (xs.drop (HT.sIx xs.length 0 lo)).take (HT.sIx xs.length xs.length hi - HT.sIx xs.length 0 lo)
theorem dpa_cut {K : Zw} {H : Hp} {xs : List V} {ds : List PyData} (h : DwAll K H xs ds) (lo hi : Option Int) : DwAll K H (cutV xs lo hi) (cutD ds lo hi) := by
  unfold cutV cutD
  rw [dpa_len h]
  exact dpa_take _ (dpa_drop _ h)
def addD : OpT := fun x y Q => match x, y with
  | .int i, .int j => Q (.int (i + j))
  | .str i, .str j => i.length + j.length ≤ sizeLine ∧ Q (.str (i ++ j))
  | .tuple i, .tuple j => i.length + j.length ≤ sizeLine ∧ Q (.tuple (i ++ j))
  | .list i, .list j => i.length + j.length ≤ sizeLine ∧ Q (.list (i ++ j))
  | _, _ => False
def subD : OpT := fun x y Q => match x, y with
  | .int i, .int j => Q (.int (i - j))
  | _, _ => False
def mulD : OpT := fun x y Q => match x, y with
  | .int i, .int j => CMul i j ∧ Q (.int (i * j))
  | _, _ => False
def ltD : OpT := fun x y Q => match x, y with
  | .int i, .int j => Q (.bool (decide (i < j)))
  | .str i, .str j => Q (.bool (decide (i.cps.toList < j.cps.toList)))
  | _, _ => False
def leD : OpT := fun x y Q => match x, y with
  | .int i, .int j => Q (.bool (decide (i ≤ j)))
  | _, _ => False
def gtD : OpT := fun x y Q => match x, y with
  | .int i, .int j => Q (.bool (decide (j < i)))
  | _, _ => False
def geD : OpT := fun x y Q => match x, y with
  | .int i, .int j => Q (.bool (decide (j ≤ i)))
  | _, _ => False
theorem psh {D : PyData} (h : SeqAt.shaped D = true) : plain D = true := plain_of_lay (SeqAt.canLay_of_shaped h)
def eqD : OpT := fun x y Q => match x, y with
  | .int i, .int j => Q (.bool (decide (i = j)))
  | .str i, .str j => Q (.bool (decide (i = j)))
  | .bool i, .bool j => Q (.bool (decide (i = j)))
  | x, y => SeqAt.shaped x = true ∧ SeqAt.shaped y = true ∧ Q (.bool (PyData.eqv x y))
def neD : OpT := fun x y Q => match x, y with
  | .int i, .int j => Q (.bool (!decide (i = j)))
  | .str i, .str j => Q (.bool (!decide (i = j)))
  | .bool i, .bool j => Q (.bool (!decide (i = j)))
  | x, y => SeqAt.shaped x = true ∧ SeqAt.shaped y = true ∧ Q (.bool (!PyData.eqv x y))
def isND : PyData → Bool
  | .none => true
  | _ => false
def isD : OpT := fun x y Q => match y with
  | .none => Q (.bool (isND x))
  | _ => False
def notD : OpT := fun x y Q => match y with
  | .none => Q (.bool (!isND x))
  | _ => False
def inD (neg : Bool) : OpT := fun x y Q => match y with
  | .list ds => SeqAt.shaped x = true ∧ SeqAt.shaped (.list ds) = true ∧ Q (.bool (if neg = true then !ds.any (fun z => PyData.eqv z x) else ds.any fun z => PyData.eqv z x))
  | .tuple ds => flatD x = true ∧ ds.all flatD = true ∧ Q (.bool (if neg = true then !ds.any (fun z => PyData.eqv z x) else ds.any fun z => PyData.eqv z x))
  | _ => False
section
variable {P : Tb} {n : Nat} {X : Cx}
/-- list + list, whatever lists they are -/
def rCatL (K : PySem.W.Frag) : R2 := fun x y H Q => ∃ a b xs ys, x = .ref a ∧ y = .ref b ∧ SqL K H a xs ∧ SqL K H b ys ∧ xs.length + ys.length ≤ sizeLine ∧ ∀ p, H p = none → Q (.ref p) (upd H p (.lst (xs ++ ys)))
theorem op_catL : OpR X (binaryOp .Add) (rCatL X.K) := by
  intro pins s σ H x y v u Q I rx ry h
  obtain ⟨a, b, xs, ys, rfl, rfl, ha, hb, hz, q⟩ := h
  cases rx
  cases ry
  obtain ⟨vs, r1, ⟨⟨cls, dd, data, sl⟩, m, ho, hc, _, hd⟩, _⟩ := I.list ha
  obtain ⟨ws, r2, ⟨⟨cls2, dd2, data2, sl2⟩, m2, ho2, hc2, _, hd2⟩, _⟩ := I.list hb
  simp only at hc hd hc2 hd2
  subst hc hd hc2 hd2
  have e : vs.toArray ++ ws.toArray = (vs ++ ws).toArray := by simp
  have l1 := r1.length
  have l2 := r2.length
  refine concat_meets ⟨_, ho, rfl⟩ ⟨_, ho2, rfl⟩ noFill_list_add seq_list_add PySem.F.slot_list_add PySem.F.entry_list_add (PySem.F.args_list_add_2 _ _) (list_addW a b vs.toArray ws.toArray m m2 dd dd2 sl sl2 (by simpa [← l1, ← l2] using hz)) ⟨ho, ho2, ?_⟩
  rw [e]
  exact ⟨.ref _, _, I.lnew (t' := s.toks) (r1.append r2) (by rw [List.length_append]; exact hz), rfl, q _ I.fresh⟩
abbrev rAdd (K : PySem.W.Frag) : R2 := fun x y H Q => (∃ i j, x = .int i ∧ y = .int j ∧ Q (.int (i + j)) H) ∨ (∃ i j, x = .str i ∧ y = .str j ∧ i.length + j.length ≤ sizeLine ∧ Q (.str (i ++ j)) H) ∨ rCatF K x y H Q ∨ rCatL K x y H Q
theorem op_addA : OpR X (binaryOp .Add) (rAdd X.K) := OpR.or op_add (OpR.or op_add_str (OpR.or op_catF op_catL))
theorem od_add : OpD P n X (rAdd X.K) addD := fun x y dx dy F G ρ σ H Q0 Q t R h1 h2 f k => by
  unfold addD at f
  split at f
  · cases h1.int
    cases h2.int
    exact .inl ⟨_, _, rfl, rfl, k.here t R (.int _) f⟩
  · cases h1.str
    cases h2.str
    exact .inr (.inl ⟨_, _, rfl, rfl, f.1, k.here t R (.str _) f.2⟩)
  · obtain ⟨a, xs, rfl, ha, da, da'⟩ := h1.tup R
    obtain ⟨b, ys, rfl, hb, db, db'⟩ := h2.tup R
    refine .inr (.inr (.inl ⟨a, b, xs, ys, rfl, rfl, ha, hb, by rw [dpa_len da, dpa_len db]; exact f.1, fun z => ?_, fun _ z => ?_, fun _ _ p ob hp hd => ?_⟩))
    · subst z
      cases da
      exact k.here t R db' f.2
    · subst z
      cases db
      exact k.here t R da' (by rw [List.append_nil] at f; exact f.2)
    · exact k.new t R hp (fun s => .tup (.inl (.inr ⟨ob, upd_same⟩)) (dpa_app (DwAll.mono s da) (DwAll.mono s db))) f.2 hd
  · obtain ⟨a, xs, rfl, ha, da⟩ := h1.list R
    obtain ⟨b, ys, rfl, hb, db⟩ := h2.list R
    exact .inr (.inr (.inr ⟨a, b, xs, ys, rfl, rfl, ha, hb, by rw [dpa_len da, dpa_len db]; exact f.1, fun p hp => k.new t R hp (fun s => .lst (.inl (.inl upd_same)) (dpa_app (DwAll.mono s da) (DwAll.mono s db))) f.2⟩))
  · exact f.elim
theorem od_sub : OpD P n X (rI0 fun i j => .int (i - j)) subD := fun x y dx dy F G ρ σ H Q0 Q t R h1 h2 f k => by
  unfold subD at f
  split at f
  · cases h1.int
    cases h2.int
    exact ⟨_, _, rfl, rfl, k.here t R (.int _) f⟩
  · exact f.elim
abbrev rLtA : R2 := fun x y H Q => (∃ i j, x = .int i ∧ y = .int j ∧ Q (.bl (decide (i < j))) H) ∨ (∃ i j, x = .str i ∧ y = .str j ∧ Q (.bl (decide (i.cps.toList < j.cps.toList))) H)
theorem op_ltA : OpR X (compareOp .Lt) rLtA := OpR.or op_lt op_lt_str
theorem od_lt : OpD P n X rLtA ltD := fun x y dx dy F G ρ σ H Q0 Q t R h1 h2 f k => by
  unfold ltD at f
  split at f
  · cases h1.int
    cases h2.int
    exact .inl ⟨_, _, rfl, rfl, k.here t R (.bl _) f⟩
  · cases h1.str
    cases h2.str
    exact .inr ⟨_, _, rfl, rfl, k.here t R (.bl _) f⟩
  · exact f.elim
theorem od_le : OpD P n X (rI0 fun i j => .bl (decide (i ≤ j))) leD := fun x y dx dy F G ρ σ H Q0 Q t R h1 h2 f k => by
  unfold leD at f
  split at f
  · cases h1.int
    cases h2.int
    exact ⟨_, _, rfl, rfl, k.here t R (.bl _) f⟩
  · exact f.elim
theorem od_gt : OpD P n X (rI0 fun i j => .bl (decide (j < i))) gtD := fun x y dx dy F G ρ σ H Q0 Q t R h1 h2 f k => by
  unfold gtD at f
  split at f
  · cases h1.int
    cases h2.int
    exact ⟨_, _, rfl, rfl, k.here t R (.bl _) f⟩
  · exact f.elim
theorem od_ge : OpD P n X (rI0 fun i j => .bl (decide (j ≤ i))) geD := fun x y dx dy F G ρ σ H Q0 Q t R h1 h2 f k => by
  unfold geD at f
  split at f
  · cases h1.int
    cases h2.int
    exact ⟨_, _, rfl, rfl, k.here t R (.bl _) f⟩
  · exact f.elim
abbrev rEqA (K : PySem.W.Frag) : R2 := fun x y H Q => rEq x y H Q ∨ rEqD K x y H Q
abbrev rNeA (K : PySem.W.Frag) : R2 := fun x y H Q => rNe x y H Q ∨ rNeD K x y H Q
theorem op_eqA (hu : X.A.units + 64 < cLine) : OpR X (compareOp .Eq) (rEqA X.K) := OpR.or op_eq (op_eqD hu)
theorem op_neA (hu : X.A.units + 64 < cLine) : OpR X (compareOp .NotEq) (rNeA X.K) := OpR.or op_ne (op_neD hu)
theorem dI {i j : Int} : decide (V.int i = V.int j) = decide (i = j) := by
  by_cases e : i = j
  · rw [decide_eq_true e, decide_eq_true (congrArg V.int e)]
  · rw [decide_eq_false e, decide_eq_false (fun q => e (V.int.inj q))]
theorem dS {i j : Str} : decide (V.str i = V.str j) = decide (i = j) := by
  by_cases e : i = j
  · rw [decide_eq_true e, decide_eq_true (congrArg V.str e)]
  · rw [decide_eq_false e, decide_eq_false (fun q => e (V.str.inj q))]
theorem dB {i j : Bool} : decide (V.bl i = V.bl j) = decide (i = j) := by cases i <;> cases j <;> rfl
theorem od_eq : OpD P n X (rEqA X.K) eqD := fun x y dx dy F G ρ σ H Q0 Q t R h1 h2 f k => by
  unfold eqD at f
  split at f
  · cases h1.int
    cases h2.int
    exact .inl ⟨rfl, by rw [dI]; exact k.here t R (.bl _) f⟩
  · cases h1.str
    cases h2.str
    exact .inl ⟨rfl, by rw [dS]; exact k.here t R (.bl _) f⟩
  · cases h1.bl
    cases h2.bl
    exact .inl ⟨rfl, by rw [dB]; exact k.here t R (.bl _) f⟩
  · exact .inr ⟨_, _, Dw.dp (psh f.1) (h1.dp R), Dw.dp (psh f.2.1) (h2.dp R), f.1, f.2.1, k.here t R (.bl _) f.2.2⟩
theorem od_ne : OpD P n X (rNeA X.K) neD := fun x y dx dy F G ρ σ H Q0 Q t R h1 h2 f k => by
  unfold neD at f
  split at f
  · cases h1.int
    cases h2.int
    exact .inl ⟨rfl, by rw [dI]; exact k.here t R (.bl _) f⟩
  · cases h1.str
    cases h2.str
    exact .inl ⟨rfl, by rw [dS]; exact k.here t R (.bl _) f⟩
  · cases h1.bl
    cases h2.bl
    exact .inl ⟨rfl, by rw [dB]; exact k.here t R (.bl _) f⟩
  · exact .inr ⟨_, _, Dw.dp (psh f.1) (h1.dp R), Dw.dp (psh f.2.1) (h2.dp R), f.1, f.2.1, k.here t R (.bl _) f.2.2⟩
theorem non_v {K : Zw} {H : Hp} {v : V} {D : PyData} (h : Dw K H v D) : decide (v = .non) = isND D := by cases h <;> rfl
theorem od_is : OpD P n X (fun x y H Q => y = .non ∧ Q (.bl (decide (x = .non))) H) isD := fun x y dx dy F G ρ σ H Q0 Q t R h1 h2 f k => by
  unfold isD at f
  split at f
  · refine ⟨?_, ?_⟩
    · cases h2.dp R
      rfl
    · rw [non_v (h1.dp R)]
      exact k.here t R (.bl _) f
  · exact f.elim
abbrev rInA (K : PySem.W.Frag) : R2 := fun x y H Q => rInD K x y H Q ∨ rIn K false x y H Q
abbrev rNotInA (K : PySem.W.Frag) : R2 := fun x y H Q => rNotInD K x y H Q ∨ rIn K true x y H Q
theorem op_inA (hu : X.A.units + 65 < cLine) : OpR X (compareOp .In) (rInA X.K) := OpR.or (op_inD hu) op_in_seq
theorem op_notInA (hu : X.A.units + 65 < cLine) : OpR X (compareOp .NotIn) (rNotInA X.K) := OpR.or (op_notInD hu) op_notIn_seq
theorem od_in : OpD P n X (rInA X.K) (inD false) := fun x y dx dy F G ρ σ H Q0 Q t R h1 h2 f k => by
  unfold inD at f
  split at f
  · exact .inl ⟨_, _, Dw.dp (psh f.1) (h1.dp R), Dw.dp (psh f.2.1) (h2.dp R), f.1, f.2.1, k.here t R (.bl _) f.2.2⟩
  · obtain ⟨a, xs, rfl, ha, da, _⟩ := h2.tup R
    have d1 := h1.dp R
    obtain ⟨g1, g2⟩ := flat_in d1 f.1 (DwAll.mono (R.sm t) da) f.2.1
    refine .inr ⟨a, xs, rfl, .inr ha, flat_v d1 f.1, g1, ?_⟩
    rw [g2]
    exact k.here t R (.bl _) f.2.2
  · exact f.elim
theorem od_notin : OpD P n X (rNotInA X.K) (inD true) := fun x y dx dy F G ρ σ H Q0 Q t R h1 h2 f k => by
  unfold inD at f
  split at f
  · exact .inl ⟨_, _, Dw.dp (psh f.1) (h1.dp R), Dw.dp (psh f.2.1) (h2.dp R), f.1, f.2.1, k.here t R (.bl _) f.2.2⟩
  · obtain ⟨a, xs, rfl, ha, da, _⟩ := h2.tup R
    have d1 := h1.dp R
    obtain ⟨g1, g2⟩ := flat_in d1 f.1 (DwAll.mono (R.sm t) da) f.2.1
    refine .inr ⟨a, xs, rfl, .inr ha, flat_v d1 f.1, g1, ?_⟩
    rw [g2]
    exact k.here t R (.bl _) f.2.2
  · exact f.elim
end
def negD : PyData → (PyData → Prop) → Prop := fun x Q => match x with
  | .int i => Q (.int (-i))
  | _ => False
def ixD : OpT := fun x y Q => match x, y with
  | .list ds, .int i => match atI ds i with
    | some d => Q d
    | none => False
  | .tuple ds, .int i => match atI ds i with
    | some d => Q d
    | none => False
  | .str z, .int i => z.length ≤ sizeLine ∧ match atI z.cps.toList i with
    | some c => Q (.str ⟨#[c]⟩)
    | none => False
  | _, _ => False
def lenD : PyData → (PyData → Prop) → Prop := fun x Q => match x with
  | .list ds => Q (.int (ds.length : Nat))
  | .tuple ds => Q (.int (ds.length : Nat))
  | .str z => z.length ≤ sizeLine ∧ Q (.int (z.length : Nat))
  | _ => False
def allD : PyData → (PyData → Prop) → Prop := fun x Q => ∃ bs : List Bool, x = .list (bs.map .bool) ∧ Q (.bool (bs.all id))
def listD : PyData → (PyData → Prop) → Prop := fun x Q => match x with
  | .list ds => Q (.list ds)
  | .tuple ds => Q (.list ds)
  | _ => False
def tupleD : PyData → (PyData → Prop) → Prop := fun x Q => match x with
  | .list ds => Q (.tuple ds)
  | .tuple ds => Q (.tuple ds)
  | _ => False
section
variable {P : Tb} {G0 : Hp} {n : Nat} {X : Cx} {a b e : Expr} {pos : Pos}
theorem de_neg {t : DTE} (ha : DE P G0 n X a t) : DE P G0 n X (.UnaryOp .USub a pos) (fun ρ Q => t ρ fun D ρ' => negD D fun z => Q z ρ') := pe_weak (pe_un un_neg ha) fun σ H Q ⟨F, ρ, G, Q0, s, R, h, k⟩ =>
  ⟨F, ρ, G, _, s, R, h, fun D ρ' v G' H' q s' al R' d => by
    unfold negD at q
    split at q
    · cases d
      exact ⟨_, rfl, k _ ρ' _ G' H' q s' al R' (.int _)⟩
    · exact q.elim⟩
abbrev rIxA (K : PySem.W.Frag) : R2 := fun x y H Q => rIxL K x y H Q ∨ rIxT K x y H Q ∨ rIxS x y H Q
theorem ix_A : IxR X (rIxA X.K) := IxR.or ix_list (IxR.or ix_tup ix_str)
theorem od_ix : OpD P n X (rIxA X.K) ixD := fun x y dx dy F G ρ σ H Q0 Q t R h1 h2 f k => by
  unfold ixD at f
  split at f
  · obtain ⟨a, xs, rfl, ha, da⟩ := h1.list R
    cases h2.int
    split at f
    · rename_i d q
      obtain ⟨x, q1, q2⟩ := dpa_ati da q
      exact .inl ⟨a, xs, _, x, rfl, rfl, ha, q1, k.here t R q2 f⟩
    · exact f.elim
  · obtain ⟨a, xs, rfl, ha, da, _⟩ := h1.tup R
    cases h2.int
    split at f
    · rename_i d q
      obtain ⟨x, q1, q2⟩ := dpa_ati da q
      exact .inr (.inl ⟨a, xs, _, x, rfl, rfl, ha, q1, k.here t R q2 f⟩)
    · exact f.elim
  · cases h1.str
    cases h2.int
    obtain ⟨l, f⟩ := f
    split at f
    · rename_i d q
      exact .inr (.inr ⟨_, _, _, rfl, rfl, l, q, k.here t R (.str _) f⟩)
    · exact f.elim
  · exact f.elim
theorem de_ix {ta tb : DTR} (ha : DR P G0 n X a ta) (hb : DR P G0 n X b tb) (hs : PlainIx b := by exact fun _ _ => rfl) : DE P G0 n X (.Subscript a b pos) (dOp ixD ta tb) := pe_weak (pe_ix ix_A ha hb hs) fun _ _ _ h => op_read od_ix h
abbrev rLenA (K : PySem.W.Frag) : List V → Hp → VK → Prop := fun xs H Q => (∃ p ys, xs = [.ref p] ∧ (SqL K H p ys ∨ SqT K H p ys) ∧ Q (.int ys.length) H) ∨ (∃ z, xs = [.str z] ∧ z.length ≤ sizeLine ∧ Q (.int z.length) H)
theorem call_lenA : CallR X (.builtin "len") (rLenA X.K) := CallR.or call_len_seq call_len_str
theorem cd_len : CaD P n X (rLenA X.K) lenD := fun x dx F G ρ σ H Q0 Q t R h f k => by
  unfold lenD at f
  split at f
  · obtain ⟨a, xs, rfl, ha, da⟩ := h.list R
    exact .inl ⟨a, xs, rfl, .inl ha, by rw [dpa_len da]; exact k.here t R (.int _) f⟩
  · obtain ⟨a, xs, rfl, ha, da, _⟩ := h.tup R
    exact .inl ⟨a, xs, rfl, .inr ha, by rw [dpa_len da]; exact k.here t R (.int _) f⟩
  · cases h.str
    exact .inr ⟨_, rfl, f.1, k.here t R (.int _) f.2⟩
  · exact f.elim
theorem cd_all : CaD P n X (rAll X.K) allD := fun x dx F G ρ σ H Q0 Q t R h ⟨bs, e, f⟩ k => by
  subst e
  obtain ⟨a, xs, rfl, ha, da⟩ := h.list R
  cases dpa_bls da
  exact ⟨a, bs, rfl, ha, k.here t R (.bl _) f⟩
theorem cd_tuple : CaD P n X (rTupF X.K) tupleD := fun x dx F G ρ σ H Q0 Q t R h f k => by
  unfold tupleD at f
  split at f
  · obtain ⟨a, xs, rfl, ha, da⟩ := h.list R
    exact ⟨a, xs, rfl, .inl ⟨ha, fun l ob hl hd => k.new t R hl (fun s => .tup (.inl (.inr ⟨ob, upd_same⟩)) (DwAll.mono s da)) f hd⟩⟩
  · obtain ⟨a, xs, rfl, ha, da, d⟩ := h.tup R
    exact ⟨a, xs, rfl, .inr ⟨ha, k.here t R d f⟩⟩
  · exact f.elim
/-- isinstance, of any data -/
def isiD (kf : PyData → Bool) (D : PyData) (Q : PyData → Prop) : Prop := Q (.bool (kf D))
theorem de_isi {T : String} {kf : PyData → Bool} {t : DTR} {p p2 : Pos} (hk : KitF T kf) (hg : Gl X "isinstance") (hm : X.mg "isinstance" = none) {x : Str} (hg2 : Gl X x) (hm2 : X.mg x = none) (hv : bootBuiltins x = some (.type T)) (hn : x ≠ "__name__" := by decide) (hd : (x == ("__debug__" : Str)) = false := by decide)
    (ha : DR P G0 n X a t) (hs : starEach [a, .Name x p2] X.env = (false, eval a X.env) :: starEach [.Name x p2] X.env := by rfl) (hs2 : starEach [.Name x p2] X.env = (false, eval (.Name x p2) X.env) :: starEach [] X.env := by rfl) (hpl : (backTo pos (starEach [.Name x p2] X.env)).any (·.1) = false := by rfl) :
    DE P G0 n X (.Call (.Name "isinstance" p) [a, .Name x p2] [] pos) (dUn (isiD kf) t) :=
  pe_weak (pe_callB call_isY hg hm (by decide +kernel) (pa_cons ha (pa_cons (pe_bltn (v := .ty T) hg2 hm2 hv rfl hn hd) pa_nil hs2) hs) (by decide) (by decide) hs hpl) fun σ H Q ⟨F, ρ, G, Q0, s, R, h, k⟩ =>
    ⟨F, ρ, G, _, s, R, h, fun r1 ρ1 v1 G1 H1 h1 s1 a1 R1 d1 => by
      unfold derefW at h1
      split at h1
      · rename_i D1 e1
        have d := (dq_of R1 d1 e1).dp R1
        obtain ⟨t, ty, e⟩ := tyAll hk d
        exact ⟨_, _, _, _, _, rfl, .ty _, ty, e, (k.after s1 a1).here s1.2 R1 (.bl _) h1⟩
      · exact h1.elim⟩
theorem de_isiSq {t : DTR} {p p2 p3 p4 : Pos} {j : Nat} (hg : Gl X "isinstance") (hm : X.mg "isinstance" = none) (hg2 : Gl X "list") (hm2 : X.mg "list" = none) (hg3 : Gl X "tuple") (hm3 : X.mg "tuple" = none)
    (ha : DR P G0 n X a t) (hs : starEach [a, .Tuple [.Name "list" p2, .Name "tuple" p3] j p4] X.env = (false, eval a X.env) :: starEach [.Tuple [.Name "list" p2, .Name "tuple" p3] j p4] X.env := by rfl)
    (hs2 : starEach [.Tuple [.Name "list" p2, .Name "tuple" p3] j p4] X.env = (false, eval (.Tuple [.Name "list" p2, .Name "tuple" p3] j p4) X.env) :: starEach [] X.env := by rfl)
    (hs3 : starEach [.Name "list" p2, .Name "tuple" p3] X.env = (false, eval (.Name "list" p2) X.env) :: starEach [.Name "tuple" p3] X.env := by rfl) (hs4 : starEach [.Name "tuple" p3] X.env = (false, eval (.Name "tuple" p3) X.env) :: starEach [] X.env := by rfl)
    (hpl : (backTo pos (starEach [.Tuple [.Name "list" p2, .Name "tuple" p3] j p4] X.env)).any (·.1) = false := by rfl) :
    DE P G0 n X (.Call (.Name "isinstance" p) [a, .Tuple [.Name "list" p2, .Name "tuple" p3] j p4] [] pos) (dUn (isiD isSq) t) :=
  pe_weak (pe_callB call_isYT hg hm (by decide +kernel) (pa_cons ha (pa_cons (pe_tup (pa_cons (pe_bltn (v := .ty "list") hg2 hm2 (by decide +kernel) rfl) (pa_cons (pe_bltn (v := .ty "tuple") hg3 hm3 (by decide +kernel) rfl) pa_nil hs4) hs3)) pa_nil hs2) hs) (by decide) (by decide) hs hpl) fun σ H Q ⟨F, ρ, G, Q0, s, R, h, k⟩ =>
    ⟨F, ρ, G, _, s, R, h, fun r1 ρ1 v1 G1 H1 h1 s1 a1 R1 d1 => by
      unfold derefW at h1
      split at h1
      · rename_i D1 e1
        refine ⟨by show 2 ≤ sizeLine; decide, fun q hq => ?_⟩
        have d := (dq_of R1 d1 e1).dp R1
        obtain ⟨gq, R2⟩ := R1.new (o := .tup [.ty "list", .ty "tuple"]) s1.2 hq rfl
        have s2 := Ex.new s1.2 gq (o := .tup [.ty "list", .ty "tuple"])
        have d2 : Dw (zOf X P) (upd H1 q (.tup [.ty "list", .ty "tuple"])) v1 D1 := Da.Dw.xt (fun b u e => by rw [upd_ne (ne_of_none e hq)]; exact e) d
        obtain ⟨t, ty, e⟩ := tySeq d2
        exact ⟨_, q, _, _, _, _, rfl, upd_same, .cons (.ty _) (.cons (.ty _) .nil), ty, e, ((k.after s1 a1).after s2 Alike.refl).here s2.2 R2 (.bl _) h1⟩
      · exact h1.elim⟩
abbrev DTO := Sto → (Option Int → Sto → Prop) → Prop
def KnO (K : Zw) (F : List (Addr × HO)) (n : Nat) (Q0 : Option Int → Sto → Prop) (ρ : Sto) (G : Hp) (σ : L2.St) (Q : Option Int → Hp → Prop) : Prop :=
  ∀ o ρ' G' H', Q0 o ρ' → Ex K.T G G' → Alike n ρ ρ' → Rep K F G' ρ' σ H' → Q o H'
def rdO (K : Zw) (G0 : Hp) (n : Nat) (t : DTO) : TO := fun σ H Q => ∃ F ρ G Q0, Ex K.T G0 G ∧ Rep K F G ρ σ H ∧ t ρ Q0 ∧ KnO K F n Q0 ρ G σ Q
def DO (P : Tb) (G0 : Hp) (n : Nat) (X : Cx) (e : Option Expr) (t : DTO) : Prop := PO X e (rdO (zOf X P) G0 n t)
theorem po_weak {X : Cx} {e : Option Expr} {t t' : TO} (h : PO X e t) (i : ∀ σ H Q, t' σ H Q → t σ H Q) : PO X e t' := ⟨fun pins s σ H Q I q => h.run pins s σ H Q I (i σ H Q q)⟩
theorem do_none : DO P G0 n X none (fun ρ Q => Q none ρ) := po_weak po_none fun σ H Q ⟨F, ρ, G, Q0, s, R, h, k⟩ => k _ ρ G H h (Ex.refl s.2) Alike.refl R
theorem do_some {t : DTE} (h : DE P G0 n X e t) : DO P G0 n X (some e) (fun ρ Q => t ρ fun D ρ' => match D with
  | .int i => Q (some i) ρ'
  | _ => False) := po_weak (po_some h) fun σ H Q ⟨F, ρ, G, Q0, s, R, h, k⟩ => ⟨F, ρ, G, _, s, R, h, fun D ρ' v G' H' q s' al R' d => by
    split at q
    · cases d
      exact ⟨_, rfl, k _ ρ' G' H' q s' al R'⟩
    · exact q.elim⟩
def slD (x : PyData) (lo hi : Option Int) (Q : PyData → Prop) : Prop := match x with
  | .list ds => Q (.list (cutD ds lo hi))
  | .tuple ds => Q (.tuple (cutD ds lo hi))
  | _ => False
abbrev rSlAll (K : PySem.W.Frag) : V → Option Int → Option Int → Hp → VK → Prop := fun x lo hi H Q => rSlL K x lo hi H Q ∨ rSlF K x lo hi H Q
theorem sl_all : SlR X (rSlAll X.K) := SlR.or sl_list sl_tupF
theorem de_slice {lo hi : Option Expr} {p2 : Pos} {t : DTR} {tl th : DTO} (ha : DR P G0 n X a t) (hl : DO P G0 n X lo tl) (hh : DO P G0 n X hi th) : DE P G0 n X (.Subscript a (.Slice lo hi none p2) pos)
    (fun ρ Q => t ρ fun r ρ1 => tl ρ1 fun l ρ2 => th ρ2 fun u ρ3 => derefW ρ3 r fun x => slD x l u fun z => Q z ρ3) := pe_weak (pe_slice sl_all ha hl hh) fun σ H Q ⟨F, ρ, G, Q0, s, R, h, k⟩ =>
  ⟨F, ρ, G, _, s, R, h, fun r1 ρ1 v1 G1 H1 h1 s1 a1 R1 d1 => ⟨F, ρ1, G1, _, s.trans s1, R1, h1, fun l ρ2 G2 H2 h2 s2 a2 R2 => ⟨F, ρ2, G2, _, (s.trans s1).trans s2, R2, h2, fun u ρ3 G3 H3 h3 s3 a3 R3 => by
    unfold derefW at h3
    split at h3
    · rename_i D e
      have dq := dq_of R3 (d1.mono (s2.trans s3)) e
      have k' := k.after ((s1.trans s2).trans s3) ((a1.trans a2).trans a3)
      unfold slD at h3
      split at h3
      · obtain ⟨a, xs, rfl, ha, da⟩ := dq.list R3
        exact .inl ⟨a, xs, rfl, ha, fun p hp => k'.new s3.2 R3 hp (fun s4 => .lst (.inl (.inl upd_same)) (dpa_cut (DwAll.mono s4 da) l u)) h3⟩
      · rename_i ds
        obtain ⟨a, xs, rfl, ha, da, d⟩ := dq.tup R3
        refine .inr ⟨a, xs, rfl, ha, fun z => ?_, fun z p ob hp hd => k'.new s3.2 R3 hp (fun s4 => .tup (.inl (.inr ⟨ob, upd_same⟩)) (dpa_cut (DwAll.mono s4 da) l u)) h3 hd⟩
        have : cutD ds l u = ds := by
          unfold cutD
          rw [← dpa_len da, z.1, z.2, List.drop_zero, dpa_len da, Nat.sub_zero, List.take_length]
        rw [this] at h3
        exact k'.here s3.2 R3 d h3
      · exact h3.elim
    · exact h3.elim⟩⟩⟩
theorem chain_read {r r' : R2} {f g : OpT} {ta tb tc : DTR} (o : OpD P n X r f) (o' : OpD P n X r' g) {σ : L2.St} {H : Hp} {Q : VK} (h : rdE (zOf X P) G0 n (dChain f g ta tb tc) σ H Q) : tChain r r' (rdR (zOf X P) G0 n ta) (rdR (zOf X P) G0 n tb) (rdR (zOf X P) G0 n tc) σ H Q := by
  obtain ⟨F, ρ, G, Q0, s, R, h, k⟩ := h
  refine ⟨F, ρ, G, _, s, R, h, fun r1 ρ1 v1 G1 H1 h1 s1 a1 R1 d1 => ⟨F, ρ1, G1, _, s.trans s1, R1, h1, fun r2 ρ2 v2 G2 H2 h2 s2 a2 R2 d2 => ?_⟩⟩
  unfold derefW at h2
  split at h2
  · rename_i D1 e1
    split at h2
    · rename_i D2 e2
      refine o v1 v2 D1 D2 F G2 ρ2 σ H2 (fun z ρ' => ρ' = ρ2 ∧ (match z with
        | .bool b => if b = true then tc ρ2 fun w ρ3 => derefW ρ3 r2 fun y => derefW ρ3 w fun u => g y u fun z => Q0 z ρ3 else Q0 (.bool false) ρ2
        | _ => False)) _ s2.2 R2 (dq_of R2 (d1.mono s2) e1) (dq_of R2 d2 e2) (by
          have : (fun (z : PyData) => (match z with
            | .bool b => if b = true then tc ρ2 fun w ρ3 => derefW ρ3 r2 fun y => derefW ρ3 w fun u => g y u fun z => Q0 z ρ3 else Q0 (.bool false) ρ2
            | _ => False : Prop)) = fun (z : PyData) => ρ2 = ρ2 ∧ (match z with
            | .bool b => if b = true then tc ρ2 fun w ρ3 => derefW ρ3 r2 fun y => derefW ρ3 w fun u => g y u fun z => Q0 z ρ3 else Q0 (.bool false) ρ2
            | _ => False) := funext fun z => propext ⟨fun q => ⟨rfl, q⟩, fun q => q.2⟩
          rw [← this]
          exact h2) (fun z ρ3 v3 G3 H3 h3 s3 a3 R3 d3 => ?_)
      obtain ⟨rfl, h3⟩ := h3
      split at h3
      · rename_i bb
        cases d3
        refine ⟨bb, rfl, ?_⟩
        cases bb with
        | false => exact k _ _ _ _ _ h3 ((s1.trans s2).trans s3) ((a1.trans a2).trans a3) R3 (.bl _)
        | true =>
          refine ⟨F, ρ3, G3, _, ((s.trans s1).trans s2).trans s3, R3, h3, fun r4 ρ4 v4 G4 H4 h4 s4 a4 R4 d4 => ?_⟩
          unfold derefW at h4
          split at h4
          · rename_i D3 e3
            split at h4
            · rename_i D4 e4
              exact o' v2 v4 D3 D4 F G4 ρ4 σ H4 Q0 Q s4.2 R4 (dq_of R4 (d2.mono (s3.trans s4)) e3) (dq_of R4 d4 e4) h4 (k.after (((s1.trans s2).trans s3).trans s4) (((a1.trans a2).trans a3).trans a4))
            · exact h4.elim
          · exact h4.elim
      · exact h3.elim
    · exact h2.elim
  · exact h2.elim
theorem de_chain {c : Expr} {op op' : CmpOp} {r r' : R2} {f g : OpT} {ta tb tc : DTR} (ho : OpR X (compareOp op) r) (o : OpD P n X r f) (ho' : OpR X (compareOp op') r') (o' : OpD P n X r' g) (ha : DR P G0 n X a ta) (hb : DR P G0 n X b tb) (hc : DR P G0 n X c tc)
    (hm : lastMarks [op, op'] [b, c] = false := by with_unfolding_all rfl) : DE P G0 n X (.Compare a [op, op'] [b, c] pos) (dChain f g ta tb tc) := pe_weak (pe_chain ho ho' ha hb hc hm) fun _ _ _ h => chain_read o o' h
theorem dt_chain {c : Expr} {op op' : CmpOp} {r r' : R2} {f g : OpT} {ta tb tc : DTR} (ho : OpR X (compareOp op) r) (o : OpD P n X r f) (ho' : OpR X (compareOp op') r') (o' : OpD P n X r' g) (ha : DR P G0 n X a ta) (hb : DR P G0 n X b tb) (hc : DR P G0 n X c tc)
    (hm : lastMarks [op, op'] [b, c] = false := by with_unfolding_all rfl) : DT P G0 n X (.Compare a [op, op'] [b, c] pos) (toB (dChain f g ta tb tc)) := pt_weak (pt_chain ho ho' ha hb hc hm) fun _ _ _ h => chain_read o o' (b_read h)
end
end Dl
set_option Elab.async false
set_option linter.all false
set_option maxRecDepth 100000
set_option maxHeartbeats 4000000
namespace SoRv
open PySem PySem.Spec PyProof.Rows L2 RT
section
variable {prog : Program} {w : World} {A : Around} {E : Value → Shared → Prop} {s : Shared}
end
end SoRv
set_option Elab.async false
set_option linter.all false
set_option maxRecDepth 100000
set_option maxHeartbeats 4000000
namespace SoRv
open PySem PySem.Spec PyProof.Rows L2 RT
section
variable {prog : Program} {w : World} {A : Around} {E : Value → Shared → Prop} {s : Shared}
end
end SoRv
set_option Elab.async false
set_option linter.all false
set_option maxRecDepth 100000
set_option maxHeartbeats 4000000
namespace SoZl
open PySem PySem.Spec PyProof.Rows L2
section
variable {prog : Program} {w : World} {A : Around} {E : Value → Shared → Prop} {s : Shared} {S z TI TO i1 i2 l1 l2 : Addr} {i : Nat} {xs ys : Array Value} {x y : Value}
end
/-- the list's tuples -/
def Zd (H : Hp) (ts : List Addr) (qs : List (V × V)) : Prop := Paired (fun (t : Addr) (q : V × V) => H t = some (.tup [q.1, q.2])) ts qs
theorem Zd.mono {H H' : Hp} : ∀ {ts : List Addr} {qs : List (V × V)}, (∀ t xs, H t = some (.tup xs) → H' t = some (.tup xs)) → Zd H ts qs → Zd H' ts qs
  | _, _, _, .nil => .nil
  | _, _, k, .cons h r => .cons (k _ _ h) (Zd.mono k r)
section
variable {X : Cx} {pins : List (Addr × Obj)} {σ : L2.St} {A : Around} {R : Result → Shared → Prop} {S z TI TO i1 i2 l1 l2 : Addr} {res : Value} {xs ys : List V}
end
end SoZl
set_option Elab.async false
set_option linter.all false
set_option maxRecDepth 100000
set_option maxHeartbeats 4000000
namespace Dl
open PySem PySem.Spec PyProof PyProof.Rows L2 So Da
def nbO : Option Lc → Prop
  | some (.ob _ _) => False
  | _ => True
def noOb (ρ : Sto) (i : Nat) : Prop := nbO ρ[i]?
theorem noOb_ne {ρ : Sto} {i : Nat} (h : noOb ρ i) : ∀ a c, ρ[i]? ≠ some (.ob a c) := fun a c e => by
  unfold noOb at h
  rw [e] at h
  exact h
theorem Alike.set {n i : Nat} {ρ : Sto} {lc : Lc} (h : noOb ρ i) : Alike n ρ (ρ.set i lc) := fun j a c _ e => by
  have q : i ≠ j := fun z => noOb_ne h a c (z ▸ e)
  exact ⟨c, by rw [List.getElem?_set_ne q]; exact e⟩
abbrev DTG := PyData → Sto → (Sto → Prop) → Prop
abbrev DTGs := List PyData → Sto → (Sto → Prop) → Prop
/-- only these slots have changed -/
def Chg (is : List Nat) (σ σ' : L2.St) : Prop := σ'.length = σ.length ∧ ∀ j, j ∉ is → σ'[j]? = σ[j]?
theorem Chg.refl {is : List Nat} {σ : L2.St} : Chg is σ σ := ⟨rfl, fun _ _ => rfl⟩
theorem Chg.trans {is js : List Nat} {σ σ1 σ2 : L2.St} (a : Chg is σ σ1) (b : Chg js σ1 σ2) : Chg (is ++ js) σ σ2 := ⟨b.1.trans a.1, fun j h => by
  rw [List.mem_append] at h
  rw [b.2 j (fun z => h (.inr z)), a.2 j (fun z => h (.inl z))]⟩
def KnG (K : Zw) (F : List (Addr × HO)) (n : Nat) (is : List Nat) (Q0 : Sto → Prop) (ρ : Sto) (G : Hp) (σ : L2.St) (Q : L2.St → Hp → Prop) : Prop :=
  ∀ ρ' σ' G' H', Q0 ρ' → Ex K.T G G' → Alike n ρ ρ' → Chg is σ σ' → Rep K F G' ρ' σ' H' → Q σ' H'
def rdG (K : Zw) (G0 : Hp) (n : Nat) (is : List Nat) (t : DTG) : TG := fun v σ H Q => ∃ F ρ G D Q0, Ex K.T G0 G ∧ Rep K F G ρ σ H ∧ Dw K G v D ∧ t D ρ Q0 ∧ KnG K F n is Q0 ρ G σ Q
def rdGs (K : Zw) (G0 : Hp) (n : Nat) (is : List Nat) (t : DTGs) : TGs := fun vs σ H Q => ∃ F ρ G Ds Q0, Ex K.T G0 G ∧ Rep K F G ρ σ H ∧ DwAll K G vs Ds ∧ t Ds ρ Q0 ∧ KnG K F n is Q0 ρ G σ Q
def DG (P : Tb) (G0 : Hp) (n : Nat) (X : Cx) (is : List Nat) (e : Expr) (t : DTG) : Prop := PG X e (rdG (zOf X P) G0 n is t)
def DGs (P : Tb) (G0 : Hp) (n : Nat) (X : Cx) (is : List Nat) (es : List Expr) (t : DTGs) : Prop := PGs X es (rdGs (zOf X P) G0 n is t)
section
variable {P : Tb} {G0 : Hp} {n : Nat} {X : Cx} {is js : List Nat} {e : Expr} {es : List Expr} {pos : Pos}
theorem pg_weak {t t' : TG} (h : PG X e t) (i : ∀ v σ H Q, t' v σ H Q → t v σ H Q) : PG X e t' := ⟨fun pins s σ H v u Q I r q => h.run pins s σ H v u Q I r (i v σ H Q q)⟩
theorem pgs_weak {t t' : TGs} (h : PGs X es t) (i : ∀ v σ H Q, t' v σ H Q → t v σ H Q) : PGs X es t' := ⟨fun pins s σ H v u Q I r q => h.run pins s σ H v u Q I r (i v σ H Q q)⟩
theorem pg_or {t t' : TG} (h : PG X e t) (h' : PG X e t') : PG X e (fun v σ H Q => t v σ H Q ∨ t' v σ H Q) := ⟨fun pins s σ H v u Q I r q => q.elim (h.run pins s σ H v u Q I r) (h'.run pins s σ H v u Q I r)⟩
def dgName (i : Nat) : DTG := fun D ρ Q => noOb ρ i ∧ Q (ρ.set i (.sh D))
theorem dg_name {i : Nat} {x : Str} (hN : X.N.Nodup) (hi : X.N[i]? = some x) (hx : Loc X.env.scope x) (hf : X.fn x = true ∨ X.env.scope.names.lookup x = some .local := by first | exact .inl rfl | exact .inr rfl | assumption) : DG P G0 n X [i] (.Name x pos) (dgName i) :=
  pg_weak (pg_name hN hi hx hf) fun v σ H Q ⟨F, ρ, G, D, Q0, s, R, d, ⟨h1, h2⟩, k⟩ => k _ _ G H h2 (Ex.refl s.2) (.set h1) ⟨List.length_set .., fun j hj => List.getElem?_set_ne (fun z => hj (List.mem_singleton.mpr z.symm))⟩ (R.set (noOb_ne h1) d)
def dgNil : DTGs := fun Ds ρ Q => Ds = [] ∧ Q ρ
def dgCons (t : DTG) (u : DTGs) : DTGs := fun Ds ρ Q => match Ds with
  | D :: r => t D ρ fun ρ' => u r ρ' Q
  | [] => False
theorem dgs_nil : DGs P G0 n X [] [] dgNil := pgs_weak pgs_nil fun v σ H Q ⟨F, ρ, G, Ds, Q0, s, R, d, ⟨h1, h2⟩, k⟩ => by
  subst h1
  cases d
  exact ⟨rfl, k _ _ G H h2 (Ex.refl s.2) .refl .refl R⟩
theorem dgs_cons {t : DTG} {u : DTGs} (h1 : DG P G0 n X is e t) (h2 : DGs P G0 n X js es u) (ha : (assignEach (e :: es) X.env).map (·.2) = assign e X.env :: (assignEach es X.env).map (·.2) := by rfl) : DGs P G0 n X (is ++ js) (e :: es) (dgCons t u) :=
  pgs_weak (pgs_cons h1 h2 ha) fun v σ H Q ⟨F, ρ, G, Ds, Q0, s, R, d, h, k⟩ => by
    unfold dgCons at h
    split at h
    · cases d with
      | cons a b =>
        exact ⟨_, _, rfl, F, ρ, G, _, _, s, R, a, h, fun ρ' σ' G' H' q s' al c R' => ⟨F, ρ', G', _, Q0, s.trans s', R', DwAll.mono s' b, q, fun ρ2 σ2 G2 H2 q2 s2 al2 c2 R2 => k ρ2 σ2 G2 H2 q2 (s'.trans s2) (al.trans al2) (c.trans c2) R2⟩⟩
    · exact h.elim
def dgSeq (m : Nat) (u : DTGs) : DTG := fun D ρ Q => match D with
  | .tuple ds => ds.length = m ∧ u ds ρ Q
  | .list ds => ds.length = m ∧ u ds ρ Q
  | _ => False
theorem dg_seq {k m : Nat} {u : DTGs} (hc : X.calm = true) (h : DGs P G0 n X is es u) (hn : (assignEach es X.env).length = m := by rfl) (hst : (assignEach es X.env).findIdx? (·.1) = none := by rfl) : DG P G0 n X is (.Tuple es k pos) (dgSeq m u) :=
  pg_weak (pg_or (pg_tup hc h hn hst) (pg_unl hc h hn hst)) fun v σ H Q ⟨F, ρ, G, D, Q0, s, R, d, h, kk⟩ => by
    unfold dgSeq at h
    split at h
    · cases d with
      | tup a b => exact .inl ⟨_, _, rfl, (R.sm s.2).tup a, by rw [dpa_len b]; exact h.1, F, ρ, G, _, Q0, s, R, b, h.2, kk⟩
    · cases d with
      | lst a b => exact .inr ⟨_, _, rfl, (R.sm s.2).lst a, by rw [dpa_len b]; exact h.1, F, ρ, G, _, Q0, s, R, b, h.2, kk⟩
    · exact h.elim
end
structure Wk (K : Zw) (J : It) (Ds : List PyData) (G' : Hp) : Prop where
  goes : ∀ {i : Nat} {H G1 : Hp} {F : List (Addr × HO)} {ρ : Sto} {σ : L2.St}, i < Ds.length → Ex K.T G' G1 → Rep K F G1 ρ σ H → J.go i H
  stops : ∀ {H G1 : Hp} {F : List (Addr × HO)} {ρ : Sto} {σ : L2.St}, Ex K.T G' G1 → Rep K F G1 ρ σ H → J.stop Ds.length H
  yields : ∀ {i : Nat} {H : Hp} {x : V} {H' G1 : Hp} {F : List (Addr × HO)} {ρ : Sto} {σ : L2.St}, i < Ds.length → Ex K.T G' G1 → Rep K F G1 ρ σ H → J.yld i H x H' →
    ∃ d G2, Ds[i]? = some d ∧ Ex K.T G1 G2 ∧ Rep K F G2 ρ σ H' ∧ Dw K G2 x d
abbrev DTI := Sto → (List PyData → Sto → Prop) → Prop
def rdI (K : Zw) (G0 : Hp) (n : Nat) (t : DTI) : TI := fun σ H R => ∃ F ρ G Q0, Ex K.T G0 G ∧ Rep K F G ρ σ H ∧ t ρ Q0 ∧
  ∀ Ds ρ' G' H' J, Q0 Ds ρ' → Ex K.T G G' → Alike n ρ ρ' → Rep K F G' ρ' σ H' → Wk K J Ds G' → R J H'
def DI (P : Tb) (G0 : Hp) (n : Nat) (X : Cx) (tg iter : Expr) (t : DTI) : Prop := PI X tg iter (rdI (zOf X P) G0 n t)
theorem pi_weak {X : Cx} {tg iter : Expr} {t t' : TI} (h : PI X tg iter t) (i : ∀ σ H R, t' σ H R → t σ H R) : PI X tg iter t' := ⟨fun pins s σ H R I q => h.run pins s σ H R I (i σ H R q)⟩
section
variable {P : Tb} {G0 : Hp} {n : Nat} {X : Cx} {tg e e2 : Expr} {pos : Pos}
theorem wk_at {K : Zw} {J : It} {xs : List V} {Gd : Hp → Prop} {Ds : List PyData} {G' : Hp} (t : Tg G' K.T) (w : Walk J xs.length Gd (YAt xs)) (g : ∀ H, Ex K.T G' H → Gd H) (d : DwAll K G' xs Ds) : Wk K J Ds G' := by
  have l := dpa_len d
  refine ⟨fun h s R => w.goes _ _ (by omega) (g _ (s.trans (R.sm s.2))), fun s R => by rw [← l]; exact w.stops _ (g _ (s.trans (R.sm s.2))), fun {i H x H' G1 F ρ σ} h s R y => ?_⟩
  obtain ⟨rfl, e⟩ := w.yields _ _ _ _ (by omega) (g _ (s.trans (R.sm s.2))) y
  obtain ⟨d', h1, h2⟩ := dpa_at d e
  exact ⟨d', G1, h1, Ex.refl s.2, R, Dw.mono s h2⟩
theorem wk_pair {K : Zw} {J : It} {m : Nat} {fx fy : Nat → Option V} {Gd : Hp → Prop} {Ds : List PyData} {G' : Hp} (w : Walk J m Gd (YPair fx fy)) (l : Ds.length = m) (g : ∀ H, Ex K.T G' H → Gd H) (d : ∀ i x y, i < m → fx i = some x → fy i = some y → ∀ H, Ex K.T G' H → ∃ dx dy, Ds[i]? = some (.tuple [dx, dy]) ∧ Dw K H x dx ∧ Dw K H y dy ∧ txV [x, y] = false) : Wk K J Ds G' := by
  refine ⟨fun h s R => w.goes _ _ (by omega) (g _ (s.trans (R.sm s.2))), fun s R => by rw [l]; exact w.stops _ (g _ (s.trans (R.sm s.2))), fun {i H x H' G1 F ρ σ} h s R y => ?_⟩
  obtain ⟨T, x1, y1, rfl, hT, rfl, h1, h2⟩ := w.yields _ _ _ _ (by omega) (g _ (s.trans (R.sm s.2))) y
  obtain ⟨dx, dy, q, q1, q2, q3⟩ := d i x1 y1 (by omega) h1 h2 G1 s
  obtain ⟨gp, R'⟩ := R.new (o := .tup [x1, y1]) s.2 hT q3
  have s2 := Ex.new s.2 gp (o := .tup [x1, y1])
  exact ⟨_, _, q, s2, R', .tup (.inl (.inl upd_same)) (.cons (Dw.mono s2 q1) (.cons (Dw.mono s2 q2) .nil))⟩
def itemsD (D : PyData) (Q : List PyData → Prop) : Prop := match D with
  | .list ds => Q ds
  | .tuple ds => Q ds
  | _ => False
/-- what is walked: a list or a tuple, as it comes -/
def iSqA (K : PySem.W.Frag) (tl : TE) : TI := fun σ H R => tl σ H fun x H1 => ∃ a, x = .ref a ∧ ((∃ xs, SqL K H1 a xs) ∧ R (Itl K a) H1 ∨ (∃ xs, SqT K H1 a xs) ∧ R (Itt K a) H1)
theorem pi_sqA {tl : TE} (hl : PE X e tl) : PI X tg e (iSqA X.K tl) := by
  refine ⟨fun pins s σ H R I h => ?_⟩
  refine thn (hl.run pins s σ H _ I h) fun v s1 ⟨x, H1, I1, r1, q1⟩ => ?_
  obtain ⟨a, rfl, q1⟩ := q1
  cases r1
  rcases q1 with ⟨⟨xs, hq⟩, q⟩ | ⟨⟨xs, hq⟩, q⟩
  · obtain ⟨its, rv, p, hz⟩ := I1.list hq
    refine wpAny_pyIter_list p.isList ?_
    refine ⟨s1.heap.objs.size, [s1.heap.objs.size], _, _, H1, rfl, I1.kept (t' := s1.toks) fun b o e => Heap.get?_push_of_some _ e, turn_list a _, ⟨_, Heap.get?_push_size _ rfl, rfl, rfl⟩, fun b hb => ?_, q⟩
    have e : b = s1.heap.objs.size := by simpa using hb
    subst e
    exact I1.fpOk (Nat.le_refl _) (I1.hok.fresh (Nat.le_refl _))
  · obtain ⟨its, rv, p, hz⟩ := I1.tuple hq
    refine wpAny_pyIter_tuple (show s1.heap.IsTuple a its.toArray from p) ?_
    refine ⟨s1.heap.objs.size, [s1.heap.objs.size], _, _, H1, rfl, I1.kept (t' := s1.toks) fun b o e => Heap.get?_push_of_some _ e, turn_tuple a _, ⟨_, Heap.get?_push_size _ rfl, rfl, rfl⟩, fun b hb => ?_, q⟩
    have e : b = s1.heap.objs.size := by simpa using hb
    subst e
    exact I1.fpOk (Nat.le_refl _) (I1.hok.fresh (Nat.le_refl _))
def iEnA (K : PySem.W.Frag) (ta : TA) : TI := fun σ H R => ta σ H fun vs H1 => ∃ a xs, vs = [.ref a] ∧ (SqL K H1 a xs ∧ R (Ite K a) H1 ∨ SqT K H1 a xs ∧ R (SoE.IteT K a) H1)
theorem pi_enA {ta : TA} {p tpos : Pos} {elts : List Expr} {kk : Nat} (hg : Gl X "enumerate") (hm : X.mg "enumerate" = none) (ha : PA X [e] ta) (hs : starEach [e] X.env = [(false, eval e X.env)] := by rfl) :
    PI X (.Tuple elts kk tpos) (.Call (.Name "enumerate" p) [e] [] pos) (iEnA X.K ta) := by
  refine ⟨fun pins s σ H R I h => ?_⟩
  refine Call_ (ld_blt I hg hm boot_enumerate (PyProof.Rows.callWith_type1 (thn (ha.run pos pins s σ H _ I h) fun us z hz => ?_) hs rfl))
  obtain ⟨vs, H1, I1, r1, a, xs, rfl, q1⟩ := hz
  cases r1 with
  | cons r rr =>
    cases rr
    cases r
    rcases q1 with ⟨hq, q⟩ | ⟨hq, q⟩
    · obtain ⟨its, rv, p', hz⟩ := I1.list hq
      refine call_enumerate_list p'.isList fun h' he hit hsz hk => wpAny_pyIter_enum he ?_
      have I2 : Inv X pins σ H1 { z with heap := h' } := I1.kept (t' := z.toks) hk
      refine ⟨z.heap.objs.size + 1, [z.heap.objs.size + 1, z.heap.objs.size], _, _, H1, rfl, I2, turn_enum a (z.heap.objs.size + 1) z.heap.objs.size, ⟨⟨.none, he⟩, hit, Nat.succ_ne_self _⟩, fun b hb => ?_, q⟩
      have e' : b = z.heap.objs.size + 1 ∨ b = z.heap.objs.size := by simpa using hb
      have hle : z.heap.objs.size ≤ b := by
        rcases e' with y | y
        · rw [y]; exact Nat.le_add_right _ _
        · rw [y]; exact Nat.le_refl _
      exact I1.fpOk hle (I1.hok.fresh hle)
    · obtain ⟨its, rv, p', hz⟩ := I1.tuple hq
      refine SoE.enum_call (begins_tuple a its.toArray) (show z.heap.IsTuple a its.toArray from p') fun h' he hit hsz hk => wpAny_pyIter_enum he ?_
      have I2 : Inv X pins σ H1 { z with heap := h' } := I1.kept (t' := z.toks) hk
      refine ⟨z.heap.objs.size + 1, [z.heap.objs.size + 1, z.heap.objs.size], _, _, H1, rfl, I2, SoE.turn_enumT a (z.heap.objs.size + 1) z.heap.objs.size, ⟨⟨.none, he⟩, ⟨_, hit, rfl, rfl⟩, Nat.succ_ne_self _⟩, fun b hb => ?_, q⟩
      have e' : b = z.heap.objs.size + 1 ∨ b = z.heap.objs.size := by simpa using hb
      have hle : z.heap.objs.size ≤ b := by
        rcases e' with y | y
        · rw [y]; exact Nat.le_add_right _ _
        · rw [y]; exact Nat.le_refl _
      exact I1.fpOk hle (I1.hok.fresh hle)
theorem walk_zipT {K : PySem.W.Frag} {a b : Addr} {xs ys : List V} {n : Nat} (hn : n = min xs.length ys.length) : Walk (RZ.ItzT K a b) n (fun H => SqT K H a xs ∧ SqT K H b ys) (YPair (fun i => xs[i]?) (fun i => ys[i]?)) := by
  subst hn
  refine ⟨fun i _ hi q => ?_, fun _ q => ⟨xs, ys, q.1, q.2, by omega⟩, fun i H v H' _ q y => ?_⟩
  · have h1 : i < xs.length := by omega
    have h2 : i < ys.length := by omega
    exact ⟨xs, ys, xs[i], ys[i], q.1, q.2, by simp [h1], by simp [h2]⟩
  · obtain ⟨T, x, z, h1, h2, h3, h4, h5⟩ := y
    exact ⟨T, x, z, h1, h2, h3, h4 xs q.1, h5 ys q.2⟩
/-- for x in a list or a tuple -/
theorem di_seq {t : DTE} (h : DE P G0 n X e t) : DI P G0 n X tg e (fun ρ Q => t ρ fun D ρ' => itemsD D fun ds => Q ds ρ') := pi_weak (pi_sqA h) fun σ H R ⟨F, ρ, G, Q0, s, Rp, h, k⟩ =>
  ⟨F, ρ, G, _, s, Rp, h, fun D ρ' v G' H' q s' al R' d => by
    unfold itemsD at q
    split at q
    · cases d with
      | lst a b => exact ⟨_, rfl, .inl ⟨⟨_, (R'.sm s'.2).lst a⟩, k _ _ _ _ _ q s' al R' (wk_at s'.2 walk_list (fun H s2 => s2.lst a) b)⟩⟩
    · cases d with
      | tup a b => exact ⟨_, rfl, .inr ⟨⟨_, (R'.sm s'.2).tup a⟩, k _ _ _ _ _ q s' al R' (wk_at s'.2 walk_tup (fun H s2 => s2.tup a) b)⟩⟩
    · exact q.elim⟩
/-- for i, x in enumerate(..) -/
def enumD (ds : List PyData) : List PyData := ds.mapIdx fun i d => .tuple [.int (i : Nat), d]
theorem di_enum {t : DTE} {p tpos : Pos} {elts : List Expr} {kk : Nat} (hg : Gl X "enumerate") (hm : X.mg "enumerate" = none) (h : DE P G0 n X e t) (hs : starEach [e] X.env = [(false, eval e X.env)] := by rfl) (hs2 : starEach [e] X.env = (false, eval e X.env) :: starEach [] X.env := by rfl) :
    DI P G0 n X (.Tuple elts kk tpos) (.Call (.Name "enumerate" p) [e] [] pos) (fun ρ Q => t ρ fun D ρ' => itemsD D fun ds => Q (enumD ds) ρ') := pi_weak (pi_enA hg hm (pa_cons h pa_nil hs2) hs) fun σ H R ⟨F, ρ, G, Q0, s, Rp, h, k⟩ =>
  ⟨F, ρ, G, _, s, Rp, h, fun D ρ' v G' H' q s' al R' d => by
    have key : ∀ {xs : List V} {ds : List PyData}, DwAll (zOf X P) G' xs ds → ∀ i x y, i < xs.length → (fun i : Nat => some (V.int (i : Nat))) i = some x → (fun i => xs[i]?) i = some y → ∀ H, Ex P G' H → ∃ dx dy, (enumD ds)[i]? = some (.tuple [dx, dy]) ∧ Dw (zOf X P) H x dx ∧ Dw (zOf X P) H y dy ∧ txV [x, y] = false := fun {xs ds} b i x y _ e1 e2 H s2 => by
      cases e1
      obtain ⟨d', h1, h2⟩ := dpa_at b e2
      refine ⟨.int (i : Nat), d', ?_, .int _, Dw.mono s2 h2, rfl⟩
      unfold enumD
      rw [List.getElem?_mapIdx, h1]
      rfl
    have len : ∀ {xs : List V} {ds : List PyData}, DwAll (zOf X P) G' xs ds → (enumD ds).length = xs.length := fun b => by unfold enumD; rw [List.length_mapIdx, dpa_len b]
    unfold itemsD at q
    split at q
    · cases d with
      | lst a b => exact ⟨_, _, rfl, .inl ⟨(R'.sm s'.2).lst a, k _ _ _ _ _ q s' al R' (wk_pair walk_enum (len b) (fun H s2 => s2.lst a) (key b))⟩⟩
    · cases d with
      | tup a b => exact ⟨_, _, rfl, .inr ⟨(R'.sm s'.2).tup a, k _ _ _ _ _ q s' al R' (wk_pair SoE.walk_enumT (len b) (fun H s2 => s2.tup a) (key b))⟩⟩
    · exact q.elim⟩
/-- for i in range(k), range(j, k) -/
def rngD (lo : Int) (m : Nat) : List PyData := (List.range m).map fun i => .int (lo + (i : Nat))
theorem wk_rng {K : Zw} {lo : Int} {m : Nat} {G' : Hp} : Wk K (Itr lo m) (rngD lo m) G' := by
  have l : (rngD lo m).length = m := by unfold rngD; rw [List.length_map, List.length_range]
  refine ⟨fun h s R => walk_range.goes _ _ (by omega) trivial, fun s R => by rw [l]; exact walk_range.stops _ trivial, fun {i H x H' G1 F ρ σ} h s R y => ?_⟩
  rw [l] at h
  obtain ⟨e1, e2⟩ := walk_range.yields _ _ _ _ h trivial y
  subst e1 e2
  refine ⟨.int (lo + (i : Nat)), G1, ?_, Ex.refl s.2, R, .int _⟩
  unfold rngD
  rw [List.getElem?_map, List.getElem?_range h]
  rfl
theorem di_range {t : DTE} {p : Pos} (hg : Gl X "range") (hm : X.mg "range" = none) (h : DE P G0 n X e t) (hs : starEach [e] X.env = [(false, eval e X.env)] := by rfl) (hs2 : starEach [e] X.env = (false, eval e X.env) :: starEach [] X.env := by rfl) :
    DI P G0 n X tg (.Call (.Name "range" p) [e] [] pos) (fun ρ Q => t ρ fun D ρ' => match D with
      | .int j => -(2 ^ 62) ≤ j ∧ j < 2 ^ 62 ∧ Q (rngD 0 j.toNat) ρ'
      | _ => False) := pi_weak (pi_range1 hg hm (pa_cons h pa_nil hs2) hs) fun σ H R ⟨F, ρ, G, Q0, s, Rp, h, k⟩ =>
  ⟨F, ρ, G, _, s, Rp, h, fun D ρ' v G' H' q s' al R' d => by
    split at q
    · cases d
      exact ⟨_, rfl, q.1, q.2.1, k _ _ _ _ _ q.2.2 s' al R' wk_rng⟩
    · exact q.elim⟩
end
def wipeD (ρ : Sto) : List Nat → Sto
  | [] => ρ
  | v :: vs => (wipeD ρ vs).set v .un
def noObs (ρ : Sto) : List Nat → Prop
  | [] => True
  | v :: vs => noOb ρ v ∧ noObs ρ vs
/-- the items of a comprehension, from the left; its block leaves the slots as they are -/
def lcW (ρw : Sto) (vs : List Nat) (g : DTG) (tt : DTT) (te : DTE) : List PyData → List PyData → (List PyData → Prop) → Prop
  | [], acc, Q => Q acc
  | d :: ds, acc, Q => g d ρw fun ρ1 => tt ρ1 fun b ρ2 => if b = true then te ρ2 fun y ρ3 => (noObs ρ3 vs ∧ wipeD ρ3 vs = ρw) ∧ acc.length < sizeLine ∧ lcW ρw vs g tt te ds (acc ++ [y]) Q else (noObs ρ2 vs ∧ wipeD ρ2 vs = ρw) ∧ lcW ρw vs g tt te ds acc Q
section
variable {K : Zw} {F : List (Addr × HO)} {G G' H H' : Hp} {ρ ρ' : Sto} {σ σ' : L2.St} {n : Nat}
theorem wipeD_length : ∀ vs : List Nat, (wipeD ρ vs).length = ρ.length
  | [] => rfl
  | v :: vs => by unfold wipeD; rw [List.length_set, wipeD_length vs]
theorem wipeD_some0 {lc : Lc} (nu : lc ≠ .un) {i : Nat} : ∀ {vs : List Nat}, (wipeD ρ vs)[i]? = some lc → ρ[i]? = some lc ∧ i ∉ vs
  | [], h => ⟨h, by simp⟩
  | v :: vs, h => by
    unfold wipeD at h
    by_cases hi : v = i
    · subst hi
      rw [List.getElem?_set] at h
      simp only [if_pos] at h
      split at h
      · exact absurd (Option.some.inj h).symm nu
      · cases h
    · rw [List.getElem?_set_ne hi] at h
      obtain ⟨h1, h2⟩ := wipeD_some0 nu (vs := vs) h
      exact ⟨h1, fun z => (List.mem_cons.mp z).elim (fun z => hi z.symm) h2⟩
theorem wipeD_sh {vs : List Nat} {i : Nat} {D : PyData} (h : (wipeD ρ vs)[i]? = some (.sh D)) : ρ[i]? = some (.sh D) ∧ i ∉ vs := wipeD_some0 (fun z => Lc.noConfusion z) h
theorem wipeD_ob {vs : List Nat} {i : Nat} {a : Addr} {c : Oc} (h : (wipeD ρ vs)[i]? = some (.ob a c)) : ρ[i]? = some (.ob a c) ∧ i ∉ vs := wipeD_some0 (fun z => Lc.noConfusion z) h
theorem wipeD_out {i : Nat} : ∀ {vs : List Nat}, i ∉ vs → (wipeD ρ vs)[i]? = ρ[i]?
  | [], _ => rfl
  | v :: vs, h => by
    unfold wipeD
    rw [List.getElem?_set_ne (fun e => h (by rw [e]; exact List.mem_cons_self)), wipeD_out fun m => h (List.mem_cons_of_mem _ m)]
theorem noObs_mem : ∀ {vs : List Nat} {i : Nat}, noObs ρ vs → i ∈ vs → noOb ρ i
  | v :: vs, i, h, m => by
    rcases List.mem_cons.mp m with rfl | m
    · exact h.1
    · exact noObs_mem h.2 m
theorem wipeD_exc {vs : List Nat} {i : Nat} {a C d : Addr} {D : PyData} (h : (wipeD ρ vs)[i]? = some (.exc a C d D)) : ρ[i]? = some (.exc a C d D) ∧ i ∉ vs := wipeD_some0 (fun z => Lc.noConfusion z) h
theorem wipeD_ask {vs : List Nat} {i : Nat} {O : Fk} (h : (wipeD ρ vs)[i]? = some (.ask O)) : ρ[i]? = some (.ask O) ∧ i ∉ vs := wipeD_some0 (fun z => Lc.noConfusion z) h
theorem Rep.wipe {vs : List Nat} (h : noObs ρ vs) (R : Rep K F G ρ σ H) : Rep K F G (wipeD ρ vs) (L2.wipe σ vs) H where
  len := by rw [wipe_length, wipeD_length]; exact R.len
  sh := fun {i D} e => by
    obtain ⟨h1, h2⟩ := wipeD_sh e
    rw [wipe_out h2]
    exact R.sh h1
  ob := fun {i a c} e => by
    obtain ⟨h1, h2⟩ := wipeD_ob e
    rw [wipe_out h2]
    exact R.ob h1
  exc := fun e => by
    obtain ⟨h1, h2⟩ := wipeD_exc e
    rw [wipe_out h2]
    exact R.exc h1
  ask := fun e => by
    obtain ⟨h1, h2⟩ := wipeD_ask e
    rw [wipe_out h2]
    exact R.ask h1
  uniq := fun e e' => R.uniq (wipeD_ob e).1 (wipeD_ob e').1
  ex := fun m => ⟨(R.ex m).1, (R.ex m).2.1, fun ⟨i, c, e⟩ => (R.ex m).2.2.1 ⟨i, c, (wipeD_ob e).1⟩, (R.ex m).2.2.2⟩
  sub := R.sub
  nt := R.nt
/-- the slots that were wiped are as they were -/
theorem Rep.unwipe {vs : List Nat} {F' : List (Addr × HO)} {H1 : Hp} (h : noObs ρ vs) (R : Rep K F G ρ σ H) (s : Ex K.T G G') (R' : Rep K F' G' (wipeD ρ vs) (L2.wipe σ vs) H1) : Rep K F' G' ρ σ H1 where
  len := R.len
  sh := fun {i D} e => by
    obtain ⟨v, h1, h2⟩ := R.sh e
    exact ⟨v, h1, Dw.mono s h2⟩
  ob := fun {i a c} e => by
    have m : i ∉ vs := fun m => noOb_ne (noObs_mem h m) _ _ e
    obtain ⟨h1, h2⟩ := R'.ob (i := i) (by rw [wipeD_out m]; exact e)
    exact ⟨(R.ob e).1, h2⟩
  exc := fun {i a C d D} e => by
    obtain ⟨h1, v, h2, h3⟩ := R.exc e
    exact ⟨h1, v, s.1 _ _ h2 (fun _ z => nomatch z), h3.mono s⟩
  ask := fun {i O} e => by
    obtain ⟨f, h1, h2⟩ := R.ask e
    exact ⟨f, h1, h2.mono s⟩
  uniq := fun e e' => R.uniq e e'
  ex := fun m => ⟨(R'.ex m).1, (R'.ex m).2.1, fun ⟨i, c, e⟩ => (R'.ex m).2.2.1 ⟨i, c, by
    rw [wipeD_out fun m => noOb_ne (noObs_mem h m) _ _ e]
    exact e⟩, (R'.ex m).2.2.2⟩
  sub := R'.sub
  nt := R'.nt
theorem Rep.push {D : Addr} {o : HO} (R : Rep K F G ρ σ H) (h : H D = none) (l : Lcl o := by exact lcl_lst) : Rep K ((D, o) :: F) G ρ σ (upd H D o) where
  len := R.len
  sh := R.sh
  ob := fun {i a c} e => by
    obtain ⟨h1, h2, o, h3, h4⟩ := R.ob e
    exact ⟨h1, h2, o, by rw [upd_ne (ne_of_none h3 h)]; exact h3, h4⟩
  exc := R.exc
  ask := R.ask
  uniq := R.uniq
  ex := fun {a o} m => by
    rcases List.mem_cons.mp m with e | m
    · cases e
      refine ⟨upd_same, R.gnone h, fun ⟨i, c, e⟩ => ?_, l⟩
      obtain ⟨_, _, o, h3, _⟩ := R.ob e
      rw [h3] at h
      cases h
    · obtain ⟨h1, h2⟩ := R.ex m
      exact ⟨by rw [upd_ne (ne_of_none h1 h)]; exact h1, h2⟩
  sub := fun b u e => by
    rw [upd_ne (ne_of_none (R.sub b u e) h)]
    exact R.sub b u e
  nt := R.nt
theorem Rep.grow {D : Addr} {o u : HO} (nF : ∀ o, (D, o) ∉ F) (R : Rep K ((D, o) :: F) G ρ σ H) (l : Lcl u := by exact lcl_lst) : Rep K ((D, u) :: F) G ρ σ (upd H D u) where
  len := R.len
  sh := R.sh
  ob := fun {i a c} e => by
    obtain ⟨h1, h2, o, h3, h4⟩ := R.ob e
    have q : a ≠ D := fun z => by
      subst z
      exact (R.ex List.mem_cons_self).2.2.1 ⟨i, c, e⟩
    exact ⟨h1, h2, o, by rw [upd_ne q]; exact h3, h4⟩
  exc := R.exc
  ask := R.ask
  uniq := R.uniq
  ex := fun {a o} m => by
    rcases List.mem_cons.mp m with e | m
    · cases e
      exact ⟨upd_same, (R.ex List.mem_cons_self).2.1, (R.ex List.mem_cons_self).2.2.1, l⟩
    · obtain ⟨h1, h2⟩ := R.ex (List.mem_cons_of_mem _ m)
      have q : a ≠ D := fun z => by
        rw [z] at m
        exact nF o m
      exact ⟨by rw [upd_ne q]; exact h1, h2⟩
  sub := fun b u e => by
    rw [upd_ne (fun z => by rw [z, (R.ex List.mem_cons_self).2.1] at e; cases e)]
    exact R.sub b u e
  nt := R.nt
/-- the list that was made stands for good -/
theorem Rep.land {D : Addr} {o : HO} (t : Tg G K.T) (nF : ∀ o, (D, o) ∉ F) (R : Rep K ((D, o) :: F) G ρ σ H) (nt : NTo o := by exact trivial) : Ex K.T G (upd G D o) ∧ Rep K F (upd G D o) ρ σ H := by
  obtain ⟨e1, e2, e3, _⟩ := R.ex List.mem_cons_self
  have s : Ex K.T G (upd G D o) := Ex.new t e2
  have R1 : Rep K F G ρ σ H := ⟨R.len, R.sh, R.ob, R.exc, R.ask, R.uniq, fun m => R.ex (List.mem_cons_of_mem _ m), R.sub, R.nt⟩
  refine ⟨s, R1.grow0 s (fun {i a c} e => ?_) (fun {a u} m => ?_) (fun b u e => ?_) (R.nt.upd nt)⟩
  · rw [upd_ne fun z => ?_]
    · exact (R.ob e).2.1
    · subst z
      exact e3 ⟨i, c, e⟩
  · rw [upd_ne fun z => ?_]
    · exact (R1.ex m).2.1
    · rw [z] at m
      exact nF u m
  · by_cases q : b = D
    · rw [q, upd_same] at e
      cases e
      rw [q]
      exact e1
    · rw [upd_ne q] at e
      exact R.sub b u e
theorem wipe_chg {is vs : List Nat} (c : Chg is (L2.wipe σ vs) σ') (sub : ∀ i ∈ is, i ∈ vs) : L2.wipe σ' vs = L2.wipe σ vs := by
  have inn : ∀ {τ : L2.St} {vs : List Nat} {i : Nat}, i ∈ vs → i < τ.length → (L2.wipe τ vs)[i]? = some none := by
    intro τ vs
    induction vs with
    | nil => intro i m; cases m
    | cons v vs ih =>
      intro i m l
      unfold L2.wipe
      by_cases q : v = i
      · subst q
        rw [List.getElem?_set_self (by rw [wipe_length]; exact l)]
      · rw [List.getElem?_set_ne q]
        exact ih ((List.mem_cons.mp m).resolve_left (Ne.symm q)) l
  have l : σ'.length = σ.length := c.1.trans (wipe_length σ vs)
  refine List.ext_getElem? fun i => ?_
  by_cases m : i ∈ vs
  · by_cases q : i < σ.length
    · rw [inn m (by omega), inn m q]
    · rw [List.getElem?_eq_none_iff.mpr (by rw [wipe_length]; omega), List.getElem?_eq_none_iff.mpr (by rw [wipe_length]; omega)]
  · rw [wipe_out m, c.2 i fun z => m (sub i z)]
end
section
variable {P : Tb} {G0 : Hp} {n : Nat} {X : Cx} {elt tg iter : Expr} {ifs : List Expr} {scope : Scope} {own : List (Str × Nat)} {pos : Pos} {is : List Nat} {ti : DTI} {g : DTG} {tt : DTT} {te : DTE}
/-- a fresh list: its content -/
abbrev DTF := Sto → (List PyData → Sto → Prop) → Prop
def KnF (K : Zw) (F : List (Addr × HO)) (n : Nat) (Q0 : List PyData → Sto → Prop) (ρ : Sto) (G : Hp) (σ : L2.St) (Q : VK) : Prop :=
  ∀ Ds ρ' vs G' H' p, Q0 Ds ρ' → Ex K.T G G' → Alike n ρ ρ' → Rep K ((p, .lst vs) :: F) G' ρ' σ H' → (∀ o, (p, o) ∉ F) → DwAll K G' vs Ds → Q (.ref p) H'
def rdF (K : Zw) (G0 : Hp) (n : Nat) (t : DTF) : TE := fun σ H Q => ∃ F ρ G Q0, Ex K.T G0 G ∧ Rep K F G ρ σ H ∧ t ρ Q0 ∧ KnF K F n Q0 ρ G σ Q
def DF (P : Tb) (G0 : Hp) (n : Nat) (X : Cx) (e : Expr) (t : DTF) : Prop := PE X e (rdF (zOf X P) G0 n t)
theorem de_of_df {e : Expr} {t : DTF} (h : DF P G0 n X e t) : DE P G0 n X e (fun ρ Q => t ρ fun ds ρ' => Q (.list ds) ρ') := pe_weak h fun σ H Q ⟨F, ρ, G, Q0, s, R, h, k⟩ =>
  ⟨F, ρ, G, _, s, R, h, fun Ds ρ' vs G' H' p q s' al R' nF d => by
    obtain ⟨s2, R2⟩ := R'.land s'.2 nF
    exact k _ _ _ _ _ q (s'.trans s2) al R2 (.lst (.inl (.inl upd_same)) (DwAll.mono s2 d))⟩
def dLc (vs : List Nat) (ti : DTI) (g : DTG) (tt : DTT) (te : DTE) : DTF := fun ρ Q => ti ρ fun ds ρ1 => noObs ρ1 vs ∧ lcW (wipeD ρ1 vs) vs g tt te ds [] fun acc => Q acc ρ1
theorem lc_read {vs : List Nat} {σ : L2.St} {H : Hp} {Q : VK} (sub : ∀ i ∈ is, i ∈ vs) (h : rdF (zOf X P) G0 n (dLc vs ti g tt te) σ H Q) : tLc (rdI (zOf X P) G0 n ti) (rdG (zOf X P) G0 n is g) (rdT (zOf X P) G0 n tt) (rdE (zOf X P) G0 n te) vs σ H Q := by
  obtain ⟨F, ρ, G, Q0, s, R, h, k⟩ := h
  refine ⟨F, ρ, G, _, s, R, h, fun Ds ρ1 G1 H1 J ⟨no, q1⟩ s1 al1 R1 w D hD => ?_⟩
  have nF : ∀ o, (D, o) ∉ F := fun o m => by
    rw [(R1.ex m).1] at hD
    cases hD
  refine ⟨fun i m H2 => m = Ds.length - i ∧ i ≤ Ds.length ∧ ∃ acc us G2, Ex P G1 G2 ∧ Rep (zOf X P) ((D, .lst us) :: F) G2 (wipeD ρ1 vs) (L2.wipe σ vs) H2 ∧ DwAll (zOf X P) G2 us acc ∧ lcW (wipeD ρ1 vs) vs g tt te (Ds.drop i) acc (fun acc => Q0 acc ρ1),
    ⟨_, by rw [Nat.sub_zero], Nat.zero_le _, [], [], G1, Ex.refl s1.2, (R1.wipe no).push hD, .nil, q1⟩, ?_⟩
  rintro i m H2 ⟨rfl, hi, acc, us, G2, s2, R2, d2, q2⟩
  have s01 := s.trans s1
  by_cases hl : i < Ds.length
  · refine .inr ⟨w.goes hl s2 R2, fun H' => i + 1 ≤ Ds.length ∧ ∃ acc us G2, Ex P G1 G2 ∧ Rep (zOf X P) ((D, .lst us) :: F) G2 (wipeD ρ1 vs) (L2.wipe σ vs) H' ∧ DwAll (zOf X P) G2 us acc ∧ lcW (wipeD ρ1 vs) vs g tt te (Ds.drop (i + 1)) acc (fun acc => Q0 acc ρ1), fun H' z => ⟨_, by omega, rfl, z⟩, fun x H3 y => ?_⟩
    obtain ⟨d, G3, e3, s3, R3, dx⟩ := w.yields hl s2 R2 y
    rw [List.drop_eq_getElem_cons hl] at q2
    have e3' : Ds[i] = d := by rw [List.getElem?_eq_getElem hl] at e3; exact Option.some.inj e3
    rw [e3'] at q2
    unfold lcW at q2
    refine ⟨(D, .lst us) :: F, wipeD ρ1 vs, G3, d, _, (s01.trans s2).trans s3, R3, dx, q2, fun ρ4 σ4 G4 H4 q4 s4 al4 c4 R4 => ⟨wipe_chg c4 sub, (D, .lst us) :: F, ρ4, G4, _, ((s01.trans s2).trans s3).trans s4, R4, q4, fun b ρ5 G5 H5 q5 s5 al5 R5 => ?_⟩⟩
    have s35 := (s3.trans s4).trans s5
    have back : ∀ {τ : Sto} {G6 H6 : Hp} {F' : List (Addr × HO)}, wipeD τ vs = wipeD ρ1 vs → noObs τ vs → Rep (zOf X P) F' G6 τ σ4 H6 → Rep (zOf X P) F' G6 (wipeD ρ1 vs) (L2.wipe σ vs) H6 := fun {τ G6 H6 F'} e no' R' => by
      have := R'.wipe no'
      rw [e, wipe_chg c4 sub] at this
      exact this
    cases b with
    | false =>
      exact ⟨hl, acc, us, G5, s2.trans s35, back q5.1.2 q5.1.1 R5, DwAll.mono s35 d2, q5.2⟩
    | true =>
      refine ⟨(D, .lst us) :: F, ρ5, G5, _, (((s01.trans s2).trans s3).trans s4).trans s5, R5, q5, fun yv ρ6 v6 G6 H6 ⟨e6, l6, q6⟩ s6 al6 R6 d6 => ?_⟩
      have s36 := s35.trans s6
      have d26 := DwAll.mono s36 d2
      refine ⟨us, (R6.ex List.mem_cons_self).1, by rw [dpa_len d2]; exact l6, hl, acc ++ [yv], us ++ [v6], G6, s2.trans s36, (back e6.2 e6.1 R6).grow nF, dpa_app d26 (.cons d6 .nil), q6⟩
  · have e : i = Ds.length := by omega
    subst e
    rw [List.drop_length] at q2
    refine .inl ⟨w.stops s2 R2, ?_⟩
    exact k acc ρ1 us G2 H2 D q2 (s1.trans s2) al1 (Rep.unwipe no R1 s2 R2) nF d2
end
end Dl
set_option Elab.async false
set_option linter.all false
set_option maxRecDepth 100000
set_option maxHeartbeats 4000000
namespace Dl
open PySem PySem.Spec PyProof PyProof.Rows L2 So Da
section
variable {P : Tb} {G0 : Hp} {n : Nat} {X : Cx} {elt tg iter e c : Expr} {es ifs : List Expr} {scope : Scope} {own : List (Str × Nat)} {pos : Pos} {is : List Nat} {ti : DTI} {g : DTG} {tt : DTT} {te : DTE}
theorem df_lst {t : DTA} (h : DA P G0 n X es t) : DF P G0 n X (.List es pos) (fun ρ Q => t ρ fun Ds ρ' => Ds.length ≤ sizeLine ∧ Q Ds ρ') := pe_weak (pe_lst h) fun σ H Q ⟨F, ρ, G, Q0, s, R, h, k⟩ =>
  ⟨F, ρ, G, _, s, R, h, fun Ds ρ' vs G' H' ⟨l, q⟩ s' al R' d => ⟨by rw [dpa_len d]; exact l, fun p hp => k Ds ρ' vs G' _ p q s' al (R'.push hp) (fun o m => by rw [(R'.ex m).1] at hp; cases hp) d⟩⟩
theorem df_list {t : DTR} {p : Pos} (hg : Gl X "list") (hm : X.mg "list" = none) (ha : DR P G0 n X e t) (hs : starEach [e] X.env = (false, eval e X.env) :: starEach [] X.env := by rfl) (hpl : (backTo pos (starEach [] X.env)).any (·.1) = false := by rfl) :
    DF P G0 n X (.Call (.Name "list" p) [e] [] pos) (fun ρ Q => t ρ fun r ρ1 => derefW ρ1 r fun x => itemsD x fun ds => Q ds ρ1) := pe_weak (pe_callTy call_list_of hg hm (by decide +kernel) (pa_cons ha pa_nil hs) (by decide) (by decide) hs hpl) fun σ H Q ⟨F, ρ, G, Q0, s, R, h, k⟩ =>
  ⟨F, ρ, G, _, s, R, h, fun r1 ρ1 v1 G1 H1 h1 s1 a1 R1 d1 => by
    unfold derefW at h1
    split at h1
    · rename_i D1 e1
      have dq := dq_of R1 d1 e1
      unfold itemsD at h1
      split at h1
      · obtain ⟨a, xs, rfl, ha, da⟩ := dq.list R1
        exact ⟨a, xs, rfl, .inl ha, fun p hp => k _ ρ1 xs G1 _ p h1 s1 a1 (R1.push hp) (fun o m => by rw [(R1.ex m).1] at hp; cases hp) da⟩
      · obtain ⟨a, xs, rfl, ha, da, _⟩ := dq.tup R1
        exact ⟨a, xs, rfl, .inr ha, fun p hp => k _ ρ1 xs G1 _ p h1 s1 a1 (R1.push hp) (fun o m => by rw [(R1.ex m).1] at hp; cases hp) da⟩
      · exact h1.elim
    · exact h1.elim⟩
theorem dts_nil : PTs X [] (rdT (zOf X P) G0 n fun ρ Q => Q true ρ) := ⟨fun pins s σ H Q I ⟨F, ρ, G, Q0, s', R, h, k⟩ => pts_nil.run pins s σ H Q I (k true ρ G H h (Ex.refl s'.2) Alike.refl R)⟩
theorem dts_one {t : DTT} (h : DT P G0 n X c t) : PTs X [c] (rdT (zOf X P) G0 n t) := pts_one h
theorem df_lc (hc : X.calm = true) (hN : X.N.Nodup) (hi : DI P G0 n X tg iter ti) (ok : BlkOk X.N X.env.scope scope own)
    (hg : ∀ (s : Shared) (H : Hp) (C : Addr) (cl : List (Str × Addr)) (fp : List Addr), DG P G0 n (X.blk s H scope (compEnvC scope cl C X.env) fp) is tg g) (ht : ∀ (s : Shared) (H : Hp) (C : Addr) (cl : List (Str × Addr)) (fp : List Addr), PTs (X.blk s H scope (compEnvC scope cl C X.env) fp) ifs (rdT (zOf X P) G0 n tt))
    (he : ∀ (s : Shared) (H : Hp) (C : Addr) (cl : List (Str × Addr)) (fp : List Addr), DE P G0 n (X.blk s H scope (compEnvC scope cl C X.env) fp) elt te) (sub : ∀ i ∈ is, i ∈ own.map (·.2) := by decide) (hs : ∀ x, foldedSetIterable iter X.env x = pure x := by intro _; rfl) :
    DF P G0 n X (.ListComp elt [⟨tg, iter, ifs, 0⟩] scope pos) (dLc (own.map (·.2)) ti g tt te) := pe_weak (pe_lc (g := rdG (zOf X P) G0 n is g) (tt := rdT (zOf X P) G0 n tt) (te := rdE (zOf X P) G0 n te) hc hN hi ok hg ht he hs) fun _ _ _ h => lc_read sub h
/-- [e] * k -/
theorem df_rep {b : Expr} {p : Pos} {t : DTE} {u : DTE} (ha : DE P G0 n X e t) (hb : DE P G0 n X b u) (hs : starEach [e] X.env = (false, eval e X.env) :: starEach [] X.env := by rfl) : DF P G0 n X (.BinOp (.List [e] p) .Mult b pos) (fun ρ Q => t ρ fun D ρ1 => u ρ1 fun E ρ2 => match E with
  | .int k => -(2 ^ 63) ≤ k ∧ k < 2 ^ 63 ∧ k.toNat ≤ sizeLine ∧ Q (List.replicate k.toNat D) ρ2
  | _ => False) := pe_weak (pe_op op_rep (pe_lst (pa_cons ha pa_nil hs)) hb) fun σ H Q ⟨F, ρ, G, Q0, s, R, h, k⟩ =>
  ⟨F, ρ, G, _, s, R, h, fun D ρ1 v G1 H1 q1 s1 al1 R1 d1 => ⟨by show 1 ≤ sizeLine; decide, fun p hp => by
    obtain ⟨gp, R1'⟩ := R1.new (o := .lst [v]) s1.2 hp trivial
    have s1' := Ex.new s1.2 gp (o := .lst [v])
    refine ⟨F, ρ1, _, _, (s.trans s1).trans s1', R1', q1, fun E ρ2 v2 G2 H2 q2 s2 al2 R2 d2 => ?_⟩
    split at q2
    · rename_i kk
      cases d2
      obtain ⟨l1, l2, l3, q2⟩ := q2
      have hp2 : H2 p = some (.lst [v]) := R2.sub _ _ (s2.1 _ _ upd_same (fun _ z => nomatch z))
      refine ⟨p, kk, [v], rfl, rfl, hp2, l1, l2, by rw [List.length_singleton, Nat.one_mul]; exact l3, fun q hq => ?_⟩
      have e1 : (List.replicate kk.toNat [v]).flatten = List.replicate kk.toNat v := by
        generalize kk.toNat = m
        induction m with
        | zero => rfl
        | succ m ih => rw [List.replicate_succ, List.flatten_cons, ih]; rfl
      rw [e1]
      exact k _ ρ2 _ G2 _ q q2 (s1.trans (s1'.trans s2)) (al1.trans al2) (R2.push hq) (fun o m => by rw [(R2.ex m).1] at hq; cases hq) (dpa_rep (Dw.mono (s1'.trans s2) d1) _)
    · exact q2.elim⟩⟩
end
structure EndsD where
  nx : Sto → Prop
  rt : PyData → Sto → Prop
  bk : Sto → Prop := fun _ => False
  ct : Sto → Prop := fun _ => False
  ro : Oc → Sto → Prop := fun _ _ => False
abbrev DTS := EndsD → Sto → Prop
def LkN (K : Zw) (n : Nat) (Q0 : Sto → Prop) (ρ : Sto) (G : Hp) (Q : L2.St → Hp → Prop) : Prop := ∀ ρ' σ' G' H', Q0 ρ' → Ex K.T G G' → Alike n ρ ρ' → Rep K [] G' ρ' σ' H' → Q σ' H'
structure Lk (K : Zw) (n : Nat) (D0 : EndsD) (ρ : Sto) (G : Hp) (D : Ends) : Prop where
  nx : LkN K n D0.nx ρ G D.nx
  bk : LkN K n D0.bk ρ G D.bk
  ct : LkN K n D0.ct ρ G D.ct
  rt : ∀ Dv ρ' v σ' G' H', D0.rt Dv ρ' → Ex K.T G G' → Alike n ρ ρ' → Rep K [] G' ρ' σ' H' → Dw K G' v Dv → D.rt v H'
  ro : ∀ c ρ' a o σ' G' H', D0.ro c ρ' → Ex K.T G G' → Alike n ρ ρ' → Rep K [] G' ρ' σ' H' → H' a = some o → G' a = none → (∀ (i : Nat) (c' : Oc), i < n → ρ'[i]? ≠ some (.ob a c')) → OcOk K G' a c o → D.rt (.ref a) H'
def rdS (K : Zw) (G0 : Hp) (n : Nat) (t : DTS) : TS := fun D σ H => ∃ ρ G D0, Ex K.T G0 G ∧ Rep K [] G ρ σ H ∧ t D0 ρ ∧ Lk K n D0 ρ G D
def DS (P : Tb) (G0 : Hp) (n : Nat) (X : Cx) (st : Stmt) (t : DTS) : Prop := PS X st (rdS (zOf X P) G0 n t)
def DSs (P : Tb) (G0 : Hp) (n : Nat) (X : Cx) (st : List Stmt) (t : DTS) : Prop := PSs X st (rdS (zOf X P) G0 n t)
section
variable {K : Zw} {n : Nat} {D0 : EndsD} {ρ ρ' : Sto} {G G' H : Hp} {D : Ends} {σ : L2.St}
theorem LkN.after {Q0 : Sto → Prop} {Q : L2.St → Hp → Prop} (k : LkN K n Q0 ρ G Q) (s : Ex K.T G G') (a : Alike n ρ ρ') : LkN K n Q0 ρ' G' Q := fun r σ2 G2 H2 q s2 a2 R => k r σ2 G2 H2 q (s.trans s2) (a.trans a2) R
theorem Lk.after (k : Lk K n D0 ρ G D) (s : Ex K.T G G') (a : Alike n ρ ρ') : Lk K n D0 ρ' G' D := ⟨k.nx.after s a, k.bk.after s a, k.ct.after s a, fun Dv r v σ2 G2 H2 q s2 a2 R d => k.rt Dv r v σ2 G2 H2 q (s.trans s2) (a.trans a2) R d, fun c r b o σ2 G2 H2 q s2 a2 R => k.ro c r b o σ2 G2 H2 q (s.trans s2) (a.trans a2) R⟩
theorem LkN.here {Q0 : Sto → Prop} {Q : L2.St → Hp → Prop} (k : LkN K n Q0 ρ G Q) (t : Tg G K.T) (R : Rep K [] G ρ σ H) (q : Q0 ρ) : Q σ H := k ρ σ G H q (Ex.refl t) .refl R
end
section
variable {P : Tb} {G0 : Hp} {n : Nat} {X : Cx} {st : Stmt} {rest : List Stmt} {t u : DTS} {e c tg iter : Expr} {es : List Expr} {te : DTE} {pos : Pos}
def dSeq (t u : DTS) : DTS := fun D ρ => match D with
  | ⟨nx, rt, bk, ct, ro⟩ => t ⟨u ⟨nx, rt, bk, ct, ro⟩, rt, bk, ct, ro⟩ ρ
theorem dss_nil : DSs P G0 n X [] (fun D ρ => D.nx ρ) := pss_weak pss_nil fun D σ H ⟨ρ, G, D0, s, R, h, k⟩ => k.nx.here s.2 R h
theorem dss_cons (h1 : DS P G0 n X st t) (h2 : DSs P G0 n X rest u) : DSs P G0 n X (st :: rest) (dSeq t u) := pss_weak (pss_cons h1 h2) fun D σ H ⟨ρ, G, D0, s, R, h, k⟩ =>
  match D0, h, k with
  | ⟨nx, rt, bk, ct, ro⟩, h, k => ⟨ρ, G, _, s, R, h, fun ρ' σ' G' H' q s' al R' => ⟨ρ', G', ⟨nx, rt, bk, ct, ro⟩, s.trans s', R', q, k.after s' al⟩, k.bk, k.ct, k.rt, k.ro⟩
theorem dss_one (h1 : DS P G0 n X st t) : DSs P G0 n X [st] t := pss_one h1
theorem ds_ret (he : DE P G0 n X e te) : DS P G0 n X (.Return (some e) pos) (fun D ρ => te ρ fun Dv ρ' => D.rt Dv ρ') := ps_weak (ps_ret he) fun D σ H ⟨ρ, G, D0, s, R, h, k⟩ =>
  ⟨[], ρ, G, _, s, R, h, fun Dv ρ' v G' H' q s' al R' d => k.rt _ _ _ _ _ _ q s' al R' d⟩
def dIfS (c : DTT) (t u : DTS) : DTS := fun D ρ => c ρ fun b ρ1 => if b = true then t D ρ1 else u D ρ1
theorem ds_if {a b : List Stmt} {tc : DTT} (hc : DT P G0 n X c tc) (ha : DSs P G0 n X a t) (hb : DSs P G0 n X b u) : DS P G0 n X (.If c a b pos) (dIfS tc t u) := ps_weak (ps_if hc ha hb) fun D σ H ⟨ρ, G, D0, s, R, h, k⟩ =>
  ⟨[], ρ, G, _, s, R, h, fun b ρ' G' H' q s' al R' => by
    cases b with
    | true => exact ⟨ρ', G', D0, s.trans s', R', q, k.after s' al⟩
    | false => exact ⟨ρ', G', D0, s.trans s', R', q, k.after s' al⟩⟩
/-- x = e, and (a, b) = e -/
theorem ds_asg {is : List Nat} {g : DTG} (he : DE P G0 n X e te) (hg : DG P G0 n X is tg g) (hs : swapsWithSole [tg] e pos.line X.env = pure false := by rfl) (hw : swappedStores [tg] e X.env = pure none := by rfl) (h1 : (assignEach [tg] X.env).map (·.2) = [assign tg X.env] := by rfl) : DS P G0 n X (.Assign [tg] e pos) (fun D ρ => te ρ fun Dv ρ' => g Dv ρ' D.nx) :=
  ps_weak (ps_asg he hg hs hw h1) fun D σ H ⟨ρ, G, D0, s, R, h, k⟩ => ⟨[], ρ, G, _, s, R, h, fun Dv ρ' v G' H' q s' al R' d => ⟨[], ρ', G', Dv, _, s.trans s', R', d, q, fun ρ2 σ2 G2 H2 q2 s2 al2 _ R2 => k.nx _ _ _ _ q2 (s'.trans s2) (al.trans al2) R2⟩⟩
theorem ds_set {i : Nat} {x : Str} {pos' : Pos} (hN : X.N.Nodup) (hi : X.N[i]? = some x) (hx : Loc X.env.scope x) (he : DE P G0 n X e te) (hs : swapsWith e (some (.Name x pos')) pos.line X.env = pure false := by rfl) (hf : X.fn x = true ∨ X.env.scope.names.lookup x = some .local := by first | exact .inl rfl | exact .inr rfl | assumption) :
    DS P G0 n X (.Assign [.Name x pos'] e pos) (fun D ρ => te ρ fun Dv ρ' => noOb ρ' i ∧ D.nx (ρ'.set i (.sh Dv))) := ps_weak (ps_set hN hi hx he hs hf) fun D σ H ⟨ρ, G, D0, s, R, h, k⟩ =>
  ⟨[], ρ, G, _, s, R, h, fun Dv ρ' v G' H' ⟨q1, q2⟩ s' al R' d => k.nx _ _ _ _ q2 s' (al.trans (.set q1)) (R'.set (noOb_ne q1) d)⟩
/-- what was made fresh is taken as one's own -/
theorem Rep.take {K : Zw} {F : List (Addr × HO)} {G H : Hp} {ρ : Sto} {σ : L2.St} {p : Addr} {o : HO} {c : Oc} {i : Nat} (R : Rep K ((p, o) :: F) G ρ σ H) (nF : ∀ o, (p, o) ∉ F) (hi : i < ρ.length) (no : noOb ρ i) (d : OcOk K G p c o) :
    Rep K F G (ρ.set i (.ob p c)) (σ.set i (some (.ref p))) H := by
  obtain ⟨e1, e2, e3, _⟩ := R.ex List.mem_cons_self
  have ob' : ∀ {j a c'}, (ρ.set i (.ob p c))[j]? = some (.ob a c') → (j = i ∧ a = p ∧ c' = c) ∨ (j ≠ i ∧ ρ[j]? = some (.ob a c')) := fun {j a c'} e => by
    rcases set_get e with ⟨z, z2, _⟩ | ⟨q, e⟩
    · cases z2
      exact .inl ⟨z, rfl, rfl⟩
    · exact .inr ⟨q, e⟩
  have oth : ∀ {j : Nat} {lc' : Lc}, (ρ.set i (.ob p c))[j]? = some lc' → (∀ a c, lc' ≠ .ob a c) → j ≠ i ∧ ρ[j]? = some lc' := fun {j lc'} e m => by
    rcases set_get e with ⟨_, z, _⟩ | h
    · exact absurd z (m p c)
    · exact h
  refine ⟨by rw [List.length_set, List.length_set]; exact R.len, fun {j D'} e => ?_, fun {j a c'} e => ?_, fun {j a C d D} e => ?_, fun {j O} e => ?_, fun {j j' a c1 c2} e e' => ?_, fun {a o} m => ?_, R.sub, R.nt⟩
  · obtain ⟨q, e⟩ := oth e (fun _ _ z => nomatch z)
    rw [List.getElem?_set_ne (Ne.symm q)]
    exact R.sh e
  · rcases ob' e with ⟨rfl, rfl, rfl⟩ | ⟨q, e⟩
    · exact ⟨by rw [List.getElem?_set_self (by rw [R.len]; exact hi)], e2, _, e1, d⟩
    · rw [List.getElem?_set_ne (Ne.symm q)]
      exact R.ob e
  · obtain ⟨q, e⟩ := oth e (fun _ _ z => nomatch z)
    rw [List.getElem?_set_ne (Ne.symm q)]
    exact R.exc e
  · obtain ⟨q, e⟩ := oth e (fun _ _ z => nomatch z)
    rw [List.getElem?_set_ne (Ne.symm q)]
    exact R.ask e
  · rcases ob' e with ⟨z1, z2, _⟩ | ⟨_, f⟩
    · rcases ob' e' with ⟨z3, _, _⟩ | ⟨_, f'⟩
      · rw [z1, z3]
      · exact absurd ⟨_, _, z2 ▸ f'⟩ e3
    · rcases ob' e' with ⟨_, z2, _⟩ | ⟨_, f'⟩
      · exact absurd ⟨_, _, z2 ▸ f⟩ e3
      · exact R.uniq f f'
  · obtain ⟨h1, h2, h3, h4⟩ := R.ex (List.mem_cons_of_mem _ m)
    refine ⟨h1, h2, fun ⟨j, c', e⟩ => ?_, h4⟩
    rcases ob' e with ⟨_, z, _⟩ | ⟨_, e⟩
    · rw [z] at m
      exact nF o m
    · exact h3 ⟨j, c', e⟩
/-- x = a fresh list, to be changed later on -/
def ownS (i : Nat) (D : EndsD) (ds : List PyData) (ρ : Sto) : Prop := i < ρ.length ∧ noOb ρ i ∧ ∀ a, D.nx (ρ.set i (.ob a (.lst ds)))
theorem own_nx {D0 : EndsD} {D : Ends} {i : Nat} {ρ ρ' : Sto} {G G' H' : Hp} {σ : L2.St} {p : Addr} {o : HO} {c : Oc} (k : Lk (zOf X P) n D0 ρ G D) (h : i < ρ'.length ∧ noOb ρ' i ∧ ∀ a, D0.nx (ρ'.set i (.ob a c))) (s' : Ex P G G') (al : Alike n ρ ρ') (R' : Rep (zOf X P) [(p, o)] G' ρ' σ H') (d : OcOk (zOf X P) G' p c o) : D.nx (σ.set i (some (.ref p))) H' :=
  k.nx _ _ G' H' (h.2.2 p) s' (al.trans (.set h.2.1)) (R'.take (fun o m => nomatch m) h.1 h.2.1 d)
theorem ds_own {i : Nat} {x : Str} {pos' : Pos} {t : DTF} (hN : X.N.Nodup) (hi : X.N[i]? = some x) (hx : Loc X.env.scope x) (he : DF P G0 n X e t) (hs : swapsWith e (some (.Name x pos')) pos.line X.env = pure false := by rfl) (hf : X.fn x = true ∨ X.env.scope.names.lookup x = some .local := by first | exact .inl rfl | exact .inr rfl | assumption) :
    DS P G0 n X (.Assign [.Name x pos'] e pos) (fun D ρ => t ρ fun ds ρ' => ownS i D ds ρ') := ps_weak (ps_set hN hi hx he hs hf) fun D σ H ⟨ρ, G, D0, s, R, h, k⟩ =>
  ⟨[], ρ, G, _, s, R, h, fun Ds ρ' vs G' H' p q s' al R' nF d => own_nx k q s' al R' ⟨_, rfl, d⟩⟩
section
variable {elt : Expr} {ifs : List Expr} {scope : Scope} {own : List (Str × Nat)} {is : List Nat} {ti : DTI} {g : DTG} {tt : DTT} {te : DTE} {spos py : Pos} {y : Str} {i : Nat}
/-- x = [..], a comprehension: data, or to be changed -/
theorem ds_setLc (hc : X.calm = true) (hN : X.N.Nodup) (hy : X.N[i]? = some y) (hyl : X.env.scope.names.lookup y = some .local) (hsw : swapsWith (.ListComp elt [⟨tg, iter, ifs, 0⟩] scope pos) (some (.Name y py)) spos.line X.env = pure true) (hi : DI P G0 n X tg iter ti) (ok : BlkOk X.N X.env.scope scope own)
    (hg : ∀ (s : Shared) (H : Hp) (C : Addr) (cl : List (Str × Addr)) (fp : List Addr), DG P G0 n (X.blk s H scope (compEnvC scope cl C X.env) fp) is tg g) (ht : ∀ (s : Shared) (H : Hp) (C : Addr) (cl : List (Str × Addr)) (fp : List Addr), PTs (X.blk s H scope (compEnvC scope cl C X.env) fp) ifs (rdT (zOf X P) G0 n tt))
    (he : ∀ (s : Shared) (H : Hp) (C : Addr) (cl : List (Str × Addr)) (fp : List Addr), DE P G0 n (X.blk s H scope (compEnvC scope cl C X.env) fp) elt te) (sub : ∀ i ∈ is, i ∈ own.map (·.2) := by decide) (hs : ∀ x, foldedSetIterable iter X.env x = pure x := by intro _; rfl) :
    DS P G0 n X (.Assign [.Name y py] (.ListComp elt [⟨tg, iter, ifs, 0⟩] scope pos) spos) (fun D ρ => dLc (own.map (·.2)) ti g tt te ρ fun ds ρ' => noOb ρ' i ∧ D.nx (ρ'.set i (.sh (.list ds)))) := ps_weak (ps_setLc (g := rdG (zOf X P) G0 n is g) (tt := rdT (zOf X P) G0 n tt) (te := rdE (zOf X P) G0 n te) hc hN hy hyl hsw hi ok hg ht he hs) fun D σ H ⟨ρ, G, D0, s, R, h, k⟩ =>
  lc_read sub ⟨[], ρ, G, _, s, R, h, fun Ds ρ' vs G' H' p ⟨q1, q2⟩ s' al R' nF d => by
    obtain ⟨s2, R2⟩ := R'.land s'.2 nF
    exact k.nx _ _ _ _ q2 (s'.trans s2) (al.trans (.set q1)) (R2.set (noOb_ne q1) (.lst (.inl (.inl upd_same)) (DwAll.mono s2 d)))⟩
end
/-- x += e, whole numbers -/
theorem ds_aug {i : Nat} {f : Int → Int → Int} (hps : PS X st (tAug i (rdE (zOf X P) G0 n te) (ipI f))) : DS P G0 n X st (fun D ρ => known ρ i ∧ noOb ρ i ∧ te ρ fun Dv ρ' => ρ'[i]? = ρ[i]? ∧ match ρ'[i]?, Dv with
  | some (.sh (.int a)), .int b => D.nx (ρ'.set i (.sh (.int (f a b))))
  | _, _ => False) := ps_weak hps fun D σ H ⟨ρ, G, D0, s, R, ⟨h1, h2, h⟩, k⟩ => by
  cases q : ρ[i]? with
  | none => unfold known at h1; rw [q] at h1; exact h1.elim
  | some lc =>
    cases lc with
    | un => unfold known at h1; rw [q] at h1; exact h1.elim
    | ob a c => unfold noOb at h2; rw [q] at h2; exact h2.elim
    | exc a C d D => unfold known at h1; rw [q] at h1; exact h1.elim
    | ask O =>
      obtain ⟨f, hv, _⟩ := R.ask q
      refine ⟨_, hv, [], ρ, G, _, s, R, h, fun Dv ρ' w G' H' ⟨e1, q2⟩ s' al R' d => ?_⟩
      rw [e1, q] at q2
      exact q2.elim
    | sh A =>
      obtain ⟨v, hv, dv⟩ := R.sh q
      refine ⟨v, hv, [], ρ, G, _, s, R, h, fun Dv ρ' w G' H' ⟨e1, q2⟩ s' al R' d => ?_⟩
      rw [e1, q] at q2
      have no : noOb ρ' i := by unfold noOb; rw [e1, q]; trivial
      cases A with
      | int a =>
        cases Dv with
        | int b =>
          cases dv
          cases d
          exact ⟨_, _, rfl, rfl, k.nx _ _ _ _ q2 s' (al.trans (.set no)) (R'.set (noOb_ne no) (.int _))⟩
        | _ => exact q2.elim
      | _ => exact q2.elim
def isOl (ρ : Sto) (i : Nat) : Prop := match ρ[i]? with
  | some (.ob _ (.lst _)) => True
  | _ => False
theorem ol_at {K : Zw} {F : List (Addr × HO)} {G : Hp} {ρ : Sto} {σ : L2.St} {H : Hp} {i : Nat} (R : Rep K F G ρ σ H) (h : isOl ρ i) : ∃ a, σ[i]? = some (some (.ref a)) ∧ tyV K.K "list" (.ref a) H := by
  unfold isOl at h
  split at h
  · rename_i a ds q
    obtain ⟨h1, h2, o, h3, vs, rfl, h4⟩ := R.ob q
    exact ⟨a, h1, .inl ⟨rfl, vs, .inl (.inl h3)⟩⟩
  · exact h.elim
/-- what holds of the list in slot i -/
def atOl (ρ : Sto) (i : Nat) (k : Addr → List PyData → Prop) : Prop := match ρ[i]? with
  | some (.ob a (.lst ds)) => k a ds
  | _ => False
theorem at_ol {ρ : Sto} {i : Nat} {k : Addr → List PyData → Prop} (h : atOl ρ i k) : ∃ a ds, ρ[i]? = some (.ob a (.lst ds)) ∧ k a ds := by
  unfold atOl at h
  split at h
  · rename_i a ds q
    exact ⟨a, ds, q, h⟩
  · exact h.elim
theorem put_alike {n i : Nat} {ρ : Sto} {a : Addr} {c c' : Oc} (h : ρ[i]? = some (.ob a c)) : Alike n ρ (ρ.set i (.ob a c')) := fun j b d _ e => by
  by_cases q : j = i
  · subst q
    rw [h] at e
    cases e
    exact ⟨c', by rw [List.getElem?_set_self (List.getElem?_eq_some_iff.mp h).1]⟩
  · exact ⟨d, by rw [List.getElem?_set_ne (Ne.symm q)]; exact e⟩
/-- xs.append(e) -/
theorem ds_app {i : Nat} (hps : PS X st (tDrop (tBM X.K "list" rAppend (tVar i) (tCons (rdE (zOf X P) G0 n te) tNil)))) : DS P G0 n X st (fun D ρ => isOl ρ i ∧ te ρ fun Dv ρ' => atOl ρ' i fun a ds => ds.length < sizeLine ∧ D.nx (ρ'.set i (.ob a (.lst (ds ++ [Dv]))))) := ps_weak hps fun D σ H ⟨ρ, G, D0, s, R, ⟨h0, h⟩, k⟩ => by
  obtain ⟨a, h1, h2⟩ := ol_at R h0
  refine ⟨_, h1, h2, [], ρ, G, _, s, R, h, fun Dv ρ' v G' H' q s' al R' d => ?_⟩
  obtain ⟨a', ds, e, l, q⟩ := at_ol q
  obtain ⟨h3, h4, o, h5, vs, rfl, h6⟩ := R'.ob e
  rw [h1] at h3
  cases h3
  exact ⟨a, vs, v, rfl, rfl, h5, by rw [dpa_len h6]; exact l, k.nx _ _ _ _ q s' (al.trans (put_alike e)) (R'.put e ⟨_, rfl, dpa_app h6 (.cons d .nil)⟩)⟩
def popW (ρ : Sto) (i : Nat) (k : PyData → Sto → Prop) : Prop := atOl ρ i fun a ds => match ds.getLast? with
  | some d => k d (ρ.set i (.ob a (.lst ds.dropLast)))
  | none => False
/-- from here on the object in slot i stands for good -/
def frzD (i : Nat) (ρ : Sto) : Sto := match ρ[i]? with
  | some (.ob _ (.lst ds)) => ρ.set i (.sh (.list ds))
  | some (.ob _ (.dic ds)) => ρ.set i (.sh (.dict ds))
  | _ => ρ
theorem ds_frz (i : Nat) (hi : n ≤ i) (h : DS P G0 n X st t) : DS P G0 n X st (fun D ρ => t D (frzD i ρ)) := ps_weak h fun D σ H ⟨ρ, G, D0, s, R, h, k⟩ => by
  have h : t D0 (frzD i ρ) := h
  have go : ∀ {a c D1}, ρ[i]? = some (.ob a c) → ocD c = some D1 → t D0 (ρ.set i (.sh D1)) → rdS (zOf X P) G0 n t D σ H := fun {a c D1} q e h => by
    obtain ⟨G', s', R'⟩ := R.freeze s.2 q e
    refine ⟨_, G', D0, s.trans s', R', h, k.after s' fun j b c hj e => ?_⟩
    have q2 : i ≠ j := by omega
    exact ⟨c, by rw [List.getElem?_set_ne q2]; exact e⟩
  unfold frzD at h
  split at h
  · rename_i a ds q
    exact go q rfl h
  · rename_i a ds q
    exact go q rfl h
  · exact ⟨ρ, G, D0, s, R, h, k⟩
def forW (g : DTG) (tb : DTS) (D : EndsD) : List PyData → Sto → Prop
  | [], ρ => D.nx ρ
  | d :: ds, ρ => g d ρ fun ρ' => tb { D with nx := forW g tb D ds, ct := forW g tb D ds, bk := D.nx } ρ'
def dFor (ti : DTI) (g : DTG) (tb : DTS) : DTS := fun D ρ => ti ρ fun ds ρ1 => forW g tb D ds ρ1
theorem ds_for {is : List Nat} {ti : DTI} {g : DTG} {tb : DTS} {body : List Stmt} (hp : PassesOwn (model X.prog X.w) X.A X.env X.xe) (hc : X.calm = true) (hi : DI P G0 n X tg iter ti) (hg : DG P G0 n X is tg g) (hb : DSs P G0 n X body tb) (hs : ∀ x, foldedSetIterable iter X.env x = pure x := by intro _; rfl) :
    DS P G0 n X (.For tg iter body [] pos) (dFor ti g tb) := ps_weak (ps_for hp hc hi hg hb hs) fun D σ H ⟨ρ, G, D0, s, R, h, k⟩ =>
  ⟨[], ρ, G, _, s, R, h, fun Ds ρ1 G1 H1 J q1 s1 al1 R1 w => by
    refine ⟨fun i m σ2 H2 => m = Ds.length - i ∧ i ≤ Ds.length ∧ ∃ ρ2 G2, Ex P G1 G2 ∧ Alike n ρ1 ρ2 ∧ Rep (zOf X P) [] G2 ρ2 σ2 H2 ∧ forW g tb D0 (Ds.drop i) ρ2, ⟨_, by rw [Nat.sub_zero], Nat.zero_le _, ρ1, G1, Ex.refl s1.2, .refl, R1, q1⟩, ?_⟩
    rintro i m σ2 H2 ⟨rfl, hi, ρ2, G2, s2, al2, R2, q2⟩
    have s02 := (s.trans s1).trans s2
    by_cases hl : i < Ds.length
    · refine .inr ⟨w.goes hl s2 R2, fun σ' H' => i + 1 ≤ Ds.length ∧ ∃ ρ2 G2, Ex P G1 G2 ∧ Alike n ρ1 ρ2 ∧ Rep (zOf X P) [] G2 ρ2 σ' H' ∧ forW g tb D0 (Ds.drop (i + 1)) ρ2, fun σ' H' z => ⟨_, by omega, rfl, z⟩, fun x H3 y => ?_⟩
      obtain ⟨d, G3, e3, s3, R3, dx⟩ := w.yields hl s2 R2 y
      rw [List.drop_eq_getElem_cons hl] at q2
      have e3' : Ds[i] = d := by rw [List.getElem?_eq_getElem hl] at e3; exact Option.some.inj e3
      rw [e3'] at q2
      unfold forW at q2
      refine ⟨[], ρ2, G3, d, _, s02.trans s3, R3, dx, q2, fun ρ4 σ4 G4 H4 q4 s4 al4 _ R4 => ⟨ρ4, G4, _, (s02.trans s3).trans s4, R4, q4, ?_⟩⟩
      have on : LkN (zOf X P) n (forW g tb D0 (Ds.drop (i + 1))) ρ4 G4 (fun σ' H' => i + 1 ≤ Ds.length ∧ ∃ ρ2 G2, Ex P G1 G2 ∧ Alike n ρ1 ρ2 ∧ Rep (zOf X P) [] G2 ρ2 σ' H' ∧ forW g tb D0 (Ds.drop (i + 1)) ρ2) := fun ρ5 σ5 G5 H5 q5 s5 al5 R5 => ⟨hl, ρ5, G5, ((s2.trans s3).trans s4).trans s5, (al2.trans al4).trans al5, R5, q5⟩
      have kk := k.after (((s1.trans s2).trans s3).trans s4) ((al1.trans al2).trans al4)
      exact ⟨on, kk.nx, on, kk.rt, kk.ro⟩
    · have e : i = Ds.length := by omega
      subst e
      rw [List.drop_length] at q2
      exact .inl ⟨w.stops s2 R2, k.nx _ _ _ _ q2 (s1.trans s2) (al1.trans al2) R2⟩⟩
end
end Dl
set_option Elab.async false
set_option linter.all false
set_option maxRecDepth 100000
set_option maxHeartbeats 4000000
namespace Dl
open PySem PySem.Spec PyProof PyProof.Rows L2 So Da
abbrev ErD := Addr × PyData
abbrev EK := ErD → Prop
structure Er (K : PySem.W.Frag) (mg : Str → Option Value) (x q an : Str) (st : Stmt) (C fI : Addr) (fdI : FuncData) : Prop where
  T : OexC K C
  na : PySem.W.findIn K (.ref C) an = some none
  ini : PySem.W.findIn K (.ref C) "__init__" = some (some (.ref fI))
  ty : PySem.W.typeIn K (.ref fI) = some (.type "function")
  F : Fun K "__init__" q (inClass st 0) fI fdI
  b : Binds K fdI ["self", an] []
  g : mg x = some (.ref C)
  te : PySem.W.exmOne K (.ref C) (.ref C) = some true
def spIni (C : Addr) (an : Str) : Sp := fun vs H Q _ => ∃ (a : Addr) (v : V), vs = [.ref a, v] ∧ H a = some (exo a C none) ∧ ∀ dx, H dx = none → dx ≠ a → Q .non (upd (upd H dx (exd dx [(an, v)])) a (exo a C (some dx)))
/-- the heap behind a raise -/
theorem raised {C : Addr} {H : Hp} {v : V} {a dx : Addr} {an : Str} (ha : H a = none) (hd : H dx = none) :
    ∀ b o, H b = some o → upd (del (upd (upd (upd H a (exo a C none)) dx (exd dx [(an, v)])) a (exo a C (some dx))) a) dx (.xd [(an, v)]) b = some o := fun b o e => by
  have h1 := ne_of_none e ha
  have h2 := ne_of_none e hd
  rw [upd_ne h2, del_ne h1, upd_ne h1, upd_ne h2, upd_ne h1]
  exact e
/-- what a raise's reading asks -/
theorem mk_err {C : Addr} {H : Hp} {E : XK} {v : V} {an : Str} (r : ∀ d H', H d = none → (∀ b o, H b = some o → H' b = some o) → H' d = some (.xd [(an, v)]) → E (.ref C) (some d) H') : [v].length ≤ 1000 ∧ ∀ a, H a = none → spIni C an (.ref a :: ([v] ++ [])) (upd H a (exo a C none))
    (fun u H2 => u = .non ∧ ∃ (d : Addr) (fs : List (Str × V)), H2 a = some (exo a C (some d)) ∧ H2 d = some (exd d fs) ∧ H d = none ∧ E (.ref C) (some d) (upd (del H2 a) d (.xd fs))) (fun _ _ _ => False) := by
  refine ⟨by show 1 ≤ 1000; decide, fun a ha => ⟨a, v, rfl, upd_same, fun dx n1 n2 => ⟨rfl, dx, [(an, v)], upd_same, ?_, ?_, ?_⟩⟩⟩
  · rw [upd_ne n2, upd_same]
  · rwa [upd_ne n2] at n1
  · rw [upd_ne n2] at n1
    exact r dx _ n1 (raised ha n1) upd_same
/-- what is wished of errors -/
def ErrL (K : Zw) (G0 : Hp) (E : XK) (er : EK) : Prop := ∀ C D d v G' H', er (C, D) → Ex K.T G0 G' → Sub G' H' → NT G' → Xd K C G' d v → Dw K G' v D → E (.ref C) (some d) H'
theorem ErrL.after {K : Zw} {G0 G : Hp} {E : XK} {er : EK} (h : ErrL K G0 E er) (s : Ex K.T G0 G) : ErrL K G E er := fun C D d v G' H' q s' => h C D d v G' H' q (s.trans s')
section
variable {P : Tb} {G0 : Hp} {n : Nat} {X : Cx} {st : Stmt} {e : Expr} {te : DTE}
/-- raise C(e) -/
theorem ds_raise {C : Addr} {an : Str} {E : XK} {er : EK} (ha : P.an C = an) (hE : ErrL (zOf X P) G0 E er) (hps : PS X st (fun _ σ H => tMkO C (spIni C an) [] (tCons (rdE (zOf X P) G0 n te) tNil) σ H fun cls d H' => E cls d H')) : DS P G0 n X st (fun _ ρ => te ρ fun Dv _ => er (C, Dv)) := ps_weak hps fun D σ H ⟨ρ, G, D0, s, R, h, k⟩ =>
  ⟨[], ρ, G, _, s, R, h, fun Dv ρ' v G' H' q s' al R' d => mk_err fun dd H2 n1 k x => by
    have gn := R'.gnone n1
    have s2 : Ex P G' (upd G' dd (.xd [(an, v)])) := Ex.new s'.2 gn
    refine hE C Dv dd v _ H2 q ((s.trans s').trans s2) (fun b o e => ?_) (R'.nt.upd trivial) (by unfold Xd; rw [show (zOf X P).T.an C = an from ha]; exact upd_same) (d.mono s2)
    by_cases z : b = dd
    · rw [z, upd_same] at e
      cases e
      rw [z]
      exact x
    · rw [upd_ne z] at e
      exact k b o (R'.sub b o e)⟩
end
abbrev DTRs := Sto → (List Rv → Sto → Prop) → Prop
def RvAll (K : Zw) (G : Hp) (σ : L2.St) : List V → List Rv → Prop
  | [], [] => True
  | v :: vs, r :: rs => RvOk K G σ v r ∧ RvAll K G σ vs rs
  | _, _ => False
theorem RvAll.mono {K : Zw} {G G' : Hp} {σ : L2.St} (s : Ex K.T G G') : ∀ {vs : List V} {rs : List Rv}, RvAll K G σ vs rs → RvAll K G' σ vs rs
  | [], [], _ => trivial
  | _ :: _, _ :: _, h => ⟨h.1.mono s, RvAll.mono s h.2⟩
theorem RvAll.at {K : Zw} {G : Hp} {σ : L2.St} : ∀ {vs : List V} {rs : List Rv} {k : Nat} {r : Rv}, RvAll K G σ vs rs → rs[k]? = some r → ∃ v, vs[k]? = some v ∧ RvOk K G σ v r
  | [], [], _, _, _, e => by simp at e
  | v :: _, r' :: _, 0, r, h, e => by
    cases e
    exact ⟨v, rfl, h.1⟩
  | _ :: vs, _ :: rs, k + 1, r, h, e => RvAll.at (k := k) h.2 (by simpa using e)
theorem RvAll.len {K : Zw} {G : Hp} {σ : L2.St} : ∀ {vs : List V} {rs : List Rv}, RvAll K G σ vs rs → vs.length = rs.length
  | [], [], _ => rfl
  | _ :: _, _ :: _, h => congrArg Nat.succ (RvAll.len h.2)
def KnRs (K : Zw) (F : List (Addr × HO)) (n : Nat) (Q0 : List Rv → Sto → Prop) (ρ : Sto) (G : Hp) (σ : L2.St) (Q : List V → Hp → Prop) : Prop :=
  ∀ rs ρ' vs G' H', Q0 rs ρ' → Ex K.T G G' → Alike n ρ ρ' → Rep K F G' ρ' σ H' → RvAll K G' σ vs rs → Q vs H'
def rdRs (K : Zw) (G0 : Hp) (n : Nat) (t : DTRs) : TA := fun σ H Q => ∃ F ρ G Q0, Ex K.T G0 G ∧ Rep K F G ρ σ H ∧ t ρ Q0 ∧ KnRs K F n Q0 ρ G σ Q
def DRs (P : Tb) (G0 : Hp) (n : Nat) (X : Cx) (es : List Expr) (t : DTRs) : Prop := PA X es (rdRs (zOf X P) G0 n t)
section
variable {P : Tb} {G0 : Hp} {n : Nat} {X : Cx} {e : Expr} {es : List Expr}
theorem drs_nil : DRs P G0 n X [] (fun ρ Q => Q [] ρ) := pa_weak pa_nil fun σ H Q ⟨F, ρ, G, Q0, s, R, h, k⟩ => k _ ρ _ G H h (Ex.refl s.2) Alike.refl R trivial
theorem drs_cons {t : DTR} {u : DTRs} (h : DR P G0 n X e t) (r : DRs P G0 n X es u) (hs : starEach (e :: es) X.env = (false, eval e X.env) :: starEach es X.env := by rfl) : DRs P G0 n X (e :: es) (fun ρ Q => t ρ fun r ρ1 => u ρ1 fun rs ρ2 => Q (r :: rs) ρ2) :=
  pa_weak (pa_cons h r hs) fun σ H Q ⟨F, ρ, G, Q0, s, R, h, k⟩ => ⟨F, ρ, G, _, s, R, h, fun r1 ρ' v G' H' q s' al R' d => ⟨F, ρ', G', _, s.trans s', R', q, fun rs ρ2 vs G2 H2 q2 s2 al2 R2 d2 => k _ ρ2 _ G2 H2 q2 (s'.trans s2) (al.trans al2) R2 ⟨d.mono s2, d2⟩⟩⟩
end
abbrev TD := List Lc → (PyData → List Lc → Prop) → EK → Prop
/-- the same arguments, the objects of one's own perhaps changed -/
inductive Same : List Lc → List Lc → Prop
  | nil : Same [] []
  | un {as bs : List Lc} : Same as bs → Same (.un :: as) (.un :: bs)
  | sh {D : PyData} {as bs : List Lc} : Same as bs → Same (.sh D :: as) (.sh D :: bs)
  | ob {a : Addr} {c c' : Oc} {as bs : List Lc} : Same as bs → Same (.ob a c :: as) (.ob a c' :: bs)
  | exc {a C d : Addr} {D : PyData} {as bs : List Lc} : Same as bs → Same (.exc a C d D :: as) (.exc a C d D :: bs)
  | ask {O : Fk} {as bs : List Lc} : Same as bs → Same (.ask O :: as) (.ask O :: bs)
theorem Same.len : ∀ {as bs : List Lc}, Same as bs → as.length = bs.length
  | _, _, .nil => rfl
  | _, _, .un h => congrArg Nat.succ h.len
  | _, _, .sh h => congrArg Nat.succ h.len
  | _, _, .ob h => congrArg Nat.succ h.len
  | _, _, .exc h => congrArg Nat.succ h.len
  | _, _, .ask h => congrArg Nat.succ h.len
theorem Same.fwd {a : Addr} {c : Oc} : ∀ {as bs : List Lc} {k : Nat}, Same as bs → as[k]? = some (.ob a c) → ∃ c', bs[k]? = some (.ob a c')
  | _, _, 0, .ob h, e => by cases e; exact ⟨_, rfl⟩
  | _, _, k + 1, .un h, e => Same.fwd (k := k) h (by simpa using e)
  | _, _, k + 1, .sh h, e => Same.fwd (k := k) h (by simpa using e)
  | _, _, k + 1, .ob h, e => Same.fwd (k := k) h (by simpa using e)
  | _, _, k + 1, .exc h, e => Same.fwd (k := k) h (by simpa using e)
  | _, _, k + 1, .ask h, e => Same.fwd (k := k) h (by simpa using e)
  | _, _, _, .nil, e => by simp at e
theorem Same.bwd {a : Addr} {c : Oc} : ∀ {as bs : List Lc} {k : Nat}, Same as bs → bs[k]? = some (.ob a c) → ∃ c', as[k]? = some (.ob a c')
  | _, _, 0, .ob h, e => by cases e; exact ⟨_, rfl⟩
  | _, _, k + 1, .un h, e => Same.bwd (k := k) h (by simpa using e)
  | _, _, k + 1, .sh h, e => Same.bwd (k := k) h (by simpa using e)
  | _, _, k + 1, .ob h, e => Same.bwd (k := k) h (by simpa using e)
  | _, _, k + 1, .exc h, e => Same.bwd (k := k) h (by simpa using e)
  | _, _, k + 1, .ask h, e => Same.bwd (k := k) h (by simpa using e)
  | _, _, _, .nil, e => by simp at e
theorem Same.shw {D : PyData} : ∀ {as bs : List Lc} {k : Nat}, Same as bs → bs[k]? = some (.sh D) → as[k]? = some (.sh D)
  | _, _, 0, .sh h, e => by cases e; rfl
  | _, _, k + 1, .un h, e => by simpa using Same.shw (k := k) h (by simpa using e)
  | _, _, k + 1, .sh h, e => by simpa using Same.shw (k := k) h (by simpa using e)
  | _, _, k + 1, .ob h, e => by simpa using Same.shw (k := k) h (by simpa using e)
  | _, _, k + 1, .exc h, e => by simpa using Same.shw (k := k) h (by simpa using e)
  | _, _, k + 1, .ask h, e => by simpa using Same.shw (k := k) h (by simpa using e)
  | _, _, _, .nil, e => by simp at e
theorem Same.exw {a C d : Addr} {D : PyData} : ∀ {as bs : List Lc} {k : Nat}, Same as bs → bs[k]? = some (.exc a C d D) → as[k]? = some (.exc a C d D)
  | _, _, 0, .exc h, e => by cases e; rfl
  | _, _, k + 1, .un h, e => by simpa using Same.exw (k := k) h (by simpa using e)
  | _, _, k + 1, .sh h, e => by simpa using Same.exw (k := k) h (by simpa using e)
  | _, _, k + 1, .ob h, e => by simpa using Same.exw (k := k) h (by simpa using e)
  | _, _, k + 1, .exc h, e => by simpa using Same.exw (k := k) h (by simpa using e)
  | _, _, k + 1, .ask h, e => by simpa using Same.exw (k := k) h (by simpa using e)
  | _, _, _, .nil, e => by simp at e
theorem Same.asw {O : Fk} : ∀ {as bs : List Lc} {k : Nat}, Same as bs → bs[k]? = some (.ask O) → as[k]? = some (.ask O)
  | _, _, 0, .ask h, e => by cases e; rfl
  | _, _, k + 1, .un h, e => by simpa using Same.asw (k := k) h (by simpa using e)
  | _, _, k + 1, .sh h, e => by simpa using Same.asw (k := k) h (by simpa using e)
  | _, _, k + 1, .ob h, e => by simpa using Same.asw (k := k) h (by simpa using e)
  | _, _, k + 1, .exc h, e => by simpa using Same.asw (k := k) h (by simpa using e)
  | _, _, k + 1, .ask h, e => by simpa using Same.asw (k := k) h (by simpa using e)
  | _, _, _, .nil, e => by simp at e
def spT (K : Zw) (T : TD) : Sp := fun vs H Q E => ∃ G as Q0 er, Tg G K.T ∧ Rep K [] G as (vs.map some) H ∧ T as Q0 er ∧
  (∀ D as' v G' H', Q0 D as' → Same as as' → Ex K.T G G' → Rep K [] G' as' (vs.map some) H' → Dw K G' v D → Q v H') ∧ ErrL K G E er
def argLc (ρ : Sto) : Rv → Lc
  | .val D => .sh D
  | .slot i => ρ[i]?.getD .un
def upO (r : Rv) (lc : Lc) (ρ : Sto) : Sto := match r, lc with
  | .slot i, .ob a c => ρ.set i (.ob a c)
  | _, _ => ρ
def upS : List Rv → List Lc → Sto → Sto
  | r :: rs, lc :: as, ρ => upO r lc (upS rs as ρ)
  | [], _, ρ => ρ
  | _ :: _, [], ρ => ρ
def obSlots (ρ : Sto) : List Rv → List Nat
  | [] => []
  | .val _ :: rs => obSlots ρ rs
  | .slot i :: rs => match ρ[i]? with
    | some (.ob _ _) => i :: obSlots ρ rs
    | _ => obSlots ρ rs
theorem upO_len (r : Rv) (lc : Lc) (ρ : Sto) : (upO r lc ρ).length = ρ.length := by
  unfold upO
  split
  · rw [List.length_set]
  · rfl
theorem upS_len : ∀ (rs : List Rv) (as : List Lc) (ρ : Sto), (upS rs as ρ).length = ρ.length
  | [], _, _ => rfl
  | _ :: _, [], ρ => rfl
  | r :: rs, lc :: as, ρ => (upO_len r lc _).trans (upS_len rs as ρ)
theorem upS_get {ρ : Sto} {i : Nat} (hi : i < ρ.length) : ∀ (rs : List Rv) (as : List Lc), (∃ (k : Nat) (a : Addr) (c : Oc), rs[k]? = some (.slot i) ∧ as[k]? = some (.ob a c) ∧ (upS rs as ρ)[i]? = some (.ob a c)) ∨
    ((upS rs as ρ)[i]? = ρ[i]? ∧ ∀ (k : Nat) (a : Addr) (c : Oc), rs[k]? = some (.slot i) → as[k]? ≠ some (.ob a c))
  | [], as => .inr ⟨rfl, fun k a c e => by simp at e⟩
  | _ :: _, [] => .inr ⟨rfl, fun k a c _ e => by simp at e⟩
  | r :: rs, lc :: as => by
    have ih := upS_get hi rs as
    have next : (∀ a c, ¬ (r = .slot i ∧ lc = .ob a c)) → (upS (r :: rs) (lc :: as) ρ)[i]? = (upS rs as ρ)[i]? → (∃ (k : Nat) (a : Addr) (c : Oc), (r :: rs)[k]? = some (.slot i) ∧ (lc :: as)[k]? = some (.ob a c) ∧ (upS (r :: rs) (lc :: as) ρ)[i]? = some (.ob a c)) ∨
      ((upS (r :: rs) (lc :: as) ρ)[i]? = ρ[i]? ∧ ∀ (k : Nat) (a : Addr) (c : Oc), (r :: rs)[k]? = some (.slot i) → (lc :: as)[k]? ≠ some (.ob a c)) := fun no e => by
      rcases ih with ⟨k, a, c, h1, h2, h3⟩ | ⟨h1, h2⟩
      · exact .inl ⟨k + 1, a, c, by simpa using h1, by simpa using h2, e.trans h3⟩
      · refine .inr ⟨e.trans h1, fun k a c e1 e2 => ?_⟩
        cases k with
        | zero =>
          have e1 : some r = some (Rv.slot i) := e1
          have e2 : some lc = some (Lc.ob a c) := e2
          exact no a c ⟨Option.some.inj e1, Option.some.inj e2⟩
        | succ k => exact h2 k a c (by simpa using e1) (by simpa using e2)
    cases r with
    | val D => exact next (fun a c z => nomatch z.1) rfl
    | slot j =>
      cases lc with
      | un => exact next (fun a c z => nomatch z.2) rfl
      | sh D => exact next (fun a c z => nomatch z.2) rfl
      | exc a C d D => exact next (fun a c z => nomatch z.2) rfl
      | ask O => exact next (fun a c z => nomatch z.2) rfl
      | ob a c =>
        by_cases q : j = i
        · subst q
          refine .inl ⟨0, a, c, rfl, rfl, ?_⟩
          show ((upS rs as ρ).set j (.ob a c))[j]? = _
          rw [List.getElem?_set_self (by rw [upS_len]; exact hi)]
        · refine next (fun a' c' z => q (Rv.slot.inj z.1)) ?_
          show ((upS rs as ρ).set j (.ob a c))[i]? = _
          rw [List.getElem?_set_ne q]
def ownL : List Lc → List Addr
  | [] => []
  | .ob a _ :: r => a :: ownL r
  | _ :: r => ownL r
theorem mem_ownL {a : Addr} : ∀ {ρ : List Lc}, a ∈ ownL ρ ↔ Owns ρ a
  | [] => ⟨(fun h => nomatch h), fun ⟨i, c, e⟩ => by simp at e⟩
  | lc :: r => by
    have ih := mem_ownL (a := a) (ρ := r)
    have step : Owns r a → Owns (lc :: r) a := fun ⟨i, c, e⟩ => ⟨i + 1, c, by simpa using e⟩
    have back : (∀ c, lc ≠ .ob a c) → Owns (lc :: r) a → Owns r a := fun no ⟨i, c, e⟩ => by
      cases i with
      | zero => exact absurd (Option.some.inj (show some lc = some (Lc.ob a c) from e)) (no c)
      | succ i => exact ⟨i, c, by simpa using e⟩
    cases lc with
    | un => exact ih.trans ⟨step, back fun c z => nomatch z⟩
    | sh D => exact ih.trans ⟨step, back fun c z => nomatch z⟩
    | exc a C d D => exact ih.trans ⟨step, back fun c z => nomatch z⟩
    | ask O => exact ih.trans ⟨step, back fun c z => nomatch z⟩
    | ob b c =>
      show a ∈ b :: ownL r ↔ _
      rw [List.mem_cons, ih]
      refine ⟨fun h => h.elim (fun z => ⟨0, c, by rw [z]; rfl⟩) step, fun h => ?_⟩
      by_cases q : a = b
      · exact .inl q
      · exact .inr (back (fun c' z => q (Lc.ob.inj z).1.symm) h)
section
variable {K : Zw} {F : List (Addr × HO)} {G G' H H' : Hp} {ρ : Sto} {σ : L2.St} {vs : List V} {rs : List Rv} {as' : List Lc}
/-- what a call hides -/
def hidL (F : List (Addr × HO)) (ρ : Sto) (as : List Lc) : List Addr := (ownL ρ).filter (fun a => decide (a ∉ ownL as)) ++ F.map (·.1)
theorem mem_hidL {as : List Lc} {a : Addr} : a ∈ hidL F ρ as ↔ (Owns ρ a ∧ ¬ Owns as a) ∨ ∃ o, (a, o) ∈ F := by
  unfold hidL
  rw [List.mem_append, List.mem_filter, mem_ownL, decide_eq_true_eq, mem_ownL, List.mem_map]
  exact or_congr Iff.rfl ⟨fun ⟨⟨b, o⟩, h1, h2⟩ => ⟨o, by cases h2; exact h1⟩, fun ⟨o, h⟩ => ⟨(a, o), h, rfl⟩⟩
abbrev argsOf (ρ : Sto) (rs : List Rv) : List Lc := rs.map (argLc ρ)
theorem arg_at {k : Nat} {lc : Lc} (h : (argsOf ρ rs)[k]? = some lc) : ∃ r, rs[k]? = some r ∧ argLc ρ r = lc := by
  rw [List.getElem?_map] at h
  cases e : rs[k]? with
  | none => rw [e] at h; cases h
  | some r => rw [e] at h; exact ⟨r, rfl, Option.some.inj h⟩
theorem argLc_ob {r : Rv} {a : Addr} {c : Oc} (h : argLc ρ r = .ob a c) : ∃ i, r = .slot i ∧ ρ[i]? = some (.ob a c) := by
  cases r with
  | val D => exact nomatch h
  | slot i =>
    refine ⟨i, rfl, ?_⟩
    unfold argLc at h
    dsimp only at h
    cases e : ρ[i]? with
    | none => rw [e] at h; exact nomatch h
    | some lc => rw [e] at h; exact congrArg some h
theorem argLc_sh {r : Rv} {D : PyData} (h : argLc ρ r = .sh D) : r = .val D ∨ ∃ i, r = .slot i ∧ ρ[i]? = some (.sh D) := by
  cases r with
  | val D' => cases h; exact .inl rfl
  | slot i =>
    refine .inr ⟨i, rfl, ?_⟩
    unfold argLc at h
    dsimp only at h
    cases e : ρ[i]? with
    | none => rw [e] at h; exact nomatch h
    | some lc => rw [e] at h; exact congrArg some h
theorem own_arg {a : Addr} (h : Owns (argsOf ρ rs) a) : ∃ (k i : Nat) (c : Oc), rs[k]? = some (.slot i) ∧ ρ[i]? = some (.ob a c) := by
  obtain ⟨k, c, e⟩ := h
  obtain ⟨r, h1, h2⟩ := arg_at e
  obtain ⟨i, rfl, h3⟩ := argLc_ob h2
  exact ⟨k, i, c, h1, h3⟩
theorem nodup_slots : ∀ {rs : List Rv} {k k' i : Nat} {a : Addr} {c : Oc}, (obSlots ρ rs).Nodup → ρ[i]? = some (.ob a c) → rs[k]? = some (.slot i) → rs[k']? = some (.slot i) → k = k' := by
  intro rs
  induction rs with
  | nil => intro k k' i a c _ _ h; simp at h
  | cons r rs ih =>
    intro k k' i a c nd e h h'
    have mem : ∀ {j : Nat} {rs : List Rv}, rs[j]? = some (.slot i) → i ∈ obSlots ρ rs := by
      intro j rs
      induction rs generalizing j with
      | nil => intro h; simp at h
      | cons r rs ih =>
        intro h
        cases j with
        | zero =>
          cases h
          unfold obSlots
          rw [e]
          exact List.mem_cons_self
        | succ j =>
          have m := ih (j := j) (by simpa using h)
          cases r with
          | val D => exact m
          | slot q =>
            unfold obSlots
            split
            · exact List.mem_cons_of_mem _ m
            · exact m
    have tl : (obSlots ρ rs).Nodup := by
      cases r with
      | val D => exact nd
      | slot q =>
        unfold obSlots at nd
        split at nd
        · exact (List.nodup_cons.mp nd).2
        · exact nd
    cases k with
    | zero =>
      cases k' with
      | zero => rfl
      | succ k' =>
        cases h
        unfold obSlots at nd
        rw [e] at nd
        exact absurd (mem (j := k') (by simpa using h')) (List.nodup_cons.mp nd).1
    | succ k =>
      cases k' with
      | zero =>
        cases h'
        unfold obSlots at nd
        rw [e] at nd
        exact absurd (mem (j := k) (by simpa using h)) (List.nodup_cons.mp nd).1
      | succ k' => exact congrArg Nat.succ (ih (k := k) (k' := k') tl e (by simpa using h) (by simpa using h'))
theorem argLc_lc {r : Rv} {lc : Lc} (h : argLc ρ r = lc) (n : ∀ D, lc ≠ .sh D) (m : lc ≠ .un) : ∃ i, r = .slot i ∧ ρ[i]? = some lc := by
  cases r with
  | val D => exact absurd h.symm (n D)
  | slot i =>
    refine ⟨i, rfl, ?_⟩
    unfold argLc at h
    dsimp only at h
    cases e : ρ[i]? with
    | none => rw [e] at h; exact absurd h.symm m
    | some lc => rw [e] at h; exact congrArg some h
def hid (ls : List Addr) (H : Hp) : Hp := mask ls noCo H
def bak (ls : List Addr) (H H' : Hp) : Hp := unmask ls noCo H H'
theorem hid_out {ls : List Addr} {b : Addr} (h : b ∉ ls) : hid ls H b = H b := mask_out h rfl
theorem bak_in {ls : List Addr} {b : Addr} (h : b ∈ ls) : bak ls H H' b = H b := unmask_in h
theorem bak_out {ls : List Addr} {b : Addr} (h : b ∉ ls) : bak ls H H' b = H' b := unmask_out h rfl
/-- the state as the called def sees it -/
theorem Rep.call (R : Rep K F G ρ σ H) (va : RvAll K G σ vs rs) (nd : (obSlots ρ rs).Nodup) : (∀ b ∈ hidL F ρ (argsOf ρ rs), ∃ o, H b = some o ∧ Lcl o) ∧ Rep K [] G (argsOf ρ rs) (vs.map some) (hid (hidL F ρ (argsOf ρ rs)) H) := by
  refine ⟨fun b m => ?_, by rw [List.length_map, List.length_map]; exact va.len, fun {k D} e => ?_, fun {k a c} e => ?_, fun {k a C d D} e => ?_, fun {k O} e => ?_, fun {k k' a c c'} e e' => ?_, fun m => absurd m List.not_mem_nil, fun b u e => ?_, R.nt⟩
  · rcases mem_hidL.mp m with ⟨⟨i, c, e⟩, _⟩ | ⟨o, m⟩
    · obtain ⟨_, _, o, h3, h4⟩ := R.ob e
      exact ⟨o, h3, h4.lcl⟩
    · obtain ⟨h1, _, _, l⟩ := R.ex m
      exact ⟨_, h1, l⟩
  · obtain ⟨r, h1, h2⟩ := arg_at e
    obtain ⟨v, h3, h4⟩ := va.at h1
    refine ⟨v, by rw [List.getElem?_map, h3]; rfl, ?_⟩
    rcases argLc_sh h2 with rfl | ⟨i, rfl, e2⟩
    · exact h4
    · obtain ⟨v', h5, h6⟩ := R.sh e2
      have h4 : σ[i]? = some (some v) := h4
      rw [h4] at h5
      cases h5
      exact h6
  · obtain ⟨r, h1, h2⟩ := arg_at e
    obtain ⟨v, h3, h4⟩ := va.at h1
    obtain ⟨i, rfl, e2⟩ := argLc_ob h2
    obtain ⟨h5, h6, o, h7, h8⟩ := R.ob e2
    have h4 : σ[i]? = some (some v) := h4
    rw [h4] at h5
    cases h5
    refine ⟨by rw [List.getElem?_map, h3]; rfl, h6, o, ?_, h8⟩
    rw [hid_out fun m => ?_]
    · exact h7
    · rcases mem_hidL.mp m with ⟨_, no⟩ | ⟨u, m⟩
      · exact no ⟨k, c, e⟩
      · exact (R.ex m).2.2.1 ⟨i, c, e2⟩
  · obtain ⟨r, h1, h2⟩ := arg_at e
    obtain ⟨v, h3, h4⟩ := va.at h1
    obtain ⟨i, rfl, e2⟩ := argLc_lc h2 (fun _ z => nomatch z) (fun z => nomatch z)
    obtain ⟨h5, h6⟩ := R.exc e2
    have h4 : σ[i]? = some (some v) := h4
    rw [h4] at h5
    cases h5
    exact ⟨by rw [List.getElem?_map, h3]; rfl, h6⟩
  · obtain ⟨r, h1, h2⟩ := arg_at e
    obtain ⟨v, h3, h4⟩ := va.at h1
    obtain ⟨i, rfl, e2⟩ := argLc_lc h2 (fun _ z => nomatch z) (fun z => nomatch z)
    obtain ⟨f, h5, h6⟩ := R.ask e2
    have h4 : σ[i]? = some (some v) := h4
    rw [h4] at h5
    cases h5
    exact ⟨f, by rw [List.getElem?_map, h3]; rfl, h6⟩
  · obtain ⟨r, h1, h2⟩ := arg_at e
    obtain ⟨i, rfl, e2⟩ := argLc_ob h2
    obtain ⟨r', h1', h2'⟩ := arg_at e'
    obtain ⟨i', rfl, e2'⟩ := argLc_ob h2'
    have := R.uniq e2 e2'
    subst this
    exact nodup_slots nd e2 h1 h1'
  · rw [hid_out fun m => ?_]
    · exact R.sub b u e
    · rcases mem_hidL.mp m with ⟨⟨i, c, z⟩, _⟩ | ⟨o, m⟩
      · rw [(R.ob z).2.1] at e
        cases e
      · rw [(R.ex m).2.1] at e
        cases e
theorem upS_alike {n : Nat} (sm : Same (argsOf ρ rs) as') : Alike n ρ (upS rs as' ρ) := fun i a c _ e => by
  have hi := (List.getElem?_eq_some_iff.mp e).1
  rcases upS_get hi rs as' with ⟨k, b, d, h1, h2, h3⟩ | ⟨h1, _⟩
  · obtain ⟨c', h4⟩ := sm.bwd h2
    obtain ⟨r, h5, h6⟩ := arg_at h4
    rw [h1] at h5
    cases h5
    obtain ⟨j, h7, h8⟩ := argLc_ob h6
    cases h7
    rw [e] at h8
    cases h8
    exact ⟨d, h3⟩
  · exact ⟨c, h1.trans e⟩
/-- .. and behind the call -/
theorem Rep.back (t : Tg G K.T) (R : Rep K F G ρ σ H) (va : RvAll K G σ vs rs) (sm : Same (argsOf ρ rs) as') (s : Ex K.T G G') (R' : Rep K [] G' as' (vs.map some) H') (gone : ∀ b ∈ hidL F ρ (argsOf ρ rs), H' b = none) :
    Rep K F G' (upS rs as' ρ) σ (bak (hidL F ρ (argsOf ρ rs)) H H') := by
  have ow' : ∀ {b}, Owns as' b → Owns (argsOf ρ rs) b := fun {b} ⟨k, c, e⟩ => by
    obtain ⟨c', h⟩ := sm.bwd e
    exact ⟨k, c', h⟩
  have free : ∀ {b}, b ∈ hidL F ρ (argsOf ρ rs) → ¬ Owns (argsOf ρ rs) b → G' b = none := fun {b} m no => by
    cases e : G' b with
    | none => rfl
    | some u =>
      have := R'.sub b u e
      rw [gone b m] at this
      cases this
  have get : ∀ {i a c}, (upS rs as' ρ)[i]? = some (.ob a c) → i < ρ.length := fun {i a c} e => by
    have := (List.getElem?_eq_some_iff.mp e).1
    rwa [upS_len] at this
  -- an object of one's own behind the call was one ahead of it, in the same slot
  have was : ∀ {i : Nat} {a : Addr} {c : Oc}, (upS rs as' ρ)[i]? = some (Lc.ob a c) → ∃ c', ρ[i]? = some (Lc.ob a c') := fun {i a c} e => by
    rcases upS_get (get e) rs as' with ⟨k, b, d, h1, h2, h3⟩ | ⟨h1, _⟩
    · rw [h3] at e
      cases e
      obtain ⟨c', h4⟩ := sm.bwd h2
      obtain ⟨r, h5, h6⟩ := arg_at h4
      rw [h1] at h5
      cases h5
      obtain ⟨j, h7, h8⟩ := argLc_ob h6
      cases h7
      exact ⟨c', h8⟩
    · exact ⟨c, h1.symm.trans e⟩
  have old : ∀ {i : Nat} {lc : Lc}, (upS rs as' ρ)[i]? = some lc → (∀ a c, lc ≠ .ob a c) → ρ[i]? = some lc := fun {i lc} e n => by
    have hi : i < ρ.length := by
      have := (List.getElem?_eq_some_iff.mp e).1
      rwa [upS_len] at this
    rcases upS_get hi rs as' with ⟨k, b, d, h1, h2, h3⟩ | ⟨h1, _⟩
    · rw [h3] at e
      exact absurd (Option.some.inj e).symm (n b d)
    · exact h1.symm.trans e
  refine ⟨by rw [upS_len]; exact R.len, fun {i D} e => ?_, fun {i a c} e => ?_, fun {i a C d D} e => ?_, fun {i O} e => ?_, fun {i j a c c'} e e' => ?_, fun {a o} m => ?_, fun b u e => ?_, R'.nt⟩
  · have hi : i < ρ.length := by
      have := (List.getElem?_eq_some_iff.mp e).1
      rwa [upS_len] at this
    rcases upS_get hi rs as' with ⟨k, b, d, h1, h2, h3⟩ | ⟨h1, _⟩
    · rw [h3] at e
      cases e
    · obtain ⟨v, h2, h3⟩ := R.sh (h1.symm.trans e)
      exact ⟨v, h2, Dw.mono s h3⟩
  · rcases upS_get (get e) rs as' with ⟨k, b, d, h1, h2, h3⟩ | ⟨h1, h2⟩
    · rw [h3] at e
      cases e
      obtain ⟨c', h4⟩ := sm.bwd h2
      obtain ⟨r, h5, h6⟩ := arg_at h4
      rw [h1] at h5
      cases h5
      obtain ⟨j, h7, h8⟩ := argLc_ob h6
      cases h7
      obtain ⟨q1, q2, o, q3, q4⟩ := R'.ob h2
      refine ⟨(R.ob h8).1, q2, o, ?_, q4⟩
      rw [bak_out fun m => ?_]
      · exact q3
      · rcases mem_hidL.mp m with ⟨_, no⟩ | ⟨u, m⟩
        · exact no ⟨k, c', h4⟩
        · exact (R.ex m).2.2.1 ⟨i, c', h8⟩
    · have e1 := h1.symm.trans e
      obtain ⟨q1, q2, o, q3, q4⟩ := R.ob e1
      have no : ¬ Owns (argsOf ρ rs) a := fun z => by
        obtain ⟨k, i', c', r1, r2⟩ := own_arg z
        have := R.uniq r2 e1
        subst this
        have h4 : (argsOf ρ rs)[k]? = some (.ob a c') := by
          rw [List.getElem?_map, r1]
          show some (ρ[i']?.getD .un) = _
          rw [r2]
          rfl
        obtain ⟨c2, h5⟩ := sm.fwd h4
        exact h2 k a c2 r1 h5
      have m : a ∈ hidL F ρ (argsOf ρ rs) := mem_hidL.mpr (.inl ⟨⟨i, c, e1⟩, no⟩)
      exact ⟨q1, free m no, o, by rw [bak_in m]; exact q3, q4.mono s⟩
  · obtain ⟨h2, v, h3, h4⟩ := R.exc (old e (fun _ _ z => nomatch z))
    exact ⟨h2, v, s.1 _ _ h3 (fun _ z => nomatch z), h4.mono s⟩
  · obtain ⟨f, h2, h3⟩ := R.ask (old e (fun _ _ z => nomatch z))
    exact ⟨f, h2, h3.mono s⟩
  · obtain ⟨_, h1⟩ := was e
    obtain ⟨_, h2⟩ := was e'
    exact R.uniq h1 h2
  · obtain ⟨h1, h2, h3, h4⟩ := R.ex m
    have mm : a ∈ hidL F ρ (argsOf ρ rs) := mem_hidL.mpr (.inr ⟨o, m⟩)
    refine ⟨by rw [bak_in mm]; exact h1, free mm fun z => ?_, fun ⟨i, c, e⟩ => ?_, h4⟩
    · obtain ⟨k, i', c', r1, r2⟩ := own_arg z
      exact h3 ⟨i', c', r2⟩
    · obtain ⟨c', e'⟩ := was e
      exact h3 ⟨i, c', e'⟩
  · rw [bak_out fun m => ?_]
    · exact R'.sub b u e
    · have := R'.sub b u e
      rw [gone b m] at this
      cases this
end
section
variable {P : Tb} {G0 : Hp} {n : Nat} {X : Cx} {e : Expr} {es : List Expr} {T : TD} {k : Nat} {f : Addr} {fd : FuncData} {ps ks : List Str} {x : Str} {p pos kpos : Pos} {t : DTRs} {nm : Option Str} {kws : List Keyword} {g : List Value → List Value → List Value} {gV : List V → List V → List V}
theorem noCo_of {X : Cx} {σ : L2.St} {co : Addr → Option Obj} (h : Shown X σ [] co) : co = noCo := by
  funext b
  cases e : co b with
  | none => rfl
  | some ob =>
    obtain ⟨j, y, m, _⟩ := h.own b ob e
    exact nomatch m
/-- the call itself, its arguments known -/
theorem call_at {E : XK} {er : EK} {σ : L2.St} {F : List (Addr × HO)} {G : Hp} {ρ : Sto} {H : Hp} {vs : List V} {rs : List Rv} {Q0 : PyData → Sto → Prop} {Q : VK} (hE : ErrL (zOf X P) G0 E er) (s : Ex P G0 G) (R : Rep (zOf X P) F G ρ σ H) (va : RvAll (zOf X P) G σ vs rs) (nd : (obSlots ρ rs).Nodup)
    (q : T (argsOf ρ rs) (fun D as' => Q0 D (upS rs as' ρ)) er) (kk : Kn (zOf X P) F n Q0 ρ G σ Q) : maskK X σ (spT (zOf X P) T) E vs H Q := by
  unfold maskK
  obtain ⟨L, Rc⟩ := R.call va nd
  refine ⟨hidL F ρ (argsOf ρ rs), [], L, (fun j m => nomatch m), fun co sh _ => ?_⟩
  rw [noCo_of sh]
  refine ⟨G, argsOf ρ rs, _, er, s.2, Rc, q, fun D as' v G2 H2 q2 sm s2 R2 d bk => ?_, fun C D d v G2 H2 q2 s2 sub2 nt2 xd dv bk => ?_⟩
  · exact kk _ _ _ _ _ q2 s2 (upS_alike sm) (R.back s.2 va sm s2 R2 bk.gone) d
  · refine hE C D d v G2 _ q2 (s.trans s2) (fun b o e => ?_) nt2 xd dv
    rw [show unmask (hidL F ρ (argsOf ρ rs)) noCo H H2 b = bak (hidL F ρ (argsOf ρ rs)) H H2 b from rfl, bak_out fun m => ?_]
    · exact sub2 b o e
    · have := sub2 b o e
      rw [bk.gone b m] at this
      cases this
def dCall (T : TD) (er : EK) (t : DTRs) : DTE := fun ρ Q => t ρ fun rs ρ1 => (obSlots ρ1 rs).Nodup ∧ T (argsOf ρ1 rs) (fun D as' => Q D (upS rs as' ρ1)) er
theorem call_read {E : XK} {er : EK} (hE : ErrL (zOf X P) G0 E er) {σ : L2.St} {H : Hp} {Q : VK} (h : rdE (zOf X P) G0 n (dCall T er t) σ H Q) : tCallM X (spT (zOf X P) T) (fun _ => E) (rdRs (zOf X P) G0 n t) σ H Q := by
  obtain ⟨F, ρ, G, Q0, s, R, h, kk⟩ := h
  exact ⟨F, ρ, G, _, s, R, h, fun rs ρ1 vs G1 H1 ⟨nd, q⟩ s1 al1 R1 va => call_at hE (s.trans s1) R1 va nd q (kk.after s1 al1)⟩
theorem errL_none {K : Zw} {G : Hp} : ErrL K G (fun _ _ _ => False) (fun _ => False) := fun _ _ _ _ _ _ q _ _ _ _ _ => q
/-- f(..), f lets nothing out -/
theorem de_call (Fk : FnD X.prog X.w X.K X.mg X.base CX0 k f fd ps (spT (zOf X P) T)) (hr : Room k X.A) (hgd : X.A.guards = some []) (hg : Gl X x) (hm : X.mg x = some (.ref f)) (hk : PySem.W.keepIn X.K (.ref f) = true) (hb : Binds X.K fd ps []) (ha : DRs P G0 n X (e :: es) t)
    (hdb : (x == ("__debug__" : Str)) = false := by decide) (he : starEach (e :: es) X.env = (false, eval e X.env) :: starEach es X.env := by rfl) (hpl : (backTo pos (starEach es X.env)).any (·.1) = false := by rfl) :
    DE P G0 n X (.Call (.Name x p) (e :: es) [] pos) (dCall T (fun _ => False) t) := pe_weak (pe_callM (E := fun _ _ _ _ => False) Fk .non hr hgd hg hm hk hb ha hdb he hpl) fun σ H Q h => call_read errL_none h
/-- f(..), f may raise -/
theorem de_callX {E : XK} {er : EK} (hE : ErrL (zOf X P) G0 E er) (hx : Passes (L2.CX X.prog X.w) X E) (Fk : FnD X.prog X.w X.K X.mg X.base (L2.CX X.prog X.w) k f fd ps (spT (zOf X P) T)) (hr : Room k X.A) (hgd : X.A.guards = some []) (hg : Gl X x) (hm : X.mg x = some (.ref f)) (hk : PySem.W.keepIn X.K (.ref f) = true) (hb : Binds X.K fd ps []) (ha : DRs P G0 n X (e :: es) t)
    (hdb : (x == ("__debug__" : Str)) = false := by decide) (he : starEach (e :: es) X.env = (false, eval e X.env) :: starEach es X.env := by rfl) (hpl : (backTo pos (starEach es X.env)).any (·.1) = false := by rfl) :
    DE P G0 n X (.Call (.Name x p) (e :: es) [] pos) (dCall T er t) := pe_weak (pe_callM Fk (.all hx) hr hgd hg hm hk hb ha hdb he hpl) fun σ H Q h => call_read hE h
def pick {α : Type} (is : List Nat) (l : List α) : List α := is.filterMap fun i => l[i]?
theorem paired_at {α β : Type} {p : α → β → Prop} : ∀ {l : List α} {m : List β} (i : Nat), Paired p l m → (l[i]? = none ∧ m[i]? = none) ∨ ∃ a b, l[i]? = some a ∧ m[i]? = some b ∧ p a b
  | _, _, i, .nil => .inl ⟨by simp, by simp⟩
  | _, _, 0, .cons h _ => .inr ⟨_, _, rfl, rfl, h⟩
  | _, _, i + 1, .cons _ h => by simpa using paired_at i h
theorem paired_pick {α β : Type} {p : α → β → Prop} {l : List α} {m : List β} (h : Paired p l m) : ∀ is : List Nat, Paired p (pick is l) (pick is m)
  | [] => .nil
  | i :: is => by
    have ih := paired_pick h is
    unfold pick at ih ⊢
    rw [List.filterMap_cons, List.filterMap_cons]
    rcases paired_at i h with ⟨h1, h2⟩ | ⟨a, b, h1, h2, h3⟩
    · rw [h1, h2]
      exact ih
    · rw [h1, h2]
      exact .cons h3 ih
theorem rvAll_pick {K : Zw} {G : Hp} {σ : L2.St} {vs : List V} {rs : List Rv} (h : RvAll K G σ vs rs) : ∀ is : List Nat, RvAll K G σ (pick is vs) (pick is rs)
  | [] => trivial
  | i :: is => by
    have ih := rvAll_pick h is
    unfold pick at ih ⊢
    rw [List.filterMap_cons, List.filterMap_cons]
    cases e : rs[i]? with
    | none =>
      have e2 : vs[i]? = none := List.getElem?_eq_none_iff.mpr (by rw [h.len]; exact List.getElem?_eq_none_iff.mp e)
      rw [e2]
      exact ih
    | some r =>
      obtain ⟨v, e2, q⟩ := h.at e
      rw [e2]
      exact ⟨q, ih⟩
theorem kbPick {K : PySem.W.Frag} {x q : Str} {st : Stmt} {f : Addr} {fd : FuncData} {ps ks : List Str} (is : List Nat) (F : Fun K x q st f fd) (hne : ps ≠ [])
    (h : ∀ (kV doc pm : Value) (an : Option Addr) (cdv ct : Value) (ws : List Value), (pick is ws).length = ps.length → bindArgs (PySem.W.fnOf x q (defArgs st) (defBody st) (defScope st) .none kV doc pm an cdv ct) ⟨[], ks.zip ws⟩ = pure (ps.zip (pick is ws))) : KBinds K fd ps ks (fun us ws => if us.isEmpty then pick is ws else []) (fun vs zs => if vs.isEmpty then pick is zs else []) := by
  obtain ⟨oc, od, kV, doc, pm, an, cdv, ct, osl, rfl, lk, hcd⟩ := F.ex
  refine ⟨fun s us ws _ hl2 => ?_, fun r z => ?_⟩
  · cases us with
    | nil => exact .of_eq (h kV doc pm an cdv ct ws hl2)
    | cons u us =>
      have : (0 : Nat) = ps.length := hl2
      exact absurd (List.eq_nil_of_length_eq_zero this.symm) hne
  · cases r with
    | nil => exact paired_pick z is
    | cons a b => exact .nil
def DKs (P : Tb) (G0 : Hp) (n : Nat) (X : Cx) (kws : List Keyword) (t : DTRs) : Prop := PK X kws (rdRs (zOf X P) G0 n t)
theorem pk_weak {t t' : TA} (h : PK X kws t) (i : ∀ σ H Q, t' σ H Q → t σ H Q) : PK X kws t' := ⟨fun pos pins s σ H Q I q => h.run pos pins s σ H Q I (i σ H Q q)⟩
theorem dks_nil : DKs P G0 n X [] (fun ρ Q => Q [] ρ) := pk_weak pk_nil fun σ H Q ⟨F, ρ, G, Q0, s, R, h, k⟩ => k _ ρ _ G H h (Ex.refl s.2) Alike.refl R trivial
theorem dks_cons {t : DTR} {u : DTRs} (h : DR P G0 n X e t) (r : DKs P G0 n X kws u) : DKs P G0 n X (⟨nm, e, kpos⟩ :: kws) (fun ρ Q => t ρ fun r ρ1 => u ρ1 fun rs ρ2 => Q (r :: rs) ρ2) :=
  pk_weak (pk_cons h r) fun σ H Q ⟨F, ρ, G, Q0, s, R, h, k⟩ => ⟨F, ρ, G, _, s, R, h, fun r1 ρ' v G' H' q s' al R' d => ⟨F, ρ', G', _, s.trans s', R', q, fun rs ρ2 vs G2 H2 q2 s2 al2 R2 d2 => k _ ρ2 _ G2 H2 q2 (s'.trans s2) (al.trans al2) R2 ⟨d.mono s2, d2⟩⟩⟩
/-- f(r = .., q = .., p = ..) -/
def dCallK (is : List Nat) (T : TD) (er : EK) (t : DTRs) : DTE := fun ρ Q => t ρ fun rs ρ1 => (obSlots ρ1 (pick is rs)).Nodup ∧ T (argsOf ρ1 (pick is rs)) (fun D as' => Q D (upS (pick is rs) as' ρ1)) er
theorem callK_read {is : List Nat} {E : XK} {er : EK} (hE : ErrL (zOf X P) G0 E er) (hgV : ∀ zs, gV [] zs = pick is zs) {σ : L2.St} {H : Hp} {Q : VK} (h : rdE (zOf X P) G0 n (dCallK is T er t) σ H Q) : rdRs (zOf X P) G0 n t σ H fun zs H1 => maskK X σ (spT (zOf X P) T) E (gV [] zs) H1 Q := by
  obtain ⟨F, ρ, G, Q0, s, R, h, kk⟩ := h
  refine ⟨F, ρ, G, _, s, R, h, fun rs ρ1 vs G1 H1 ⟨nd, q⟩ s1 al1 R1 va => ?_⟩
  dsimp only
  rw [hgV]
  exact call_at hE (s.trans s1) R1 (rvAll_pick va is) nd q (kk.after s1 al1)
theorem de_callKX {is : List Nat} {E : XK} {er : EK} (hE : ErrL (zOf X P) G0 E er) (hx : Passes (L2.CX X.prog X.w) X E) (Fk : FnD X.prog X.w X.K X.mg X.base (L2.CX X.prog X.w) k f fd ps (spT (zOf X P) T)) (hr : Room k X.A) (hgd : X.A.guards = some []) (hg : Gl X x) (hm : X.mg x = some (.ref f)) (hk : PySem.W.keepIn X.K (.ref f) = true) (hb : KBinds X.K fd ps ks g gV) (hgV : ∀ zs, gV [] zs = pick is zs)
    (ha : DKs P G0 n X kws t) (hall : (backToKw pos (keywordEach kws X.env)).all (·.1.isSome) = true := by rfl) (hks : (backToKw pos (keywordEach kws X.env)).filterMap (·.1) = ks := by rfl)
    (hdb : (x == ("__debug__" : Str)) = false := by decide) (hpl : ((backTo pos (starEach [] X.env)).any (·.1) || (backToKw pos (keywordEach kws X.env)).any (·.1.isNone)) = false := by rfl) :
    DE P G0 n X (.Call (.Name x p) [] kws pos) (dCallK is T er t) := pe_weak (pe_callMK Fk (.all hx) hr hgd hg hm hk hb ha hall hks hdb hpl) fun σ H Q h => callK_read hE hgV h
end
end Dl
set_option Elab.async false
set_option linter.all false
set_option maxRecDepth 100000
set_option maxHeartbeats 4000000
namespace Dl
open PySem PySem.Spec PyProof PyProof.Rows L2 So Da
def outA : List Lc → Sto → List Lc
  | [], _ => []
  | lc :: as, ρ => (match lc, ρ.head? with
    | .ob a _, some (.ob _ c') => .ob a c'
    | lc, _ => lc) :: outA as ρ.tail
def start0 (m : Nat) (as : List Lc) : Sto := as ++ List.replicate m .un
section
variable {K : Zw} {F : List (Addr × HO)} {G G' H H' : Hp} {ρ : Sto} {σ : L2.St} {vs : List V} {as : List Lc}
theorem un_of {m i : Nat} {lc : Lc} {ρ : Sto} (h : (ρ ++ List.replicate m Lc.un)[i]? = some lc) (n : lc ≠ .un) : ρ[i]? = some lc := by
  by_cases q : i < ρ.length
  · rwa [List.getElem?_append_left q] at h
  · rw [List.getElem?_append_right (by omega), List.getElem?_replicate] at h
    split at h
    · exact absurd (Option.some.inj h).symm n
    · cases h
theorem Rep.more (m : Nat) (R : Rep K F G ρ σ H) : Rep K F G (ρ ++ List.replicate m .un) (σ ++ List.replicate m none) H := by
  have left : ∀ {i lc}, ρ[i]? = some lc → (σ ++ List.replicate m none)[i]? = σ[i]? := fun {i lc} e => List.getElem?_append_left (R.lt e)
  have ob' : ∀ {i : Nat} {a : Addr} {c : Oc}, (ρ ++ List.replicate m Lc.un)[i]? = some (Lc.ob a c) → ρ[i]? = some (Lc.ob a c) := fun e => un_of e fun z => Lc.noConfusion z
  refine ⟨by rw [List.length_append, List.length_append, List.length_replicate, List.length_replicate, R.len], fun {i D} e => ?_, fun {i a c} e => ?_, fun {i a C d D} e => ?_, fun {i O} e => ?_, fun e e' => R.uniq (ob' e) (ob' e'), fun m => ⟨(R.ex m).1, (R.ex m).2.1, fun ⟨i, c, e⟩ => (R.ex m).2.2.1 ⟨i, c, ob' e⟩, (R.ex m).2.2.2⟩, R.sub, R.nt⟩
  · have e := un_of e fun z => Lc.noConfusion z
    rw [left e]
    exact R.sh e
  · have e := ob' e
    rw [left e]
    exact R.ob e
  · have e := un_of e fun z => Lc.noConfusion z
    rw [left e]
    exact R.exc e
  · have e := un_of e fun z => Lc.noConfusion z
    rw [left e]
    exact R.ask e
theorem outA_same : ∀ (as : List Lc) (ρ : Sto), (∀ (k : Nat) (a : Addr) (c : Oc), as[k]? = some (.ob a c) → ∃ c', ρ[k]? = some (.ob a c')) → Same as (outA as ρ) ∧ ∀ (k : Nat) (a : Addr) (c : Oc), (outA as ρ)[k]? = some (.ob a c) → ρ[k]? = some (.ob a c)
  | [], _, _ => ⟨.nil, fun k a c e => by unfold outA at e; simp at e⟩
  | lc :: as, ρ, h => by
    have tl : ∀ (k : Nat), ρ.tail[k]? = ρ[k + 1]? := fun k => by cases ρ <;> simp
    obtain ⟨h1, h2⟩ := outA_same as ρ.tail fun k a c e => by
      rw [tl]
      exact h (k + 1) a c (by simpa using e)
    have fin : ∀ {lc' : Lc}, (∀ a c, lc' = .ob a c → ρ[0]? = some (.ob a c)) → ∀ (k : Nat) (a : Addr) (c : Oc), (lc' :: outA as ρ.tail)[k]? = some (.ob a c) → ρ[k]? = some (.ob a c) := fun {lc'} z k a c e => by
      cases k with
      | zero => exact z a c (Option.some.inj (show some lc' = some (Lc.ob a c) from e))
      | succ k => rw [← tl]; exact h2 k a c (by simpa using e)
    cases lc with
    | un => exact ⟨.un h1, fin fun a c z => nomatch z⟩
    | sh D => exact ⟨.sh h1, fin fun a c z => nomatch z⟩
    | exc a C d D => exact ⟨.exc h1, fin fun a c z => nomatch z⟩
    | ask O => exact ⟨.ask h1, fin fun a c z => nomatch z⟩
    | ob a c =>
      obtain ⟨c', e⟩ := h 0 a c rfl
      have e2 : ρ.head? = some (.ob a c') := by rw [List.head?_eq_getElem?]; exact e
      have e3 : outA (.ob a c :: as) ρ = .ob a c' :: outA as ρ.tail := by
        conv => lhs; unfold outA
        rw [e2]
      rw [e3]
      exact ⟨.ob h1, fin fun b d z => by cases z; exact e⟩
/-- at a def's end: what it leaves to its caller -/
theorem Rep.out {N : List Str} {n : Nat} {G0 : Hp} {σ0 : L2.St} {H0 : Hp} (t : Tg G0 K.T) (R0 : Rep K [] G0 as (vs.map some) H0) (hn : as.length ≤ n) (m : Nat) (s : Ex K.T G0 G) (al : Alike n (start0 m as) ρ) (R : Rep K [] G ρ σ H) :
    Same as (outA as ρ) ∧ Rep K [] G (outA as ρ) (vs.map some) H ∧ ∀ (k : Nat) (a : Addr) (c : Oc), (outA as ρ)[k]? = some (.ob a c) → k < n ∧ ρ[k]? = some (.ob a c) := by
  have al' : ∀ (k : Nat) (a : Addr) (c : Oc), as[k]? = some (.ob a c) → ∃ c', ρ[k]? = some (.ob a c') := fun k a c e => al k a c (by have := (List.getElem?_eq_some_iff.mp e).1; omega) (by unfold start0; rw [List.getElem?_append_left (List.getElem?_eq_some_iff.mp e).1]; exact e)
  obtain ⟨sm, inv⟩ := outA_same as ρ al'
  refine ⟨sm, ⟨R0.len.trans sm.len, fun {k D} e => ?_, fun {k a c} e => ?_, fun {k a C d D} e => ?_, fun {k O} e => ?_, fun {j k a c c'} e e' => R.uniq (inv _ _ _ e) (inv _ _ _ e'), fun m => absurd m List.not_mem_nil, R.sub, R.nt⟩, fun k a c e => ⟨?_, inv k a c e⟩⟩
  · obtain ⟨v, h1, h2⟩ := R0.sh (sm.shw e)
    exact ⟨v, h1, Dw.mono s h2⟩
  · obtain ⟨c0, e0⟩ := sm.bwd e
    exact ⟨(R0.ob e0).1, (R.ob (inv _ _ _ e)).2⟩
  · obtain ⟨h1, v, h2, h3⟩ := R0.exc (sm.exw e)
    exact ⟨h1, v, s.1 _ _ h2 (fun _ z => nomatch z), h3.mono s⟩
  · obtain ⟨f, h1, h2⟩ := R0.ask (sm.asw e)
    exact ⟨f, h1, h2.mono s⟩
  · have := (List.getElem?_eq_some_iff.mp e).1
    rw [← sm.len] at this
    omega
end
section
variable {Pg : Program} {w : World} {K : Zw} {mg : Str → Option Value} {base : Heap} {x : Str} {st : Stmt} {f : Addr} {fd : FuncData} {N ps : List Str} {k : Nat} {T : TD}
/-- what a body has to come to -/
abbrev endsOf (as : List Lc) (Q0 : PyData → List Lc → Prop) : EndsD := { nx := fun ρ => Q0 .none (outA as ρ), rt := fun D ρ => Q0 D (outA as ρ) }
theorem body_read {t : DTS} {as : List Lc} {Q0 : PyData → List Lc → Prop} {G H : Hp} {vs : List V} {Q : VK} (tb : Tg G K.T) (R : Rep K [] G as (vs.map some) H) (l : vs.length = ps.length) (hq : t (endsOf as Q0) (start0 (N.length - ps.length) as))
    (hQ : ∀ D as' v G' H', Q0 D as' → Same as as' → Ex K.T G G' → Rep K [] G' as' (vs.map some) H' → Dw K G' v D → Q v H') : rdS K G ps.length t { nx := fun _ H' => Q .non H', rt := Q } (L2.start N vs) H := by
  have la : as.length = ps.length := by rw [← l, ← R.len, List.length_map]
  have fin : ∀ (Dv : PyData) (ρ' : Sto) (v : V) (σ' : L2.St) (G' H' : Hp), Q0 Dv (outA as ρ') → Ex K.T G G' → Alike ps.length (start0 (N.length - ps.length) as) ρ' → Rep K [] G' ρ' σ' H' → Dw K G' v Dv → Q v H' := fun Dv ρ' v σ' G' H' q s al R' d => by
    obtain ⟨sm, R2, _⟩ := Rep.out (N := N) (σ0 := σ') tb R (by omega) (N.length - ps.length) s al R'
    exact hQ Dv _ v G' H' q sm s R2 d
  refine ⟨start0 (N.length - ps.length) as, G, endsOf as Q0, Ex.refl tb, ?_, hq, fun ρ' σ' G' H' q s al R' => fin .none ρ' .non σ' G' H' q s al R' .non, fun _ _ _ _ z => z.elim, fun _ _ _ _ z => z.elim, fun Dv ρ' v σ' G' H' q s al R' d => fin Dv ρ' v σ' G' H' q s al R' d, fun _ _ _ _ _ _ _ z => z.elim⟩
  unfold start0 L2.start
  rw [l]
  exact R.more _
/-- a def's promise, where what is answered is the caller's own -/
abbrev TDO := List Lc → (Oc → List Lc → Prop) → EK → Prop
def spO (K : Zw) (T : TDO) : Sp := fun vs H Q E => ∃ G as Q0 er, Tg G K.T ∧ Rep K [] G as (vs.map some) H ∧ T as Q0 er ∧
  (∀ c as' a o G' H', Q0 c as' → Same as as' → Ex K.T G G' → Rep K [] G' as' (vs.map some) H' → H' a = some o → G' a = none → ¬ Owns as' a → OcOk K G' a c o → Q (.ref a) H') ∧ ErrL K G E er
/-- where the slots' cells stand -/
def caOf (X : Cx) (j : Nat) : Addr := ((X.N[j]?).bind fun y => X.env.cells.lookup y).getD 0
theorem spT_len {Z : Zw} (len : ∀ as Q er, T as Q er → as.length = ps.length) : ∀ vs H Q E, spT Z T vs H Q E → vs.length = ps.length := fun vs H Q E ⟨G, as, Q0, er, tb, R, hT, _⟩ => by
  have := R.len
  rw [List.length_map] at this
  exact this.trans (len _ _ _ hT)
end
section
variable {Z : Zw} {x : Str} {st : Stmt} {f : Addr} {fd : FuncData} {N ps : List Str} {k : Nat} {T : TD}
/-- a def that lets nothing out -/
theorem okD {t : (Nat → Addr) → DTS} (F : Fun Z.K x x st f fd) (S : FnScope N ps (defScope st)) (len : ∀ as Q er, T as Q er → as.length = ps.length)
    (h : ∀ (cdv : Value) (A : Around) (outer : List Env) (s : Shared) (H : Hp) (E : XK) (G0 : Hp) (ca : Nat → Addr), Room k (A.deeper (envOfC x (defScope st) s.heap.objs.size f cdv)) → (A.deeper (envOfC x (defScope st) s.heap.objs.size f cdv)).guards = some [] → ca = caOf (cxOf CX0 Z.Pg Z.w Z.K Z.mg Z.base N x (defScope st) f cdv A outer s H E).nox →
      DSs Z.T G0 ps.length (cxOf CX0 Z.Pg Z.w Z.K Z.mg Z.base N x (defScope st) f cdv A outer s H E).nox (defBody st) (t ca))
    (hq : ∀ ca as Q er, T as Q er → t ca (endsOf as Q) (start0 (N.length - ps.length) as)) : FnD Z.Pg Z.w Z.K Z.mg Z.base CX0 (k + 1) f fd ps (spT Z T) :=
  FnD.ok F S (spT_len len) fun cdv A outer s H vs Q E hr hg ⟨G, as, Q0, er, tb, R, hT, hQ, _⟩ => ⟨_, h cdv A outer s H E G _ hr hg rfl, body_read tb R (by
    have := R.len
    rw [List.length_map] at this
    exact this.trans (len _ _ _ hT)) (hq _ _ _ _ hT) hQ⟩
/-- a def that may raise -/
theorem okDX {t : (Nat → Addr) → EK → DTS} (F : Fun Z.K x x st f fd) (S : FnScope N ps (defScope st)) (len : ∀ as Q er, T as Q er → as.length = ps.length)
    (h : ∀ (cdv : Value) (A : Around) (outer : List Env) (s : Shared) (H : Hp) (E : XK) (G0 : Hp) (er : EK) (ca : Nat → Addr), ErrL Z G0 E er → Room k (A.deeper (envOfC x (defScope st) s.heap.objs.size f cdv)) → (A.deeper (envOfC x (defScope st) s.heap.objs.size f cdv)).guards = some [] → ca = caOf (cxOf (L2.CX Z.Pg Z.w) Z.Pg Z.w Z.K Z.mg Z.base N x (defScope st) f cdv A outer s H E) →
      DSs Z.T G0 ps.length (cxOf (L2.CX Z.Pg Z.w) Z.Pg Z.w Z.K Z.mg Z.base N x (defScope st) f cdv A outer s H E) (defBody st) (t ca er))
    (hq : ∀ ca as Q er, T as Q er → t ca er (endsOf as Q) (start0 (N.length - ps.length) as)) : FnD Z.Pg Z.w Z.K Z.mg Z.base (L2.CX Z.Pg Z.w) (k + 1) f fd ps (spT Z T) :=
  FnD.okX F S (spT_len len) fun cdv A outer s H vs Q E hr hg ⟨G, as, Q0, er, tb, R, hT, hQ, hE⟩ => ⟨_, h cdv A outer s H E G er _ hE hr hg rfl, body_read tb R (by
    have := R.len
    rw [List.length_map] at this
    exact this.trans (len _ _ _ hT)) (hq _ _ _ _ hT) hQ⟩
end
end Dl
set_option Elab.async false
set_option linter.all false
set_option maxRecDepth 100000
set_option maxHeartbeats 4000000
namespace Dl
open PySem PySem.Spec PyProof PyProof.Rows L2 So Da
section
variable {P : Tb} {G0 : Hp} {n : Nat} {X : Cx} {a b e : Expr} {pos p : Pos} {t u : DTE}
/-- max(a, b), min(a, b), whole numbers -/
theorem de_max2 (hc : X.calm = true) (hg : Gl X "max") (hm : X.mg "max" = none) (ha : DE P G0 n X a t) (hb : DE P G0 n X b u) (hs : starEach [a, b] X.env = (false, eval a X.env) :: starEach [b] X.env := by rfl) (hs2 : starEach [b] X.env = (false, eval b X.env) :: starEach [] X.env := by rfl) (hpl : (backTo pos (starEach [b] X.env)).any (·.1) = false := by rfl) :
    DE P G0 n X (.Call (.Name "max" p) [a, b] [] pos) (fun ρ Q => t ρ fun D ρ1 => u ρ1 fun E ρ2 => match D, E with
      | .int i, .int j => Q (.int (if j > i then j else i)) ρ2
      | _, _ => False) := pe_weak (pe_callB (call_max2 hc) hg hm (by decide +kernel) (pa_cons ha (pa_cons hb pa_nil hs2) hs) (by decide) (by decide) hs hpl) fun σ H Q ⟨F, ρ, G, Q0, s, R, h, k⟩ =>
  ⟨F, ρ, G, _, s, R, h, fun D ρ1 v G1 H1 q1 s1 al1 R1 d1 => ⟨F, ρ1, G1, _, s.trans s1, R1, q1, fun E ρ2 v2 G2 H2 q s2 al2 R2 d2 => by
    split at q
    · cases d1
      cases d2
      exact ⟨_, _, rfl, k _ _ _ _ _ q (s1.trans s2) (al1.trans al2) R2 (.int _)⟩
    · exact q.elim⟩⟩
theorem de_min2 (hc : X.calm = true) (hg : Gl X "min") (hm : X.mg "min" = none) (ha : DE P G0 n X a t) (hb : DE P G0 n X b u) (hs : starEach [a, b] X.env = (false, eval a X.env) :: starEach [b] X.env := by rfl) (hs2 : starEach [b] X.env = (false, eval b X.env) :: starEach [] X.env := by rfl) (hpl : (backTo pos (starEach [b] X.env)).any (·.1) = false := by rfl) :
    DE P G0 n X (.Call (.Name "min" p) [a, b] [] pos) (fun ρ Q => t ρ fun D ρ1 => u ρ1 fun E ρ2 => match D, E with
      | .int i, .int j => Q (.int (if j < i then j else i)) ρ2
      | _, _ => False) := pe_weak (pe_callB (call_min2 hc) hg hm (by decide +kernel) (pa_cons ha (pa_cons hb pa_nil hs2) hs) (by decide) (by decide) hs hpl) fun σ H Q ⟨F, ρ, G, Q0, s, R, h, k⟩ =>
  ⟨F, ρ, G, _, s, R, h, fun D ρ1 v G1 H1 q1 s1 al1 R1 d1 => ⟨F, ρ1, G1, _, s.trans s1, R1, q1, fun E ρ2 v2 G2 H2 q s2 al2 R2 d2 => by
    split at q
    · cases d1
      cases d2
      exact ⟨_, _, rfl, k _ _ _ _ _ q (s1.trans s2) (al1.trans al2) R2 (.int _)⟩
    · exact q.elim⟩⟩
/-- a + b, lists: a fresh one -/
theorem df_cat {ta tb : DTR} (ha : DR P G0 n X a ta) (hb : DR P G0 n X b tb) : DF P G0 n X (.BinOp a .Add b pos) (fun ρ Q => ta ρ fun r ρ1 => tb ρ1 fun q ρ2 => derefW ρ2 r fun x => derefW ρ2 q fun y => match x, y with
    | .list i, .list j => i.length + j.length ≤ sizeLine ∧ Q (i ++ j) ρ2
    | _, _ => False) := pe_weak (pe_op op_catL ha hb) fun σ H Q ⟨F, ρ, G, Q0, s, R, h, k⟩ =>
  ⟨F, ρ, G, _, s, R, h, fun r1 ρ1 v1 G1 H1 h1 s1 a1 R1 d1 => ⟨F, ρ1, G1, _, s.trans s1, R1, h1, fun r2 ρ2 v2 G2 H2 h2 s2 a2 R2 d2 => by
    unfold derefW at h2
    split at h2
    · rename_i D1 e1
      split at h2
      · rename_i D2 e2
        split at h2
        · obtain ⟨x, xs, rfl, hx, dx⟩ := (dq_of R2 (d1.mono s2) e1).list R2
          obtain ⟨y, ys, rfl, hy, dy⟩ := (dq_of R2 d2 e2).list R2
          exact ⟨x, y, xs, ys, rfl, rfl, hx, hy, by rw [dpa_len dx, dpa_len dy]; exact h2.1, fun q hq => k _ ρ2 _ G2 _ q h2.2 (s1.trans s2) (a1.trans a2) (R2.push hq) (fun o m => by rw [(R2.ex m).1] at hq; cases hq) (dpa_app dx dy)⟩
        · exact h2.elim
      · exact h2.elim
    · exact h2.elim⟩⟩
end
theorem forW_ind {g : DTG} {tb : DTS} {D : EndsD} (J : List PyData → Sto → Prop) (hn : ∀ ρ, J [] ρ → D.nx ρ)
    (hc : ∀ d ds ρ, J (d :: ds) ρ → (∀ ρ', J ds ρ' → forW g tb D ds ρ') → g d ρ fun ρ' => tb { D with nx := forW g tb D ds, ct := forW g tb D ds, bk := D.nx } ρ') : ∀ ds ρ, J ds ρ → forW g tb D ds ρ
  | [], ρ, h => hn ρ h
  | d :: ds, ρ, h => hc d ds ρ h (forW_ind J hn hc ds)
/-- a comprehension without a test: what each item may become -/
theorem lcW_rel {ρw : Sto} {vs : List Nat} {g : DTG} {te : DTE} {Q : List PyData → Prop} {ds : List PyData} (p : PyData → PyData → Prop) (hl : ds.length ≤ 1000000)
    (h : ∀ d ∈ ds, ∀ (R : PyData → Prop), (∀ y, p d y → R y) → g d ρw fun ρ2 => te ρ2 fun y ρ3 => (noObs ρ3 vs ∧ wipeD ρ3 vs = ρw) ∧ R y)
    (hq : ∀ acc, Paired p ds acc → Q acc) : lcW ρw vs g (fun ρ Q => Q true ρ) te ds [] Q := by
  have key : ∀ (rest acc : List PyData), (∀ d ∈ rest, d ∈ ds) → acc.length + rest.length ≤ 1000000 → (∀ acc', Paired p rest acc' → Q (acc ++ acc')) → lcW ρw vs g (fun ρ Q => Q true ρ) te rest acc Q := by
    intro rest
    induction rest with
    | nil => intro acc _ _ q; have := q [] .nil; rw [List.append_nil] at this; exact this
    | cons d rest ih =>
      intro acc m l q
      have l' : acc.length + rest.length + 1 ≤ 1000000 := by simpa [Nat.add_assoc] using l
      unfold lcW
      refine h d (m d List.mem_cons_self) (fun y => acc.length < sizeLine ∧ lcW ρw vs g (fun ρ Q => Q true ρ) te rest (acc ++ [y]) Q) fun y hy => ⟨Nat.lt_of_lt_of_le (show acc.length < 1000001 by omega) (by decide), ih _ (fun d hd => m d (List.mem_cons_of_mem _ hd)) (by rw [List.length_append, List.length_singleton]; omega) fun acc' ha => ?_⟩
      rw [List.append_assoc]
      exact q (y :: acc') (.cons hy ha)
  exact key ds [] (fun _ h => h) (by rw [List.length_nil]; omega) fun acc' ha => hq acc' ha
theorem paired_map {f : PyData → PyData} : ∀ {ds acc : List PyData}, Paired (fun d y => y = f d) ds acc → acc = ds.map f
  | _, _, .nil => rfl
  | _, _, .cons h t => by rw [h, paired_map t]; rfl
/-- .. where it is told -/
theorem lcW_map {ρw : Sto} {vs : List Nat} {g : DTG} {te : DTE} {Q : List PyData → Prop} {ds : List PyData} (f : PyData → PyData) (hl : ds.length ≤ 1000000)
    (h : ∀ d ∈ ds, ∀ (R : PyData → Prop), R (f d) → g d ρw fun ρ2 => te ρ2 fun y ρ3 => (noObs ρ3 vs ∧ wipeD ρ3 vs = ρw) ∧ R y) (hq : Q (ds.map f)) : lcW ρw vs g (fun ρ Q => Q true ρ) te ds [] Q :=
  lcW_rel (fun d y => y = f d) hl (fun d hd R hR => h d hd R (hR _ rfl)) fun acc ha => by rw [paired_map ha]; exact hq
theorem at_0 {α : Type} {a : α} {l : List α} : atI (a :: l) 0 = some a := atI_nat (j := 0) rfl
theorem at_1 {α : Type} {a b : α} {l : List α} : atI (a :: b :: l) 1 = some b := atI_nat (j := 1) rfl
theorem at_2 {α : Type} {a b c : α} {l : List α} : atI (a :: b :: c :: l) 2 = some c := atI_nat (j := 2) rfl
theorem at_3 {α : Type} {a b c d : α} {l : List α} : atI (a :: b :: c :: d :: l) 3 = some d := atI_nat (j := 3) rfl
theorem at_4 {α : Type} {a b c d e : α} {l : List α} : atI (a :: b :: c :: d :: e :: l) 4 = some e := atI_nat (j := 4) rfl
theorem ix_0 {a : PyData} {l : List PyData} {Q : PyData → Prop} : ixD (.tuple (a :: l)) (.int 0) Q = Q a := by
  unfold ixD
  simp only [at_0]
theorem ix_1 {a b : PyData} {l : List PyData} {Q : PyData → Prop} : ixD (.tuple (a :: b :: l)) (.int 1) Q = Q b := by
  unfold ixD
  simp only [at_1]
theorem ix_2 {a b c : PyData} {l : List PyData} {Q : PyData → Prop} : ixD (.tuple (a :: b :: c :: l)) (.int 2) Q = Q c := by
  unfold ixD
  simp only [at_2]
theorem ix_3 {a b c d : PyData} {l : List PyData} {Q : PyData → Prop} : ixD (.tuple (a :: b :: c :: d :: l)) (.int 3) Q = Q d := by
  unfold ixD
  simp only [at_3]
theorem ix_4 {a b c d e : PyData} {l : List PyData} {Q : PyData → Prop} : ixD (.tuple (a :: b :: c :: d :: e :: l)) (.int 4) Q = Q e := by
  unfold ixD
  simp only [at_4]
def T1 (f : PyData → (PyData → Prop) → EK → Prop) : TD := fun as Q er => match as with
  | [.sh a] => f a (fun r => Q r as) er
  | _ => False
def T2 (f : PyData → PyData → (PyData → Prop) → EK → Prop) : TD := fun as Q er => match as with
  | [.sh a, .sh b] => f a b (fun r => Q r as) er
  | _ => False
def T3 (f : PyData → PyData → PyData → (PyData → Prop) → EK → Prop) : TD := fun as Q er => match as with
  | [.sh a, .sh b, .sh c] => f a b c (fun r => Q r as) er
  | _ => False
def T4 (f : PyData → PyData → PyData → PyData → (PyData → Prop) → EK → Prop) : TD := fun as Q er => match as with
  | [.sh a, .sh b, .sh c, .sh d] => f a b c d (fun r => Q r as) er
  | _ => False
theorem t1_inv {f : PyData → (PyData → Prop) → EK → Prop} {as : List Lc} {Q : PyData → List Lc → Prop} {er : EK} (h : T1 f as Q er) : ∃ a, as = [.sh a] ∧ f a (fun r => Q r [.sh a]) er := by
  unfold T1 at h
  split at h
  · exact ⟨_, rfl, h⟩
  · exact h.elim
theorem t2_inv {f : PyData → PyData → (PyData → Prop) → EK → Prop} {as : List Lc} {Q : PyData → List Lc → Prop} {er : EK} (h : T2 f as Q er) : ∃ a b, as = [.sh a, .sh b] ∧ f a b (fun r => Q r [.sh a, .sh b]) er := by
  unfold T2 at h
  split at h
  · exact ⟨_, _, rfl, h⟩
  · exact h.elim
theorem t3_inv {f : PyData → PyData → PyData → (PyData → Prop) → EK → Prop} {as : List Lc} {Q : PyData → List Lc → Prop} {er : EK} (h : T3 f as Q er) : ∃ a b c, as = [.sh a, .sh b, .sh c] ∧ f a b c (fun r => Q r [.sh a, .sh b, .sh c]) er := by
  unfold T3 at h
  split at h
  · exact ⟨_, _, _, rfl, h⟩
  · exact h.elim
theorem t4_inv {f : PyData → PyData → PyData → PyData → (PyData → Prop) → EK → Prop} {as : List Lc} {Q : PyData → List Lc → Prop} {er : EK} (h : T4 f as Q er) : ∃ a b c d, as = [.sh a, .sh b, .sh c, .sh d] ∧ f a b c d (fun r => Q r [.sh a, .sh b, .sh c, .sh d]) er := by
  unfold T4 at h
  split at h
  · exact ⟨_, _, _, _, rfl, h⟩
  · exact h.elim
end Dl
set_option Elab.async false
set_option linter.all false
set_option maxRecDepth 100000
set_option maxHeartbeats 4000000
namespace Dl
open PySem PySem.Spec PyProof.Rows L2 So Da
section
variable {P : Tb} {G0 : Hp} {n : Nat} {X : Cx} {k : Nat} {f : Addr} {fd : FuncData} {ps : List Str} {x y : Str} {p pos py : Pos} {spos : Pos} {e : Expr} {es : List Expr} {t : DTRs} {i : Nat} {T : TDO}
/-- y = f(..), what is answered is one's own -/
def ownC (T : TDO) (er : EK) (t : DTRs) (i : Nat) : DTS := fun D ρ => t ρ fun rs ρ1 => (obSlots ρ1 rs).Nodup ∧ T (argsOf ρ1 rs) (fun c as' => i < ρ1.length ∧ noOb (upS rs as' ρ1) i ∧ ∀ a, D.nx ((upS rs as' ρ1).set i (.ob a c))) er
theorem ds_ownCall (hN : X.N.Nodup) (hi : X.N[i]? = some y) (hy : Loc X.env.scope y) (Fk : FnD X.prog X.w X.K X.mg X.base CX0 k f fd ps (spO (zOf X P) T)) (hr : Room k X.A) (hgd : X.A.guards = some []) (hg : Gl X x) (hm : X.mg x = some (.ref f)) (hk : PySem.W.keepIn X.K (.ref f) = true) (hb : Binds X.K fd ps []) (ha : DRs P G0 n X (e :: es) t)
    (hdb : (x == ("__debug__" : Str)) = false := by decide) (he : starEach (e :: es) X.env = (false, eval e X.env) :: starEach es X.env := by rfl) (hpl : (backTo pos (starEach es X.env)).any (·.1) = false := by rfl)
    (hs : swapsWith (.Call (.Name x p) (e :: es) [] pos) (some (.Name y py)) spos.line X.env = pure false := by rfl) (hf : X.fn y = true ∨ X.env.scope.names.lookup y = some .local := by first | exact .inl rfl | exact .inr rfl | assumption) :
    DS P G0 n X (.Assign [.Name y py] (.Call (.Name x p) (e :: es) [] pos) spos) (ownC T (fun _ => False) t i) :=
  ps_weak (ps_set hN hi hy (pe_callM (E := fun _ _ _ _ => False) Fk .non hr hgd hg hm hk hb ha hdb he hpl) hs hf) fun D σ H ⟨ρ, G, D0, s, R, h, kk⟩ => by
    refine ⟨[], ρ, G, _, s, R, h, fun rs ρ1 vs G1 H1 ⟨nd, q⟩ s1 al1 R1 va => ?_⟩
    unfold maskK
    obtain ⟨L, Rc⟩ := R1.call va nd
    refine ⟨hidL [] ρ1 (argsOf ρ1 rs), [], L, (fun j m => nomatch m), fun co sh _ => ?_⟩
    rw [noCo_of sh]
    refine ⟨G1, argsOf ρ1 rs, _, _, s1.2, Rc, q, fun c as' a o G2 H2 ⟨l2, no, q2⟩ sm s2 R2 e1 e2 e3 e4 bk => ?_, fun _ _ _ _ _ _ z => z.elim⟩
    have R3 := R1.back s1.2 va sm s2 R2 bk.gone
    have nh : a ∉ hidL [] ρ1 (argsOf ρ1 rs) := fun m => by
      rw [bk.gone a m] at e1
      cases e1
    have ea : bak (hidL [] ρ1 (argsOf ρ1 rs)) H1 H2 a = some o := by rw [bak_out nh]; exact e1
    have no2 : ¬ Owns (upS rs as' ρ1) a := fun ⟨j, c', e⟩ => by
      have hj : j < ρ1.length := by
        have := (List.getElem?_eq_some_iff.mp e).1
        rwa [upS_len] at this
      rcases upS_get hj rs as' with ⟨m, b, d, h1, h2, h3⟩ | ⟨h1, h2⟩
      · rw [h3] at e
        cases e
        exact e3 ⟨m, _, h2⟩
      · have e5 : ρ1[j]? = some (.ob a c') := h1.symm.trans e
        refine nh (mem_hidL.mpr (.inl ⟨⟨j, c', e5⟩, fun z => ?_⟩))
        obtain ⟨m, i', c2, r1, r2⟩ := own_arg z
        have := R1.uniq r2 e5
        subst this
        have h4 : (argsOf ρ1 rs)[m]? = some (.ob a c2) := by
          rw [List.getElem?_map, r1]
          show some (ρ1[i']?.getD .un) = _
          rw [r2]
          rfl
        obtain ⟨c3, h5⟩ := sm.fwd h4
        exact e3 ⟨m, c3, h5⟩
    have R4 : Rep (zOf X P) [(a, o)] G2 (upS rs as' ρ1) σ (bak (hidL [] ρ1 (argsOf ρ1 rs)) H1 H2) := ⟨R3.len, R3.sh, R3.ob, R3.exc, R3.ask, R3.uniq, fun {b u} m => by
      have z := List.mem_singleton.mp m
      cases z
      exact ⟨ea, e2, no2, e4.lcl⟩, R3.sub, R3.nt⟩
    exact kk.nx _ _ _ _ (q2 a) (s1.trans s2) ((al1.trans (upS_alike sm)).trans (.set no)) (R4.take (fun o m => nomatch m) (by rw [upS_len]; exact l2) no e4)
end
def modD : OpT := fun x y Q => match x, y with
  | .int i, .int j => 0 < j ∧ Q (.int (i % j))
  | _, _ => False
def fdivD : OpT := fun x y Q => match x, y with
  | .int i, .int j => (0 < j ∧ j < 1073741824) ∧ Q (.int (i / j))
  | _, _ => False
def powD : OpT := fun x y Q => match x, y with
  | .int i, .int j => CPow i j ∧ Q (.int (i ^ j.toNat))
  | _, _ => False
def intD : PyData → (PyData → Prop) → Prop := fun x Q => match x with
  | .int i => Q (.int i)
  | .bool b => Q (.int (if b = true then 1 else 0))
  | _ => False
section
variable {P : Tb} {G0 : Hp} {n : Nat} {X : Cx}
end
theorem dpa_strs {K : Zw} {H : Hp} : ∀ {xs : List V} {ns : List Str}, DwAll K H xs (ns.map .str) → xs = ns.map V.str
  | _, [], h => by cases h; rfl
  | _, n :: ns, h => by
    cases h with
    | cons a b =>
      cases a
      rw [dpa_strs b]
      rfl
theorem idx_first {α : Type} [BEq α] [LawfulBEq α] {z : α} : ∀ {L : List α}, z ∈ L → L[L.idxOf z]? = some z ∧ ∀ m, m < L.idxOf z → L[m]? ≠ some z
  | a :: L, h => by
    by_cases e : a = z
    · subst e
      rw [List.idxOf_cons_self]
      exact ⟨rfl, fun m hm => nomatch hm⟩
    · have h2 : z ∈ L := (List.mem_cons.mp h).resolve_left fun q => e q.symm
      obtain ⟨h3, h4⟩ := idx_first h2
      have e0 : (a :: L).idxOf z = L.idxOf z + 1 := by
        rw [List.idxOf_cons, show (a == z) = false from beq_false_of_ne e]
        rfl
      rw [e0]
      refine ⟨h3, fun m hm => ?_⟩
      cases m with
      | zero => exact fun q => e (Option.some.inj q)
      | succ m => exact h4 m (by omega)
/-- a tuple whose object is known to have no attributes of its own -/
def NoD (K : PySem.W.Frag) (H : Hp) (x : V) : Prop := ∃ p xs, x = .ref p ∧ SqT K H p xs ∧ ((∃ ob, H p = some (.frz ob (.tup xs)) ∧ ob.dict = none) ∨ ∃ ob, K.lookup p = some ob ∧ ob.dict = none)
def tBMT (K : PySem.W.Frag) (r : V → List V → Hp → VK → Prop) (to : TE) (t : TA) : TE := fun σ H Q => to σ H fun x H1 => NoD K H1 x ∧ t σ H1 fun xs H2 => r x xs H2 Q
section
variable {P : Tb} {G0 : Hp} {n : Nat} {X : Cx} {o e : Expr} {es : List Expr} {tx ty : DTE} {apos cpos : Pos} {name : Str} {id : String} {r : V → List V → Hp → VK → Prop} {to : TE} {t : TA}
theorem pe_bmT (slot : Slot "tuple" name id) (hty : typeOf (.builtin id) = pure (.type "method_descriptor")) (hm : MtR X id r) (ho : PE X o to) (ha : PA X (e :: es) t)
    (hbase : attributeBase o name X.env (eval o X.env) = eval o X.env := by rfl)
    (hfew : ((backTo cpos (starEach (e :: es) X.env)).all (fun x => !x.1) && (backToKw cpos (keywordEach [] X.env)).all (fun x => x.1.isSome)
      && decide ((e :: es).length + ([] : List Keyword).length + (if ([] : List Keyword).isEmpty then 0 else 1) < 30)) = true := by rfl)
    (hline : (apos.endLine == cpos.line) = true := by rfl) (hs : starEach (e :: es) X.env = (false, eval e X.env) :: starEach es X.env := by rfl) (hplain : (backTo cpos (starEach es X.env)).any (·.1) = false := by rfl) :
    PE X (.Call (.Attribute o name apos) (e :: es) [] cpos) (tBMT X.K r to t) := by
  refine ⟨fun pins s σ H Q I h => wpAny_Call_method_late hbase hfew hline rfl (thn (ho.run pins s σ H _ I h) fun v s1 ⟨x, H1, I1, r1, nd, q1⟩ => ?_)⟩
  obtain ⟨p, xs, rfl, sq, hd⟩ := nd
  have r1' := r1
  cases r1
  obtain ⟨its, _, pl, _⟩ := I1.tuple sq
  have d : ∀ a, Value.ref p = .ref a → ∃ ob, s1.heap.get? a = some ob ∧ ob.dict = none := fun a z => by
    cases z
    rcases hd with ⟨ob, h1, h2⟩ | ⟨ob, h1, h2⟩
    · exact ⟨ob, (I1.hok p _ h1).1, h2⟩
    · exact ⟨ob, I1.kIn p ob h1, h2⟩
  refine ⟨"tuple", id, PySem.F.plainAttrs_tuple, slot, hty, (let ⟨ob, h1, h2, _⟩ := pl; ⟨ob, h1, h2⟩), d, ?_⟩
  have run := ha.run cpos pins s1 σ H1 _ I1 q1
  rw [hs] at run ⊢
  exact Calls.callWith_builtin (by show (false || (backTo cpos (starEach es X.env)).any (·.1)) = false; rw [hplain] <;> rfl) (Calls.evalArgs_plain (thn run fun us s2 ⟨vs, H2, I2, r2, q2⟩ => hm pins s2 σ H2 _ vs _ us Q I2 r1' r2 q2))
theorem txV_strs {L : List Str} (h : L ≠ []) : txV (L.map V.str) = true := by
  cases L with
  | nil => exact absurd rfl h
  | cons a L =>
    unfold txV
    rw [Bool.and_eq_true]
    refine ⟨rfl, ?_⟩
    rw [List.all_map, List.all_eq_true]
    exact fun _ _ => rfl
/-- t.index(x), a tuple of texts -/
theorem de_index (kd : ∀ (p : Addr) (ob : Obj), X.K.lookup p = some ob → ob.cls = .type "tuple" → ob.dict = none) (ho : DE P G0 n X o tx) (he : DE P G0 n X e ty)
    (hbase : attributeBase o "index" X.env (eval o X.env) = eval o X.env := by rfl)
    (hfew : ((backTo cpos (starEach [e] X.env)).all (fun x => !x.1) && (backToKw cpos (keywordEach [] X.env)).all (fun x => x.1.isSome)
      && decide ([e].length + ([] : List Keyword).length + (if ([] : List Keyword).isEmpty then 0 else 1) < 30)) = true := by rfl)
    (hline : (apos.endLine == cpos.line) = true := by rfl) (hs : starEach [e] X.env = (false, eval e X.env) :: starEach [] X.env := by rfl) (hplain : (backTo cpos (starEach [] X.env)).any (·.1) = false := by rfl) :
    DE P G0 n X (.Call (.Attribute o "index" apos) [e] [] cpos) (fun ρ Q => tx ρ fun D ρ1 => ∃ (L : List Str), D = .tuple (L.map .str) ∧ L ≠ [] ∧ ty ρ1 fun V ρ2 => ∃ z : Str, V = .str z ∧ z ∈ L ∧ Q (.int ((L.idxOf z : Nat) : Int)) ρ2) := by
  refine pe_weak (pe_bmT PySem.F.slot_tuple_index PySem.F.type_tuple_index mt_tup_index ho (pa_cons he pa_nil hs) hbase hfew hline hs hplain) fun σ H Q ⟨F, ρ, G, Q0, s, R, h, k⟩ => ?_
  refine ⟨F, ρ, G, _, s, R, h, fun D ρ1 v G1 H1 ⟨L, eD, nL, q1⟩ s1 a1 R1 d1 => ?_⟩
  subst eD
  cases d1 with
  | @tup _ a xs ds sq da =>
    have ex := dpa_strs da
    subst ex
    have nd : NoD X.K H1 (.ref a) := by
      refine ⟨a, _, rfl, (R1.sm s1.2).tup sq, ?_⟩
      rcases sq with (h1 | ⟨ob, h1⟩) | ⟨ob, its, m, h1, h2, _⟩
      · have := R1.nt _ _ h1
        rw [show NTo (.tup (L.map V.str)) = (txV (L.map V.str) = false) from rfl, txV_strs nL] at this
        cases this
      · exact .inl ⟨ob, R1.sub _ _ h1, R1.nt _ _ h1⟩
      · exact .inr ⟨ob, h1, kd _ _ h1 h2⟩
    refine ⟨nd, F, ρ1, G1, _, s.trans s1, R1, q1, fun V ρ2 v2 G2 H2 ⟨z, eV, m, q2⟩ s2 a2 R2 d2 => ?_⟩
    subst eV
    cases d2
    obtain ⟨i1, i2⟩ := idx_first m
    exact ⟨a, L, z, L.idxOf z, rfl, rfl, (R2.sm s2.2).tup (s2.tup sq), i1, i2, (k.after (s1.trans s2) (a1.trans a2)).here s2.2 R2 (.int _) q2⟩
end
section
variable {G0 : Hp} {n : Nat} {X : Cx} {st : Stmt} {ta tb : DTF}
end
end Dl
set_option Elab.async false
set_option linter.all false
set_option maxRecDepth 100000
set_option maxHeartbeats 4000000
namespace Dl
open PySem PySem.Spec PyProof.Rows L2 So Da
section
variable {G0 : Hp} {n : Nat} {X : Cx} {st : Stmt} {ta tc : DTE} {tb : DTF}
end
end Dl
set_option Elab.async false
set_option linter.all false
set_option maxRecDepth 100000
set_option maxHeartbeats 4000000
namespace Dl
open PySem PySem.Spec PyProof PyProof.Rows L2 So Da
def repD : PyData → Str
  | .none => "None"
  | .bool b => if b then "True" else "False"
  | .int i => toString i
  | .str z => reprText z
  | d => d.shown
/-- it can be shown -/
def repOk : PyData → Prop
  | .none => True
  | .bool _ => True
  | .int i => i.natAbs.log2 < 1920
  | .str z => (reprText z).length ≤ sizeLine
  | d => d.showable = true ∧ d.hasDict = false ∧ d.depth ≤ 60 ∧ d.shown.length ≤ sizeLine
def rReprA (K : PySem.W.Frag) : List V → Hp → VK → Prop := fun xs H Q => ∃ (v : V) (D : PyData), xs = [v] ∧ Dp K H v D ∧ repOk D ∧ Q (.str (repD D)) H
theorem call_reprA {X : Cx} (hg : X.A.guards = some []) (hu : X.A.units + 64 < cLine) : CallR X (.builtin "repr") (rReprA X.K) := by
  intro pins s σ H xs us Q I r h
  obtain ⟨v, D, rfl, hD, ok, q⟩ := h
  match us, r with
  | [u], .cons ru .nil =>
    have big : ∀ {a : Addr}, v = .ref a → D.showable = true ∧ D.hasDict = false ∧ D.depth ≤ 60 ∧ D.shown.length ≤ sizeLine → repD D = D.shown → wpAny (model X.prog X.w) X.A (call (.builtin "repr") [u]) (EP X pins σ Q) X.xe s := by
      rintro a rfl ⟨h1, h2, h3, h4⟩ e
      obtain rfl : u = Value.ref a := ru
      obtain ⟨as, rd⟩ := Dp.reads I D (.ref a) (.ref a) hD rfl
      rw [e] at q
      exact repr_of_reads' rd h1 (PyData.noDict_hsm h2) hg (by omega) (fun _ _ e => e) (fun h' u tk hk => ⟨.str D.shown, H, I.kept hk, ⟨u, rfl⟩, q⟩) h4
    cases hD with
    | lst a b => exact big rfl ok rfl
    | tup a b => exact big rfl ok rfl
    | non =>
      obtain rfl : u = Value.none := ru
      exact PySem.P.repr_of_none ⟨.str "None", H, I.tok _, ⟨_, rfl⟩, q⟩
    | bl b =>
      obtain rfl : u = Value.bool b := ru
      exact PySem.P.repr_of_bool ⟨.str (if b then "True" else "False"), H, I.tok _, ⟨_, rfl⟩, q⟩
    | int i =>
      obtain ⟨t, rfl⟩ := (show ∃ t, u = Value.int i t from ru)
      exact PySem.P.repr_of_int ok ⟨.str (toString i), H, I.tok _, ⟨_, rfl⟩, q⟩
    | str z =>
      obtain ⟨t, rfl⟩ := (show ∃ t, u = Value.str z t from ru)
      exact PySem.P.repr_of_str ⟨.str (reprText z), H, I.tok _, ⟨_, rfl⟩, q⟩ ok
def reprD (D : PyData) (Q : PyData → Prop) : Prop := repOk D ∧ Q (.str (repD D))
mutual
theorem plain_no : ∀ {D : PyData}, D.hasDict = false → plain D = true
  | .none, _ => rfl
  | .bool _, _ => rfl
  | .int _, _ => rfl
  | .str _, _ => rfl
  | .list ds, h => by
    simp only [PyData.hasDict] at h
    unfold plain
    exact plains_no h
  | .tuple ds, h => by
    simp only [PyData.hasDict] at h
    unfold plain
    exact plains_no h
  | .dict _, h => by simp [PyData.hasDict] at h
theorem plains_no : ∀ {Ds : List PyData}, PyData.hasDictAll Ds = false → plains Ds = true
  | [], _ => rfl
  | d :: ds, h => by
    unfold PyData.hasDictAll at h
    rw [Bool.or_eq_false_iff] at h
    unfold plains
    rw [plain_no h.1, plains_no h.2]
    rfl
end
theorem plain_rep {D : PyData} (h : repOk D) : plain D = true := by
  cases D with
  | none => rfl
  | bool _ => rfl
  | int _ => rfl
  | str _ => rfl
  | list ds =>
    obtain ⟨_, h2, _⟩ := h
    exact plain_no h2
  | tuple ds =>
    obtain ⟨_, h2, _⟩ := h
    exact plain_no h2
  | dict kvs =>
    obtain ⟨_, h2, _⟩ := h
    exact nomatch h2
theorem cd_repr {P : Tb} {n : Nat} {X : Cx} : CaD P n X (rReprA X.K) reprD := fun x dx F G ρ σ H Q0 Q t R h f k => ⟨x, dx, rfl, Dw.dp (plain_rep f.1) (h.dp R), f.1, k.here t R (.str _) f.2⟩
end Dl
set_option Elab.async false
set_option linter.all false
set_option maxRecDepth 100000
set_option maxHeartbeats 4000000
namespace SoC
open PySem PySem.Spec PyProof.Rows L2 LamX NdefX So
/-- the words of a lambda of the running def, its code at c -/
abbrev lamF (X : Cx) (params : Arguments) (scope : Scope) (c : Addr) : NF := ⟨"<lambda>", X.env.qual ++ "<lambda>", params, [], scope, cloFrom X.env.cells scope.names [], c⟩
section
variable {X : Cx} {pins : List (Addr × Obj)} {σ : L2.St} {H : Hp} {s : Shared}
theorem lay_lam {F : NF} {body : Expr} {pm ctv : Value} {h' : Heap} {t1 t2 : Nat} (I : Inv X pins σ H { s with heap := h', toks := t1 }) :
    Inv X pins σ (upd H h'.objs.size (LmO h'.objs.size F body)) { s with heap := h'.push (PySem.W.kla_obj "<lambda>" F.qual F.params body F.scope F.cl pm F.c ctv), toks := t2 } := by
  have q := Heap.get?_push_size h' (o := PySem.W.kla_obj "<lambda>" F.qual F.params body F.scope F.cl pm F.c ctv) rfl
  exact I.laid (a := h'.objs.size) (t' := t2) (fun b u e => Heap.get?_push_of_some _ e) (Nat.le_refl _) ⟨⟨pm, ctv, q⟩, ⟨_, q⟩, fun g1 g2 ⟨pm, ctv, z⟩ st => ⟨pm, ctv, st _ z⟩⟩
end
section
variable {X : Cx}
end
theorem cell_one {h : Heap} {c : Addr} {v u : Option Value} (a : h.IsCell c v) (b : h.IsCell c u) : v = u := by
  obtain ⟨o, e1, e2⟩ := a
  obtain ⟨o', e3, e4⟩ := b
  rw [e1] at e3
  cases e3
  rw [e2] at e4
  cases e4
  rfl
section
variable {X : Cx} {pins : List (Addr × Obj)} {σ : L2.St} {H : Hp} {s : Shared} {cl : List (Str × Addr)} {fr : List Str} {js : List Nat}
end
end SoC
set_option Elab.async false
set_option linter.all false
set_option maxRecDepth 100000
set_option maxHeartbeats 4000000
namespace SoC
open PySem PySem.Spec PyProof.Rows L2 LamX NdefX So
structure FnS (Pg : Program) (w : World) (K : PySem.W.Frag) (mg : Str → Option Value) (base : Heap) (CX : CXT) (k : Nat) (f : Addr) (fd : FuncData) (ps : List Str) (sp : Shared → Sp) : Prop where
  len : ∀ s vs H Q E, sp s vs H Q E → vs.length = ps.length
  run : ∀ (A : Around) (outer : List Env) (s : Shared) (H : Hp) (args : Args) (us : List Value) (vs : List V) (Q : VK) (E : XK), Room k A → A.guards = some [] → Env0 Pg w K mg base A outer s H → BindsTo s fd args (ps.zip us) → Vals vs us → sp s vs H Q E →
    codeAny (model Pg w) A (.call (.ref f) args) (CR CX outer Pg w H s Q E) s
section
variable {Pg : Program} {w : World} {K : PySem.W.Frag} {mg : Str → Option Value} {base : Heap} {CX : CXT}
theorem FnS.of {k : Nat} {f : Addr} {fd : FuncData} {ps : List Str} {sp : Sp} (F : FnOk Pg w K mg base CX k f fd ps sp) : FnS Pg w K mg base CX k f fd ps (fun _ => sp) :=
  ⟨fun _ vs H Q E h => F.len vs H Q E h, fun A outer s H args us vs Q E hr _ e0 hb r h => F.run A outer s H args us vs Q E hr e0 hb r h⟩
theorem FnS.imp {k : Nat} {f : Addr} {fd : FuncData} {ps : List Str} {sp sp' : Shared → Sp} (F : FnS Pg w K mg base CX k f fd ps sp) (h : ∀ s vs H Q E, sp' s vs H Q E → sp s vs H Q E) : FnS Pg w K mg base CX k f fd ps sp' :=
  ⟨fun s vs H Q E q => F.len s vs H Q E (h s vs H Q E q), fun A outer s H args us vs Q E hr hg e0 hb r q => F.run A outer s H args us vs Q E hr hg e0 hb r (h s vs H Q E q)⟩
/-- .. whose code object is known -/
theorem okC {x : Str} {st : Stmt} {f c : Addr} {fd : FuncData} {N ps : List Str} {k : Nat} {sp : Shared → Sp} (F : DfC K mg x st ps f fd c) (S : FnScope N ps (defScope st)) (len : ∀ s vs H Q E, sp s vs H Q E → vs.length = ps.length)
    (body : ∀ (A : Around) (outer : List Env) (s : Shared) (H : Hp) (vs : List V) (Q : VK) (E : XK), Room k (A.deeper (envOfC x (defScope st) s.heap.objs.size f (.ref c))) → (A.deeper (envOfC x (defScope st) s.heap.objs.size f (.ref c))).guards = some [] → sp s vs H Q E →
      ∃ t, PSs (cxOf CX Pg w K mg base N x (defScope st) f (.ref c) A outer s H E) (defBody st) t ∧ t { nx := fun _ H' => Q .non H', rt := Q } (start N vs) H) : FnS Pg w K mg base CX (k + 1) f fd ps sp := by
  obtain ⟨oc, od, kV, doc, pm, an, ct, osl, rfl, lk, hcd⟩ := F.ex
  exact ⟨len, fun A outer s H args us vs Q E hr hg e0 hb r hsp => run_ofS lk hcd S hr e0 hb r (len _ _ _ _ _ hsp) fun hr' => body A outer s H vs Q E hr' hg hsp⟩
end
section
variable {X : Cx} {CX : CXT} {k j : Nat} {f : Addr} {fd : FuncData} {ps : List Str} {sp : Shared → Sp} {E : XK} {x : Str} {p pos : Pos} {e : Expr} {es : List Expr} {t : TA} {pre : L2.St → List V → Hp → VK → Prop}
end
end SoC
set_option Elab.async false
set_option linter.all false
set_option maxRecDepth 100000
set_option maxHeartbeats 4000000
namespace SoC
open PySem PySem.Spec PyProof.Rows L2 LamX NdefX So
structure IsC (K : PySem.W.Frag) (D : Addr) : Prop where
  cl : (PySem.W.clsIn K D).isSome = true
  ga : PySem.W.findIn K (.ref D) "__getattribute__" = some (some (.builtin "BaseException.__getattribute__"))
  gg : PySem.W.findIn K (.ref D) "__getattr__" = some none
  be : PySem.W.subIn K (.ref D) (.type "BaseException") = some true
  ca : PySem.W.findIn K (.ref D) "__class__" = some (some (.builtin "object.__class__"))
  cg : PySem.W.specialIn K (.builtin "object.__class__") "__get__" = some (some (.builtin "getset_descriptor.__get__"))
  ct : PySem.W.takesIn K (.builtin "object.__class__") = some true
  mo : PySem.W.mroIn K D (.type "object") = some true
def rIsD (K : PySem.W.Frag) (a : Addr) (cls : Value) (d : Option Addr) : List V → Hp → VK → Prop := fun xs H Q => ∃ (D O dd : Addr) (fs : List (Str × V)) (b : Bool), xs = [.ref a, .ref O] ∧ cls = .ref D ∧ d = some dd ∧ IsC K D ∧ H dd = some (.xd fs) ∧ PySem.W.kitOne K (.ref D) (.ref O) = some b ∧ Q (.bl b) H
theorem call_isD {X : Cx} {a : Addr} {oe : Obj} {cls : Value} {d : Option Addr} {pn : List (Addr × Obj)} (hz : Zc cls d oe) (hf : ∃ vs, oe.data = .fields vs) : CallR (X.suite a ((a, oe) :: pn)) (.builtin "isinstance") (rIsD X.K a cls d) := by
  intro pins s σ H xs us Q I r h
  obtain ⟨D, O, dd, fs, b, rfl, rfl, rfl, C, hx, e, q⟩ := h
  match us, r with
  | [u1, u2], .cons r1 (.cons r2 .nil) =>
    obtain rfl : u1 = Value.ref a := r1
    obtain rfl : u2 = Value.ref O := r2
    have get := (I.pin (a, oe) (List.mem_append_left _ List.mem_cons_self)).1
    obtain ⟨mA, ns, _⟩ := (show ∃ mA, s.heap.Ns1 dd mA ∧ ∀ f, RelO (fs.lookup f) (mA f) from I.hok dd _ hx)
    obtain ⟨od, ho, _⟩ := lookIn_ns ns
    obtain ⟨vs, hv⟩ := hf
    have J : PySem.W.InstAt s.heap a oe D (some od) := by
      refine ⟨get, hz.1, ?_, ?_⟩
      · unfold PySem.W.notCls
        rw [hv] <;> rfl
      · rw [hz.2]
        exact ho
    exact PySem.W.kia_one (PySem.W.kitx_exc C.cl C.ga C.gg C.be C.ca C.cg C.ct C.mo) I.kIn J e (fun z => nomatch z) fun tk => ⟨.bl b, H, I.tok tk, rfl, q⟩
/-- a clause: its class, its name's slot, its suite's reading -/
abbrev Cls := Value × Nat × (Addr → Value → Option Addr → TS)
/-- all ends of a suite forget the name -/
def offN (i : Nat) (D : Ends) : Ends := { nx := fun σ H => D.nx (σ.set i none) H, rt := D.rt, bk := fun σ H => D.bk (σ.set i none) H, ct := fun σ H => D.ct (σ.set i none) H }
def wEach (K : PySem.W.Frag) (out : WX) (D : Ends) : List Cls → WX
  | [] => out
  | (c, i, ts) :: r => fun cls d σ H => ∃ b, PySem.W.exmOne K cls c = some b ∧ (b = true → ∀ a, H a = none → ts a cls d (offN i D) (σ.set i (some (.ref a))) H) ∧ (b = false → wEach K out D r cls d σ H)
inductive Clauses (X : Cx) : List ExceptHandler → List Cls → Prop
  | none : Clauses X [] []
  | more {x n : Str} {c : Value} {i : Nat} {ts : Addr → Value → Option Addr → TS} {st : Stmt} {sts : List Stmt} {np p : Pos} {hs : List ExceptHandler} {cs : List Cls} (hx : Names X x c) (hi : X.N[i]? = some n) (hl : X.env.kindOf n = some .local)
      (suite : ∀ (a : Addr) (oe : Obj) (cls : Value) (d : Option Addr) (pn : List (Addr × Obj)), Zc cls d oe → (∃ vs, oe.data = .fields vs) → PSs (X.suite a ((a, oe) :: pn)) (st :: sts) (ts a cls d)) (rest : Clauses X hs cs) :
      Clauses X (.ExceptHandler (some (.Name x np)) (some n) (st :: sts) p :: hs) ((c, i, ts) :: cs)
section
variable {X : Cx} {body : List Stmt} {h0 : ExceptHandler} {hds : List ExceptHandler} {cs : List Cls} {pos : Pos} {tb : WX → TS} {out : WX}
theorem ps_tryEach (hs : X.stack = X.env :: X.outer) (hf : X.env.frame = some X.env.locals) (hN : X.N.Nodup) (tk : Takes X out)
    (hb : ∀ (W : WX) (pn : List (Addr × Obj)) (xe : Value → Shared → Prop), Takes (X.tr pn xe) W → PassesOwn (model X.prog X.w) X.A X.env xe → PSs (X.tr pn xe) body (tb W)) (hh : Clauses X (h0 :: hds) cs) :
    PS X (.Try body (h0 :: hds) [] [] pos) (fun D σ H => tb (wEach X.K out D cs) D σ H) := by
  constructor
  intro pins s σ H D I h
  have okX := I.ok
  have fr : X.A.frames = some (X.env :: X.outer) := okX.frames.trans (congrArg some hs)
  -- what is done with an error: the clauses, from the first on
  let wish : Value → Shared → Prop := fun e s1 => wpAny (model X.prog X.w) X.A (noteFrame e X.env) (fun _ s2 => wpAny (model X.prog X.w) X.A (setFlight e none) (fun _ s3 => wpAny (model X.prog X.w) X.A (handleBy e X.env (h0 :: hds)) (SP X pins D) X.xe s3) X.xe s2) X.xe s1
  have caught : Takes (X.tr (X.pn ++ pins) wish) (wEach X.K out D cs) := by
    rintro u s' ⟨a, B, sI, pins', σ1, H1, cls, d, rfl, J1, nb, up, sky, na, os, ag, w⟩
    have J := J1.ofTry okX
    refine Sky.land Zc.steady fr hf (hs ▸ sky) fun g3 fl3 up3 => ?_
    have J3 : Inv X pins σ1 H1 { s' with heap := g3 } := J.landed nb fl3.1 (up.trans up3) os ag
    obtain ⟨o3, ws, get3, z3, dat3⟩ := fl3.there
    have out1 : a ∉ frs (X.env :: X.outer) := by
      intro m
      obtain ⟨_, o, e, no⟩ := (fl3.2.2.1).mem m
      cases get3.symm.trans e
      exact no _ dat3
    have aL : a ≠ X.env.locals := by
      rintro rfl
      exact out1 (List.mem_filterMap.mpr ⟨X.env, .head _, hf⟩)
    have aF : a ∉ X.fs := by
      intro m
      obtain ⟨v, hv, q⟩ := List.mem_filterMap.mp m
      exact out1 (List.mem_filterMap.mpr ⟨v, .tail _ hv, q⟩)
    have K3 := J3.suite get3 dat3 na aL aF
    suffices go : ∀ {l : List ExceptHandler} {m : List Cls}, Clauses X l m → wEach X.K out D m cls d σ1 H1 → wpAny (model X.prog X.w) X.A (handleBy (.ref a) X.env l) (SP X pins D) X.xe { s' with heap := g3 } from go hh w
    intro l m hc
    induction hc with
    | none =>
      intro hw
      refine wpAny_handleBy_nil ?_
      have fl := fl3
      obtain ⟨_, _, _, o, vs, T, _, _, e, _, dt, at1, _⟩ := fl
      unfold PySem.passOn
      refine wpAny_bind (wpAny_field e dt at1 ?_)
      have nn : ¬ (Value.ref T == Value.none) = true := by simp
      rw [if_neg nn]
      have last : wpAny (model X.prog X.w) X.A (setFlight (.ref a) X.env.frame) (fun _ s4 => wpAny (model X.prog X.w) X.A (throw (.ref a) : Sem Flow) (SP X pins D) X.xe s4) X.xe { s' with heap := g3 } := by
        rw [hf]
        exact HandSPX.setFlight_upZ fl3 fun g4 hh4 up4 => wpAny_throw (tk _ _ ⟨a, B, sI, pins, σ1, H1, cls, d, rfl, J, nb, (up.trans up3).trans up4, .inr (.inr (hs ▸ hh4)), na, os, ag, hw⟩)
      first
        | exact wpAny_bind last
        | exact wpAny_bind (wpAny_pure (wpAny_bind last))
    | @more x n c i ts st sts np p l2 m2 hx hi hl suite rest ih =>
      rintro ⟨b, eb, yes, no⟩
      refine wpAny_handleBy_cons (codeAny_handlers_test ?_) (fun q => nomatch q)
      have isC := PySem.W.exm_one (M := model X.prog X.w) J3.kIn (show PySem.W.Looks (model X.prog X.w) g3 (typeOf (.ref a)) cls from fun A Q E s k q => wpAny_typeOf_ref (k _ _ get3) (z3.1.symm ▸ q)) eb
      have asked : ∀ {Q : Value → Shared → Prop} {E : Value → Shared → Prop}, Q c { s' with heap := g3 } → wpAny (model X.prog X.w) (X.A.mark (some (.ref a))) (eval (.Name x np) X.env) Q E { s' with heap := g3 } := by
        intro Q E q
        rcases hx with ⟨gl, db, mm | ⟨mm, bv, hnn⟩⟩
        · exact ld_glob (X := X.suite a ((a, o3) :: (X.pn ++ pins))) K3 gl mm q db
        · exact ld_blt (X := X.suite a ((a, o3) :: (X.pn ++ pins))) K3 gl mm bv q hnn db
      refine asked (isC.here ?_)
      cases b with
      | false => exact ih (no rfl)
      | true =>
        refine codeAny_handlers_suite_as (HandSPX.lands_againZ fl3 fun g4 fl4 up4 => ?_)
        have J4 : Inv X pins σ1 H1 { s' with heap := g4 } := J.landed nb fl4.1 ((up.trans up3).trans up4) os ag
        obtain ⟨o4, _, get4, z4, dat4⟩ := fl4.there
        refine store_ok (X := X.suite a ((a, o4) :: (X.pn ++ pins))) (v := .ref a) (J4.suite get4 dat4 na aL aF) hN hi (.inl hl) rfl (fun s5 S5 => ?_) (.inr hl)
        refine wpAny_mono ((suite a o4 cls d (X.pn ++ pins) z4 ⟨_, dat4⟩).run [] s5 _ H1 _ S5 (yes rfl a na)) (fun fl s6 hsp => ?_) (fun _ _ z => z.elim)
        have off : ∀ {σ6 : L2.St} {H6 : Hp} {R : Shared → Prop}, Inv (X.suite a ((a, o4) :: (X.pn ++ pins))) [] σ6 H6 s6 → (∀ s7, Inv X pins (σ6.set i none) H6 s7 → R s7) → wpAny (model X.prog X.w) X.A (do bindName X.env n .none; unbindBehindTheSuite X.env n p) (fun _ s7 => R s7) X.xe s6 :=
          fun S hR => gone_ok (S.unsuite okX) hN hi hl hR
        match fl, hsp with
        | .ret u, ⟨v, σ6, H6, S6, rv, q⟩ => exact off S6 fun s7 J7 => ⟨v, _, H6, J7, rv, q⟩
        | .next, ⟨σ6, H6, S6, q⟩ => exact off S6 fun s7 J7 => ⟨_, H6, J7, q⟩
        | .brk, ⟨σ6, H6, S6, q⟩ => exact off S6 fun s7 J7 => ⟨_, H6, J7, q⟩
        | .cont, ⟨σ6, H6, S6, q⟩ => exact off S6 fun s7 J7 => ⟨_, H6, J7, q⟩
  refine wpAny_Try_except (wpAny_mono ((hb (wEach X.K out D cs) (X.pn ++ pins) wish caught PassesOwn.looking).run [] s σ H D (I.toTry _) h) (fun fl s1 hsp => ?_) (fun _ _ he => he))
  match fl, hsp with
  | .next, ⟨σ', H', J', q⟩ => exact wpAny_execs_nil ⟨σ', H', J'.ofTry okX, q⟩
  | .brk, ⟨σ', H', J', q⟩ => exact ⟨σ', H', J'.ofTry okX, q⟩
  | .cont, ⟨σ', H', J', q⟩ => exact ⟨σ', H', J'.ofTry okX, q⟩
  | .ret u, ⟨v, σ', H', J', rv, q⟩ => exact ⟨v, σ', H', J'.ofTry okX, rv, q⟩
end
end SoC
set_option Elab.async false
set_option linter.all false
set_option maxRecDepth 100000
set_option maxHeartbeats 4000000
namespace Dl
open PySem PySem.Spec PyProof PyProof.Rows L2 So Da SoC
section
variable {K : Zw} {F : List (Addr × HO)} {G G' H H' : Hp} {ρ : Sto} {σ : L2.St}
theorem Rep.noF (R : Rep K F G ρ σ H) : Rep K [] G ρ σ H := ⟨R.len, R.sh, R.ob, R.exc, R.ask, R.uniq, fun m => absurd m List.not_mem_nil, R.sub, R.nt⟩
/-- behind a call that was given no object of one's own -/
theorem Rep.past {vs : List V} {rs : List Rv} (t : Tg G K.T) (R : Rep K F G ρ σ H) (va : RvAll K G σ vs rs) (no : obSlots ρ rs = []) (s : Ex K.T G G') (sub : Sub G' H') (nt : NT G') (gone : ∀ b ∈ hidL F ρ (argsOf ρ rs), H' b = none) :
    Rep K F G' ρ σ (bak (hidL F ρ (argsOf ρ rs)) H H') := by
  have nob : ∀ {a : Addr}, ¬ Owns (argsOf ρ rs) a := fun {a} z => by
    obtain ⟨k, i, c, h1, h2⟩ := own_arg z
    have : ∀ {rs : List Rv}, rs[k]? = some (.slot i) → obSlots ρ rs = [] → False := by
      clear h1 va no gone z
      induction k with
      | zero =>
        intro rs h n
        cases rs with
        | nil => simp at h
        | cons r rs =>
          have h : some r = some (Rv.slot i) := h
          cases h
          unfold obSlots at n
          rw [h2] at n
          cases n
      | succ k ih =>
        intro rs h n
        cases rs with
        | nil => simp at h
        | cons r rs =>
          refine ih (rs := rs) (by simpa using h) ?_
          cases r with
          | val D => exact n
          | slot j =>
            unfold obSlots at n
            split at n
            · cases n
            · exact n
    exact this h1 no
  have hidden : ∀ {i : Nat} {a : Addr} {c : Oc}, ρ[i]? = some (Lc.ob a c) → a ∈ hidL F ρ (argsOf ρ rs) := fun {i a c} e => mem_hidL.mpr (.inl ⟨⟨i, c, e⟩, nob⟩)
  have free : ∀ {b}, b ∈ hidL F ρ (argsOf ρ rs) → G' b = none := fun {b} m => by
    cases e : G' b with
    | none => rfl
    | some u =>
      have := sub b u e
      rw [gone b m] at this
      cases this
  refine ⟨R.len, fun {i D} e => ?_, fun {i a c} e => ?_, fun {i a C d D} e => ?_, fun {i O} e => ?_, R.uniq, fun {a o} m => ?_, fun b u e => ?_, nt⟩
  · obtain ⟨v, h1, h2⟩ := R.sh e
    exact ⟨v, h1, h2.mono s⟩
  · obtain ⟨h1, h2, o, h3, h4⟩ := R.ob e
    exact ⟨h1, free (hidden e), o, by rw [bak_in (hidden e)]; exact h3, h4.mono s⟩
  · obtain ⟨h1, v, h2, h3⟩ := R.exc e
    exact ⟨h1, v, s.1 _ _ h2 (fun _ z => nomatch z), h3.mono s⟩
  · obtain ⟨f, h1, h2⟩ := R.ask e
    exact ⟨f, h1, h2.mono s⟩
  · obtain ⟨h1, h2, h3, h4⟩ := R.ex m
    have mm : a ∈ hidL F ρ (argsOf ρ rs) := mem_hidL.mpr (.inr ⟨o, m⟩)
    exact ⟨by rw [bak_in mm]; exact h1, free mm, h3, h4⟩
  · rw [bak_out fun m => ?_]
    · exact sub b u e
    · rw [free m] at e
      cases e
end
abbrev DTEW := Sto → (PyData → Sto → Prop) → (Sto → EK) → Prop
/-- what is wished of errors, by the store in which they come -/
def ErrW (K : Zw) (n : Nat) (W : WX) (ρ : Sto) (G : Hp) (ex : Sto → EK) : Prop := ∀ ρ' σ' G' H' C Dv d v, ex ρ' (C, Dv) → Ex K.T G G' → Alike n ρ ρ' → Rep K [] G' ρ' σ' H' → Xd K C G' d v → Dw K G' v Dv → W (.ref C) (some d) σ' H'
def rdEW (K : Zw) (G0 : Hp) (n : Nat) (W : WX) (u : DTEW) : TE := fun σ H Q => ∃ ρ G Q0 ex, Ex K.T G0 G ∧ Rep K [] G ρ σ H ∧ u ρ Q0 ex ∧ Kn K [] n Q0 ρ G σ Q ∧ ErrW K n W ρ G ex
def DEW (P : Tb) (G0 : Hp) (n : Nat) (X : Cx) (W : WX) (e : Expr) (u : DTEW) : Prop := PE X e (rdEW (zOf X P) G0 n W u)
section
variable {P : Tb} {G0 : Hp} {n : Nat} {X : Cx} {W : WX} {e : Expr} {es : List Expr} {T : TD} {k : Nat} {f : Addr} {fd : FuncData} {ps ks : List Str} {x : Str} {p pos kpos : Pos} {t : DTRs} {kws : List Keyword} {g : List Value → List Value → List Value} {gV : List V → List V → List V}
theorem call_atW {σ : L2.St} {G : Hp} {ρ : Sto} {H : Hp} {vs : List V} {rs : List Rv} {Q0 : PyData → Sto → Prop} {Q : VK} {ex : Sto → EK} (tb : Tg G P) (R : Rep (zOf X P) [] G ρ σ H) (va : RvAll (zOf X P) G σ vs rs) (no : obSlots ρ rs = [])
    (q : T (argsOf ρ rs) (fun D _ => Q0 D ρ) (ex ρ)) (kk : Kn (zOf X P) [] n Q0 ρ G σ Q) (ee : ErrW (zOf X P) n W ρ G ex) : maskK X σ (spT (zOf X P) T) (WE W σ) vs H Q := by
  unfold maskK
  obtain ⟨L, Rc⟩ := R.call va (by rw [no]; exact List.nodup_nil)
  refine ⟨hidL [] ρ (argsOf ρ rs), [], L, (fun j m => nomatch m), fun co sh _ => ?_⟩
  rw [noCo_of sh]
  refine ⟨G, argsOf ρ rs, _, _, tb, Rc, q, fun D as' v G2 H2 q2 sm s2 R2 d bk => ?_, fun C D d v G2 H2 q2 s2 sub2 nt2 xd dv bk => ?_⟩
  · exact kk _ _ _ _ _ q2 s2 .refl (R.past tb va no s2 R2.sub R2.nt bk.gone) d
  · exact ee _ _ _ _ _ _ _ _ q2 s2 .refl (R.past tb va no s2 sub2 nt2 bk.gone) xd dv
def dCallW (T : TD) (t : DTRs) : DTEW := fun ρ Q ex => t ρ fun rs ρ1 => obSlots ρ1 rs = [] ∧ T (argsOf ρ1 rs) (fun D _ => Q D ρ1) (ex ρ1)
theorem callW_read {σ : L2.St} {H : Hp} {Q : VK} (h : rdEW (zOf X P) G0 n W (dCallW T t) σ H Q) : tCallM X (spT (zOf X P) T) (WE W) (rdRs (zOf X P) G0 n t) σ H Q := by
  obtain ⟨ρ, G, Q0, ex, s, R, h, kk, ee⟩ := h
  exact ⟨[], ρ, G, _, s, R, h, fun rs ρ1 vs G1 H1 ⟨no, q⟩ s1 al1 R1 va => call_atW (s.trans s1).2 R1 va no q (kk.after s1 al1) fun ρ' σ' G' H' C Dv d v q2 s2 al2 => ee ρ' σ' G' H' C Dv d v q2 (s1.trans s2) (al1.trans al2)⟩
/-- f(..) within a try -/
theorem dew_call (tk : Takes X W) (Fk : FnD X.prog X.w X.K X.mg X.base (L2.CX X.prog X.w) k f fd ps (spT (zOf X P) T)) (hr : Room k X.A) (hgd : X.A.guards = some []) (hg : Gl X x) (hm : X.mg x = some (.ref f)) (hk : PySem.W.keepIn X.K (.ref f) = true) (hb : Binds X.K fd ps []) (ha : DRs P G0 n X (e :: es) t)
    (hdb : (x == ("__debug__" : Str)) = false := by decide) (he : starEach (e :: es) X.env = (false, eval e X.env) :: starEach es X.env := by rfl) (hpl : (backTo pos (starEach es X.env)).any (·.1) = false := by rfl) :
    DEW P G0 n X W (.Call (.Name x p) (e :: es) [] pos) (dCallW T t) := pe_weak (pe_callM Fk (.may fun σ => passAt tk σ) hr hgd hg hm hk hb ha hdb he hpl) fun σ H Q h => callW_read h
theorem FnT.at {K : PySem.W.Frag} {Pg : Program} {w : World} {H : Hp} {h : Heap} {f : Addr} (x : FnT K H f) (hok : HOk Pg w H h) (kin : K.In h) : PySem.W.FnAt f h := by
  obtain ⟨φ, e, q⟩ | x := x
  case inr => exact x h kin
  obtain ⟨z, _, _⟩ := hok f _ e
  exact q h z
theorem FnT.sub {K : PySem.W.Frag} {G H : Hp} {f : Addr} (x : FnT K G f) (s : Sub G H) : FnT K H f := x.ext (LamX.ExtN.of s)
theorem Room.le {k j : Nat} {A : Around} (h : Room k A) (l : j ≤ k) : Room j A := h.mono l
theorem ask_run {E : L2.St → XK} {j : Nat} {W : LW} {G : Hp} {ρ : Sto} {σ : L2.St} {H : Hp} {F : List (Addr × HO)} {pins : List (Addr × Obj)} {s : Shared} {us : List Value} {vs : List V} {Ds : List PyData} {Q : VK} {R0 : Out → Prop} (hl : ∀ σ, PassesAt (L2.CX X.prog X.w) X σ (E σ)) (hr : Room j X.A) (hgd : X.A.guards = some [])
    (A : AskOk (zOf X P) G f j W) (I : Inv X pins σ H s) (R : Rep (zOf X P) F G ρ σ H) (t : Tg G P) (r : Vals vs us) (d : DwAll (zOf X P) G vs Ds) (w : W Ds R0)
    (hQ : ∀ o, R0 o → match o with
      | .told D => ∀ v G' H', Ex P G G' → Rep (zOf X P) F G' ρ σ H' → Dw (zOf X P) G' v D → Q v H'
      | .err C D => ∀ d v G' H', Ex P G G' → Rep (zOf X P) F G' ρ σ H' → Xd (zOf X P) C G' d v → Dw (zOf X P) G' v D → E σ (.ref C) (some d) H') :
    wpAny (model X.prog X.w) X.A (call (.ref f) us) (EP X pins σ Q) X.xe s := by
  obtain ⟨L, Rc⟩ := R.call (vs := []) (rs := []) trivial List.nodup_nil
  have M : Msk (frs X.stack) (hidL F ρ (argsOf ρ [])) noCo H s.heap := ⟨L, fun b ob e => nomatch e⟩
  have e0 := I.env0
  refine wpAny_call (codeAny_mono (A.run X.A X.stack s (mask (hidL F ρ (argsOf ρ [])) noCo H) G us vs Ds R0 (fun v H2 => Bck (hidL F ρ (argsOf ρ [])) noCo H2 → Q v (unmask (hidL F ρ (argsOf ρ [])) noCo H H2))
    (fun cls d H2 => Bck (hidL F ρ (argsOf ρ [])) noCo H2 → E σ cls d (unmask (hidL F ρ (argsOf ρ [])) noCo H H2)) hr hgd (mask_env M (fun b ob e => nomatch e) e0) (Ex.refl t) Rc.sub R.nt r d w fun o ho => ?_) fun z s' hq => ?_)
  · have h := hQ o ho
    cases o with
    | told D => exact fun v G2 H2 s2 sub2 nt2 d bk => h _ _ _ s2 (R.past t (vs := []) (rs := []) trivial rfl s2 sub2 nt2 bk.gone) d
    | err C D => exact fun d v G2 H2 s2 sub2 nt2 xd dv bk => h _ _ _ _ s2 (R.past t (vs := []) (rs := []) trivial rfl s2 sub2 nt2 bk.gone) xd dv
  · match z, hq with
    | .error e, hq => exact hl σ pins H s e s' I (cx_unmask M e0.hok e0.frf hq fun cls d H2 q g => q g)
    | .ok (.ret u), ⟨v, H2, os, bare, un, hok, rv, z⟩ =>
      have bk := bck_of M e0.hok un
      exact I.after ⟨v, unmask _ noCo H H2, os, bare, unmask_un M e0.hok un hok, unmask_ok M e0.hok bk hok fun c m o g => un.keep c o g (mask_in m) (fun m2 => by
        obtain ⟨o, e, _⟩ := L c m
        rw [e0.frf c m2] at e
        cases e) (fun z => nomatch z), rv, z bk⟩
/-- x(..) within a try -/
def dAsk (i j : Nat) (t : DTA) : DTEW := fun ρ Q ex => match ρ[i]? with
  | some (.ask (.fn k W)) => k ≤ j ∧ t ρ fun Ds ρ1 => ∃ R, W Ds R ∧ ∀ o, R o → match o with
    | .told D => Q D ρ1
    | .err C D => ex ρ1 (C, D)
  | _ => False
/-- .. elsewhere -/
def dAskE (i j : Nat) (t : DTA) (er : EK) : DTE := fun ρ Q => match ρ[i]? with
  | some (.ask (.fn k W)) => k ≤ j ∧ t ρ fun Ds ρ1 => ∃ R, W Ds R ∧ ∀ o, R o → match o with
    | .told D => Q D ρ1
    | .err C D => er (C, D)
  | _ => False
theorem pe_ask0 {te : TE} (i : Nat) (hN : X.N[i]? = some x) (hv : Vis X.env.scope x) (hd : (x == ("__debug__" : Str)) = false) (hcd : (x == ("__classdict__" : Str)) = false)
    (h : ∀ (pins : List (Addr × Obj)) (σ : L2.St) (H : Hp) (s : Shared) (Q : VK), Inv X pins σ H s → te σ H Q → ∃ f, σ[i]? = some (some (.ref f)) ∧ FnT X.K H f ∧ wpAny (model X.prog X.w) X.A (call (.ref f) []) (EP X pins σ Q) X.xe s) : PE X (.Call (.Name x p) [] [] pos) te := by
  refine ⟨fun pins s σ H Q I hq => ?_⟩
  obtain ⟨f, hs, _, _⟩ := h pins σ H s Q I hq
  refine wpAny_Call_Name_kw (thn ((pe_var (pos := p) hN hv hd hcd).run pins s σ H (fun v H1 => v = .ref f ∧ H1 = H) I ⟨.ref f, hs, rfl, rfl⟩) fun u s1 ⟨v, H1, I1, r1, q1⟩ => ?_)
  obtain ⟨rfl, rfl⟩ := q1
  obtain rfl : u = Value.ref f := r1
  obtain ⟨f', hs', hf, w⟩ := h pins σ H1 s1 Q I1 hq
  rw [hs] at hs'
  cases hs'
  exact PySem.W.callWith_F0 (first := []) (hf.at I1.hok I1.kIn) w
theorem pe_askA {te : TE} {ta : TA} (i : Nat) (ha : PA X (e :: es) ta) (hN : X.N[i]? = some x) (hv : Vis X.env.scope x) (hd : (x == ("__debug__" : Str)) = false) (hcd : (x == ("__classdict__" : Str)) = false)
    (h : ∀ (σ : L2.St) (H : Hp) (Q : VK), te σ H Q → ∃ f, σ[i]? = some (some (.ref f)) ∧ FnT X.K H f ∧ ta σ H fun vs H1 => FnT X.K H1 f ∧ ∀ (pins : List (Addr × Obj)) (s : Shared) (us : List Value), Inv X pins σ H1 s → Vals vs us → wpAny (model X.prog X.w) X.A (call (.ref f) us) (EP X pins σ Q) X.xe s)
    (he : starEach (e :: es) X.env = (false, eval e X.env) :: starEach es X.env) (hpl : (backTo pos (starEach es X.env)).any (·.1) = false) : PE X (.Call (.Name x p) (e :: es) [] pos) te := by
  refine ⟨fun pins s σ H Q I hq => ?_⟩
  obtain ⟨f, hs, hf, q⟩ := h σ H Q hq
  refine wpAny_Call_Name_kw (thn ((pe_var (pos := p) hN hv hd hcd).run pins s σ H (fun v H1 => v = .ref f ∧ H1 = H) I ⟨.ref f, hs, rfl, rfl⟩) fun u s1 ⟨v, H1, I1, r1, q1⟩ => ?_)
  obtain ⟨rfl, rfl⟩ := q1
  obtain rfl : u = Value.ref f := r1
  refine PySem.W.callWith_F (first := []) (hf.at I1.hok I1.kIn) (thn (ha.run pos pins s1 σ _ _ I1 q) fun us s2 ⟨vs, H2, I2, r, g1, g2⟩ => ⟨g1.at I2.hok I2.kIn, ?_⟩) he hpl
  exact g2 pins s2 us I2 r
theorem dew_ask {j : Nat} (tk : Takes X W) (hr : Room j X.A) (hgd : X.A.guards = some []) (i : Nat) (hN : X.N[i]? = some x := by rfl) (hv : Vis X.env.scope x := by first | exact Or.inl rfl | exact Or.inr (Or.inl rfl) | exact Or.inr (Or.inr rfl)) (hd : (x == ("__debug__" : Str)) = false := by decide)
    (hcd : (x == ("__classdict__" : Str)) = false := by decide) : DEW P G0 n X W (.Call (.Name x p) [] [] pos) (dAsk i j fun ρ Q => Q [] ρ) := pe_ask0 i hN hv hd hcd fun pins σ H s Q I ⟨ρ, G, Q0, ex, s0, R, h, kk, ee⟩ => by
  unfold dAsk at h
  split at h
  case h_2 => exact h.elim
  rename_i k2 W2 q
  obtain ⟨f, hs, A⟩ := R.ask q
  obtain ⟨hk, R0, w, h⟩ := h
  refine ⟨f, hs, A.fnT.sub R.sub, ask_run (E := WE W) (Ds := []) (vs := []) (fun σ => passAt tk σ) (hr.mono hk) hgd A I R s0.2 .nil .nil w fun o ho => ?_⟩
  have ho := h o ho
  cases o with
  | told D => exact fun v G2 H2 s2 R2 d => kk _ _ _ _ _ ho s2 .refl R2 d
  | err C D => exact fun d v G2 H2 s2 R2 xd dv => ee _ _ _ _ _ _ _ _ ho s2 .refl R2 xd dv
theorem de_askA {j : Nat} {ta : DTA} {E : XK} {er : EK} (hE : ErrL (zOf X P) G0 E er) (hx : Passes (L2.CX X.prog X.w) X E) (hr : Room j X.A) (hgd : X.A.guards = some []) (i : Nat) (ha : DA P G0 n X (e :: es) ta) (hN : X.N[i]? = some x := by rfl) (hv : Vis X.env.scope x := by first | exact Or.inl rfl | exact Or.inr (Or.inl rfl) | exact Or.inr (Or.inr rfl)) (hd : (x == ("__debug__" : Str)) = false := by decide)
    (hcd : (x == ("__classdict__" : Str)) = false := by decide) (he : starEach (e :: es) X.env = (false, eval e X.env) :: starEach es X.env := by rfl) (hpl : (backTo pos (starEach es X.env)).any (·.1) = false := by rfl) : DE P G0 n X (.Call (.Name x p) (e :: es) [] pos) (dAskE i j ta er) := pe_askA i ha hN hv hd hcd (fun σ H Q ⟨F, ρ, G, Q0, s0, R, h, kk⟩ => by
  unfold dAskE at h
  split at h
  case h_2 => exact h.elim
  rename_i k2 W2 q
  obtain ⟨f, hs, A⟩ := R.ask q
  refine ⟨f, hs, A.fnT.sub R.sub, F, ρ, G, _, s0, R, h.2, fun Ds ρ1 vs G1 H1 ⟨R0, w, q1⟩ s1 al1 R1 d1 => ⟨(FkOk.mono (O := .fn k2 W2) s1 A).fnT.sub R1.sub, fun pins s us I r => ask_run (E := fun _ => E) (fun σ pins H s e s' I c => hx pins σ H s e s' I c) (hr.mono h.1) hgd (AskOk.mono s1 A) I R1 s1.2 r d1 w fun o ho => ?_⟩⟩
  have ho := q1 o ho
  cases o with
  | told D => exact fun v G2 H2 s2 R2 d => kk _ _ _ _ _ ho (s1.trans s2) al1 R2 d
  | err C D => exact fun d v G2 H2 s2 R2 xd dv => hE _ _ _ _ _ _ ho ((s0.trans s1).trans s2) R2.sub R2.nt xd dv) he hpl
end
abbrev DTSW := EndsD → Sto → (Sto → EK) → Prop
def rdSW (K : Zw) (G0 : Hp) (n : Nat) (W : WX) (t : DTSW) : TS := fun D σ H => ∃ ρ G D0 ex, Ex K.T G0 G ∧ Rep K [] G ρ σ H ∧ t D0 ρ ex ∧ Lk K n D0 ρ G D ∧ ErrW K n W ρ G ex
def DSW (P : Tb) (G0 : Hp) (n : Nat) (X : Cx) (W : WX) (st : Stmt) (t : DTSW) : Prop := PS X st (rdSW (zOf X P) G0 n W t)
section
variable {P : Tb} {G0 : Hp} {n : Nat} {X : Cx} {W : WX} {e : Expr} {u : DTEW} {pos tp : Pos}
theorem dsw_expr (he : DEW P G0 n X W e u) (hs : swapsWith e none pos.line X.env = pure false := by rfl) : DSW P G0 n X W (.Expr e pos) (fun D ρ ex => u ρ (fun _ ρ' => D.nx ρ') ex) := ps_weak (ps_expr he hs) fun D σ H ⟨ρ, G, D0, ex, s, R, h, k, ee⟩ =>
  ⟨ρ, G, _, ex, s, R, h, fun Dv ρ' v G' H' q s' al R' d => k.nx _ _ _ _ q s' al R', ee⟩
end
section
variable {P : Tb} {G0 : Hp} {n : Nat} {X : Cx} {a C : Addr} {oe : Obj} {cls : Value} {d : Option Addr} {pn : List (Addr × Obj)} {pos p p2 p3 : Pos} {x nm : Str}
def dFlt (a C : Addr) (cls : Value) (d : Option Addr) (i : Nat) : (DTE) := fun ρ Q => match ρ[i]? with
  | some (.exc a' C' d' D) => a' = a ∧ C' = C ∧ cls = .ref C' ∧ d = some d' ∧ Q D ρ
  | _ => False
/-- fault.at -/
theorem de_flt (hn : P.an C = nm) (T : XfC X.K C) (hno : PySem.W.findIn X.K (.ref C) nm = some none) (hz : Zc cls d oe) (hf : ∃ vs, oe.data = .fields vs) (i : Nat) (hN : X.N[i]? = some x := by rfl)
    (hv : Vis X.env.scope x := by first | exact Or.inl rfl | exact Or.inr (Or.inl rfl) | exact Or.inr (Or.inr rfl)) (hd : (x == ("__debug__" : Str)) = false := by decide) (hcd : (x == ("__classdict__" : Str)) = false := by decide)
    (hb : attributeBase (.Name x p) nm X.env (eval (.Name x p) X.env) = eval (.Name x p) X.env := by rfl) : DE P G0 n (X.suite a ((a, oe) :: pn)) (.Attribute (.Name x p) nm pos) (dFlt a C cls d i) :=
  pe_weak (pe_xf T hno hz hf (pe_var (X := X.suite a ((a, oe) :: pn)) hN hv hd hcd) hb) fun σ H Q ⟨F, ρ, G, Q0, s, R, h, k⟩ => by
    unfold dFlt at h
    split at h
    · rename_i a' C' d' D q
      obtain ⟨rfl, rfl, rfl, rfl, h⟩ := h
      obtain ⟨h1, v, h2, h3⟩ := R.exc q
      refine ⟨_, h1, rfl, rfl, d', _, v, rfl, R.sub _ _ h2, ?_, k.here s.2 R h3 h⟩
      show List.lookup nm [(P.an C', v)] = some v
      rw [hn, List.lookup_cons_self]
    · exact h.elim
def dFlI (a C : Addr) (cls : Value) (d : Option Addr) (b : Bool) (i : Nat) : (DTE) := fun ρ Q => match ρ[i]? with
  | some (.exc a' C' d' D) => a' = a ∧ C' = C ∧ cls = .ref C' ∧ d = some d' ∧ Q (.bool b) ρ
  | _ => False
/-- isinstance(fault, O) -/
theorem de_fltI {O : Addr} {o : Str} {b : Bool} (T : IsC X.K C) (hk : PySem.W.kitOne X.K (.ref C) (.ref O) = some b) (hz : Zc cls d oe) (hf : ∃ vs, oe.data = .fields vs) (hgi : Gl X "isinstance") (hmi : X.mg "isinstance" = none) (hgo : Gl X o) (hmo : X.mg o = some (.ref O)) (i : Nat) (hN : X.N[i]? = some x := by rfl)
    (hv : Vis X.env.scope x := by first | exact Or.inl rfl | exact Or.inr (Or.inl rfl) | exact Or.inr (Or.inr rfl)) (hd : (x == ("__debug__" : Str)) = false := by decide) (hcd : (x == ("__classdict__" : Str)) = false := by decide) (hdo : (o == ("__debug__" : Str)) = false := by decide)
    (hs : starEach [.Name x p2, .Name o p3] X.env = (false, eval (.Name x p2) X.env) :: starEach [.Name o p3] X.env := by rfl) (hs2 : starEach [.Name o p3] X.env = (false, eval (.Name o p3) X.env) :: starEach [] X.env := by rfl) (hpl : (backTo pos (starEach [.Name o p3] X.env)).any (·.1) = false := by rfl) :
    DE P G0 n (X.suite a ((a, oe) :: pn)) (.Call (.Name "isinstance" p) [.Name x p2, .Name o p3] [] pos) (dFlI a C cls d b i) :=
  pe_weak (pe_callB (X := X.suite a ((a, oe) :: pn)) (call_isD hz hf) hgi hmi (by decide +kernel) (pa_cons (X := X.suite a ((a, oe) :: pn)) (pe_var (X := X.suite a ((a, oe) :: pn)) hN hv hd hcd) (pa_cons (X := X.suite a ((a, oe) :: pn)) (pe_glob (X := X.suite a ((a, oe) :: pn)) (v := .ref O) hgo hmo rfl hdo) pa_nil hs2) hs) (by decide) (by decide) hs hpl) fun σ H Q ⟨F, ρ, G, Q0, s, R, h, k⟩ => by
    unfold dFlI at h
    split at h
    · rename_i a' C' d' D q
      obtain ⟨rfl, rfl, rfl, rfl, h⟩ := h
      obtain ⟨h1, v, h2, h3⟩ := R.exc q
      exact ⟨_, h1, C', O, d', _, b, rfl, rfl, rfl, T, R.sub _ _ h2, hk, k.here s.2 R (.bl _) h⟩
    · exact h.elim
end
/-- a clause by data: its class, its name's slot, its suite's reading -/
abbrev ClsD := Addr × Nat × (Addr → Value → Option Addr → DTS)
def offD (i : Nat) (D : EndsD) : EndsD := { nx := fun ρ => noOb ρ i ∧ D.nx (ρ.set i .un), rt := D.rt, bk := fun ρ => noOb ρ i ∧ D.bk (ρ.set i .un), ct := fun ρ => noOb ρ i ∧ D.ct (ρ.set i .un), ro := D.ro }
def hearD (K : PySem.W.Frag) (D : EndsD) : List ClsD → Sto → EK
  | [], _ => fun _ => False
  | (c, i, t) :: r, ρ => fun er => ∃ b, PySem.W.exmOne K (.ref er.1) (.ref c) = some b ∧ (b = true → noOb ρ i ∧ ∀ a d, t a (.ref er.1) (some d) (offD i D) (ρ.set i (.exc a er.1 d er.2))) ∧ (b = false → hearD K D r ρ er)
inductive HdsD (P : Tb) (G0 : Hp) (n : Nat) (X : Cx) : List ExceptHandler → List ClsD → Prop
  | none : HdsD P G0 n X [] []
  | more {x nm : Str} {c : Addr} {i : Nat} {t : Addr → Value → Option Addr → DTS} {st : Stmt} {sts : List Stmt} {np p : Pos} {hs : List ExceptHandler} {cs : List ClsD} (hx : Names X x (.ref c)) (hi : X.N[i]? = some nm) (hl : X.env.kindOf nm = some .local)
      (suite : ∀ (a : Addr) (oe : Obj) (cls : Value) (d : Option Addr) (pn : List (Addr × Obj)), Zc cls d oe → (∃ vs, oe.data = .fields vs) → DSs P G0 n (X.suite a ((a, oe) :: pn)) (st :: sts) (t a cls d)) (rest : HdsD P G0 n X hs cs) :
      HdsD P G0 n X (.ExceptHandler (some (.Name x np)) (some nm) (st :: sts) p :: hs) ((c, i, t) :: cs)
section
variable {P : Tb} {G0 : Hp} {n : Nat} {X : Cx} {st : Stmt} {h0 : ExceptHandler} {hds : List ExceptHandler} {cs : List ClsD} {pos : Pos} {tb : DTSW}
def clsT (K : Zw) (G0 : Hp) (n : Nat) (c : ClsD) : SoC.Cls := (.ref c.1, c.2.1, fun a cls d => rdS K G0 n (c.2.2 a cls d))
theorem HdsD.cl : ∀ {hs : List ExceptHandler} {cs : List ClsD}, HdsD P G0 n X hs cs → Clauses X hs (cs.map (clsT (zOf X P) G0 n))
  | _, _, .none => .none
  | _, _, .more hx hi hl su r => .more hx hi hl su r.cl
theorem exc_fresh {K : Zw} {F : List (Addr × HO)} {G H : Hp} {ρ : Sto} {σ : L2.St} {i : Nat} {a C d : Addr} {v : V} {D : PyData} (R : Rep K F G ρ σ H) (n : ∀ a c, ρ[i]? ≠ some (.ob a c)) (x : Xd K C G d v) (dv : Dw K G v D) : Rep K F G (ρ.set i (.exc a C d D)) (σ.set i (some (.ref a))) H := R.setLc n ⟨rfl, v, x, dv⟩
theorem hear_read {D : Ends} {D0 : EndsD} {ρ : Sto} {G : Hp} (k : Lk (zOf X P) n D0 ρ G D) (s0 : Ex P G0 G) : ∀ (cs : List ClsD), ErrW (zOf X P) n (wEach X.K (fun _ _ _ _ => False) D (cs.map (clsT (zOf X P) G0 n))) ρ G (hearD X.K D0 cs)
  | [] => fun ρ' σ' G' H' C Dv d v q _ _ _ _ _ => q.elim
  | (c, i, t) :: r => fun ρ' σ' G' H' C Dv d v ⟨b, hb, hy, hn⟩ s al R x dv => by
    refine ⟨b, hb, fun e a ha => ?_, fun e => hear_read k s0 r ρ' σ' G' H' C Dv d v (hn e) s al R x dv⟩
    obtain ⟨no, hy⟩ := hy e
    have k2 := k.after s (al.trans (Alike.set (lc := .exc a C d Dv) no))
    have off : ∀ {Q0 : Sto → Prop} {Q : L2.St → Hp → Prop}, LkN (zOf X P) n Q0 (ρ'.set i (.exc a C d Dv)) G' Q → LkN (zOf X P) n (fun ρ2 => noOb ρ2 i ∧ Q0 (ρ2.set i .un)) (ρ'.set i (.exc a C d Dv)) G' fun σ2 H2 => Q (σ2.set i none) H2 := fun kk ρ2 σ2 G2 H2 ⟨no2, q2⟩ s2 al2 R2 =>
      kk _ _ _ _ q2 s2 (al2.trans (.set no2)) (R2.forget (noOb_ne no2) none)
    show rdS (zOf X P) G0 n (t a (Value.ref C) (some d)) (offN i D) (σ'.set i (some (V.ref a))) H'
    exact ⟨ρ'.set i (.exc a C d Dv), G', offD i D0, s0.trans s, exc_fresh R (noOb_ne no) x dv, hy a d, ⟨off k2.nx, off k2.bk, off k2.ct, k2.rt, k2.ro⟩⟩
def dTry (K : PySem.W.Frag) (cs : List ClsD) (tb : DTSW) : DTS := fun D ρ => tb D ρ (hearD K D cs)
/-- try: one statement; except C as fault: .. -/
theorem ds_try {K : PySem.W.Frag} (hK : X.K = K) (hs : X.stack = X.env :: X.outer) (hf : X.env.frame = some X.env.locals) (hN : X.N.Nodup) (hb : ∀ (W : WX) (pn : List (Addr × Obj)) (xe : Value → Shared → Prop), Takes (X.tr pn xe) W → PassesOwn (model X.prog X.w) X.A X.env xe → DSW P G0 n (X.tr pn xe) W st tb)
    (hh : HdsD P G0 n X (h0 :: hds) cs) : DS P G0 n X (.Try [st] (h0 :: hds) [] [] pos) (dTry K cs tb) := by
  subst hK
  exact ps_weak (ps_tryEach (tb := fun W => rdSW (zOf X P) G0 n W tb) hs hf hN takes0 (fun W pn xe tk po => pss_one (hb W pn xe tk po)) hh.cl) fun D σ H ⟨ρ, G, D0, s, R, h, k⟩ => ⟨ρ, G, D0, _, s, R, h, k, hear_read k s cs⟩
end
abbrev ClsN := Addr × (Addr → Value → Option Addr → DTS)
def hearN (K : PySem.W.Frag) (D : EndsD) : List ClsN → Sto → EK
  | [], _ => fun _ => False
  | (c, t) :: r, ρ => fun er => ∃ b, PySem.W.exmOne K (.ref er.1) (.ref c) = some b ∧ (b = true → ∀ a d, t a (.ref er.1) (some d) D ρ) ∧ (b = false → hearN K D r ρ er)
inductive HdsN (P : Tb) (G0 : Hp) (n : Nat) (X : Cx) : List ExceptHandler → List ClsN → Prop
  | none : HdsN P G0 n X [] []
  | more {x : Str} {c : Addr} {t : Addr → Value → Option Addr → DTS} {st : Stmt} {sts : List Stmt} {np p : Pos} {hs : List ExceptHandler} {cs : List ClsN} (hx : Names X x (.ref c))
      (suite : ∀ (a : Addr) (oe : Obj) (cls : Value) (d : Option Addr) (pn : List (Addr × Obj)), Zc cls d oe → (∃ vs, oe.data = .fields vs) → DSs P G0 n (X.suite a ((a, oe) :: pn)) (st :: sts) (t a cls d)) (rest : HdsN P G0 n X hs cs) :
      HdsN P G0 n X (.ExceptHandler (some (.Name x np)) none (st :: sts) p :: hs) ((c, t) :: cs)
section
variable {P : Tb} {G0 : Hp} {n : Nat} {X : Cx} {st : Stmt} {h0 : ExceptHandler} {hds : List ExceptHandler} {cs : List ClsN} {pos : Pos} {tb : DTSW}
def clsN (K : Zw) (G0 : Hp) (n : Nat) (c : ClsN) : Value × (Addr → Value → Option Addr → TS) := (.ref c.1, fun a cls d => rdS K G0 n (c.2 a cls d))
theorem HdsN.cl : ∀ {hs : List ExceptHandler} {cs : List ClsN}, HdsN P G0 n X hs cs → HdsOk X hs (cs.map (clsN (zOf X P) G0 n))
  | _, _, .none => .nil
  | _, _, .more hx su r => .cons hx su r.cl
theorem hearN_read {D : Ends} {D0 : EndsD} {ρ : Sto} {G : Hp} (k : Lk (zOf X P) n D0 ρ G D) (s0 : Ex P G0 G) : ∀ (cs : List ClsN), ErrW (zOf X P) n (wMany X.K (fun _ _ _ _ => False) D (cs.map (clsN (zOf X P) G0 n))) ρ G (hearN X.K D0 cs)
  | [] => fun ρ' σ' G' H' C Dv d v q _ _ _ _ _ => q.elim
  | (c, t) :: r => fun ρ' σ' G' H' C Dv d v ⟨b, hb, hy, hn⟩ s al R x dv =>
    ⟨b, hb, fun e a ha => ⟨ρ', G', D0, s0.trans s, R, hy e a d, k.after s al⟩, fun e => hearN_read k s0 r ρ' σ' G' H' C Dv d v (hn e) s al R x dv⟩
def dTryN (K : PySem.W.Frag) (cs : List ClsN) (tb : DTSW) : DTS := fun D ρ => tb D ρ (hearN K D cs)
theorem ds_tryN {K : PySem.W.Frag} (hK : X.K = K) (hs : X.stack = X.env :: X.outer) (hf : X.env.frame = some X.env.locals) (hb : ∀ (W : WX) (pn : List (Addr × Obj)) (xe : Value → Shared → Prop), Takes (X.tr pn xe) W → PassesOwn (model X.prog X.w) X.A X.env xe → DSW P G0 n (X.tr pn xe) W st tb)
    (hh : HdsN P G0 n X (h0 :: hds) cs) : DS P G0 n X (.Try [st] (h0 :: hds) [] [] pos) (dTryN K cs tb) := by
  subst hK
  exact ps_weak (ps_try_many (tb := fun W => rdSW (zOf X P) G0 n W tb) hs hf takes0 (fun W pn xe tk po => pss_one (hb W pn xe tk po)) hh.cl) fun D σ H ⟨ρ, G, D0, s, R, h, k⟩ => ⟨ρ, G, D0, _, s, R, h, k, hearN_read k s cs⟩
end
end Dl
set_option Elab.async false
set_option linter.all false
set_option maxRecDepth 100000
set_option maxHeartbeats 4000000
namespace SoC
open PySem PySem.Spec PyProof.Rows L2 LamX NdefX So
section
variable {X : Cx} {elt tg iter : Expr} {ifs : List Expr} {scope : Scope} {own : List (Str × Nat)} {pos : Pos} {wi : TI} {g : TG} {tt : L2.St → TT} {te : L2.St → TE}
end
end SoC
set_option Elab.async false
set_option linter.all false
set_option maxRecDepth 100000
set_option maxHeartbeats 4000000
namespace Dl
open PySem PySem.Spec PyProof PyProof.Rows L2 So Da SoC LamX NdefX
structure LamUp (P : Addr) (G H G1 H1 : Hp) : Prop where
  sub : Sub G1 H1
  ext : ExtN G G1
  keep : ∀ b o, b ≠ P → H b = some o → H1 b = some o
  keepG : ∀ b o, b ≠ P → G b = some o → G1 b = some o
  new : ∀ b o, G1 b = some o → G b ≠ none ∨ H b = none
  nt : ∀ b o, G1 b = some o → G b = some o ∨ NTo o
def tLamG (P : Addr) (L : List NTab) (mk : Addr → NF) (body : Expr) : TE := fun _ H Q => ∃ G, Sub G H ∧ TabsN L G ∧ ∀ f c G1 H1, LamUp P G H G1 H1 → TabsN L G1 → H f = none → G1 f = some (LmO f (mk c) body) → G1 c = some (CodeO c (mk c).qual) → Q (.ref f) H1
section
variable {X : Cx}
theorem pe_lamG {L : List NTab} {nm : Nat → Nat → Str} {c P : Addr} {params : Arguments} {body : Expr} {scope : Scope} {pos : Pos} (TB : TabB X.base X.mg c P) (hcode : X.env.code = .ref c) (hm : (P, nm) ∈ L) (hn : nm pos.line pos.col = X.env.qual ++ "<lambda>") (hu : ∀ p ∈ L, p.1 = P → p.2 = nm)
    (hfree : ∀ y ∈ scope.names, y.2 = .free → X.env.scope.names.lookup y.1 = some .cell ∨ X.env.scope.names.lookup y.1 = some .free) (hdef : defaultsOf params X.env = ([], [])) : PE X (.Lambda params body scope pos) (tLamG P L (lamF X params scope) body) := by
  refine ⟨fun pins s σ H Q I hw => PySem.W.kla_eval hdef ?_⟩
  obtain ⟨G, sub, hT, k⟩ := hw
  obtain ⟨ps, tG, tps, tc⟩ := (show TabN G P nm from hT _ hm)
  have tP := sub _ _ tG
  have tP' : s.heap.get? P = some { cls := .none, data := .fields ps } := I.hok P _ tP
  have cl : closureFor scope X.env = pure (cloFrom X.env.cells scope.names []) := closure_ok fun y hy e => (hfree y hy e).elim (fun z => I.ok.has _ (.inl z)) fun z => I.ok.has _ (.inr z)
  have gn : ∀ {b}, H b = none → G b = none := fun {b} n => by
    cases e : G b with
    | none => rfl
    | some o => rw [sub b o e] at n; cases n
  have fin : ∀ {c' : Addr} {pm ctv : Value} {G1 H1 : Hp} {h' : Heap} {t1 t2 : Nat}, Inv X pins σ H1 { s with heap := h', toks := t1 } → s.heap.objs.size ≤ h'.objs.size → LamUp P G H G1 H1 → TabsN L G1 → G1 c' = some (CodeO c' (X.env.qual ++ "<lambda>")) →
      EP X pins σ Q (.ref h'.objs.size) { s with heap := h'.push (PySem.W.kla_obj "<lambda>" (X.env.qual ++ "<lambda>") params body scope (cloFrom X.env.cells scope.names []) pm c' ctv), toks := t2 } := by
    intro c' pm ctv G1 H1 h' t1 t2 J hs up hTs hc
    have f0 : H1 h'.objs.size = none := J.hok.fresh (Nat.le_refl _)
    have fH : H h'.objs.size = none := I.hok.fresh hs
    have g0 : G1 h'.objs.size = none := by
      cases e : G1 h'.objs.size with
      | none => rfl
      | some o => rw [up.sub _ _ e] at f0; cases f0
    have sm : ∀ b o, H1 b = some o → upd H1 h'.objs.size (LmO h'.objs.size (lamF X params scope c') body) b = some o := fun b o e => by
      rw [upd_ne (ne_of_none e f0)]
      exact e
    have smG : ∀ b o, G1 b = some o → upd G1 h'.objs.size (LmO h'.objs.size (lamF X params scope c') body) b = some o := fun b o e => by
      rw [upd_ne (ne_of_none e g0)]
      exact e
    refine ⟨.ref h'.objs.size, _, lay_lam (F := lamF X params scope c') (body := body) (pm := pm) (ctv := ctv) (t2 := t2) J, rfl, k _ c' (upd G1 h'.objs.size (LmO h'.objs.size (lamF X params scope c') body)) _ ⟨fun b o e => ?_, fun b o e n => smG b o (up.ext b o e n), fun b o n e => sm b o (up.keep b o n e), fun b o n e => smG b o (up.keepG b o n e), fun b o e => ?_, fun b o e => ?_⟩ (hTs.ext smG) fH upd_same (smG _ _ hc)⟩
    · by_cases z : b = h'.objs.size
      · rw [z, upd_same] at e ⊢
        exact e
      · rw [upd_ne z] at e ⊢
        exact up.sub b o e
    · by_cases z : b = h'.objs.size
      · rw [z]
        exact .inr fH
      · rw [upd_ne z] at e
        exact up.new b o e
    · by_cases z : b = h'.objs.size
      · rw [z, upd_same] at e
        cases e
        exact .inr trivial
      · rw [upd_ne z] at e
        exact up.nt b o e
  cases hc : codeAmong pos ps.toList with
  | some cv =>
    obtain ⟨c', rfl, hco⟩ := tc pos cv hc
    rw [hn] at hco
    refine PySem.W.kla_makeFunctionHit (mg := X.mg) (c := c) (P := P) (ps := ps) cl I.ok.glob (I.mod.glob.keeps I.bk) hcode (TB.code.keeps I.bk) tP' tps hc (TB.bm.keeps I.bk) fun ctv h' tk kp hs => ?_
    exact fin (t1 := tk) (I.kept kp) hs ⟨sub, ExtN.refl G, fun _ _ _ e => e, fun _ _ _ e => e, fun b o e => .inl (by rw [e]; exact fun z => nomatch z), fun b o e => .inl e⟩ hT hco
  | none =>
    refine PySem.W.kla_makeFunction (mg := X.mg) (c := c) (P := P) (ps := ps) cl I.ok.glob (I.mod.glob.keeps I.bk) hcode (TB.code.keeps I.bk) tP' tps hc TB.gP (TB.bm.keeps I.bk) fun c' ctv h' tk kp hge hlt hrec htb => ?_
    obtain ⟨c2, oc, vs, t, e2, hoc, hd, hv⟩ := hrec
    cases e2
    have nC : H c' = none := I.hok.fresh hge
    have nCG : G c' = none := gn nC
    have nPC : P ≠ c' := ne_of_none tP nC
    have J := inv_table (t' := tk) (more := #[rawInt pos.line, rawInt pos.col, .ref c']) (h' := h') I tP (fun b o hb e => kp b o hb e) htb hge ⟨oc, vs, t, hoc, hd, hv⟩
    have keepO : ∀ (H : Hp), H c' = none → ∀ b o, b ≠ P → H b = some o → upd (upd H P (.tbl (ps ++ #[rawInt pos.line, rawInt pos.col, .ref c']))) c' (CodeO c' (X.env.qual ++ "<lambda>")) b = some o := fun H nC b o hb e => by
      rw [upd_ne (ne_of_none e nC), upd_ne hb]
      exact e
    have codeK : ∀ d q, G d = some (CodeO d q) → upd (upd G P (.tbl (ps ++ #[rawInt pos.line, rawInt pos.col, .ref c']))) c' (CodeO c' (X.env.qual ++ "<lambda>")) d = some (CodeO d q) := fun d q e =>
      keepO G nCG d _ (fun z => by
        rw [z, tG] at e
        exact codeO_ne ps (Option.some.inj e).symm) e
    refine fin (G1 := upd (upd G P (.tbl (ps ++ #[rawInt pos.line, rawInt pos.col, .ref c']))) c' (CodeO c' (X.env.qual ++ "<lambda>"))) (t1 := tk) J (Nat.le_trans hge (Nat.le_of_lt hlt)) ⟨fun b o e => ?_, fun b o e n => keepO G nCG b o (fun z => by
      rw [z, tG] at e
      exact n ps (Option.some.inj e).symm) e, keepO H nC, keepO G nCG, fun b o e => ?_, fun b o e => ?_⟩ (fun p hp => ?_) upd_same
    · by_cases z : b = c'
      · rw [z, upd_same] at e ⊢
        exact e
      · rw [upd_ne z] at e ⊢
        by_cases z2 : b = P
        · rw [z2, upd_same] at e ⊢
          exact e
        · rw [upd_ne z2] at e ⊢
          exact sub b o e
    · by_cases z : b = c'
      · rw [z]
        exact .inr nC
      · rw [upd_ne z] at e
        by_cases z2 : b = P
        · rw [z2, tG]
          exact .inl fun z => nomatch z
        · rw [upd_ne z2] at e
          exact .inl (by rw [e]; exact fun z => nomatch z)
    · by_cases z : b = c'
      · rw [z, upd_same] at e
        cases e
        exact .inr trivial
      · rw [upd_ne z] at e
        by_cases z2 : b = P
        · rw [z2, upd_same] at e
          cases e
          exact .inr trivial
        · rw [upd_ne z2] at e
          exact .inl e
    · by_cases hb : p.1 = P
      · rw [hu p hp hb, hb]
        refine ⟨ps ++ #[rawInt pos.line, rawInt pos.col, .ref c'], by rw [upd_ne nPC, upd_same], by rw [Array.toList_append]; exact PySem.TriplesOk_snoc _ _ _ _ tps, fun p' cv hcv => ?_⟩
        rw [Array.toList_append] at hcv
        rcases among_app2 _ tps hcv with z | ⟨z, z1, z2⟩
        · obtain ⟨d, e1, e3⟩ := tc p' cv z
          exact ⟨d, e1, codeK d _ e3⟩
        · refine ⟨c', z, ?_⟩
          rw [← z1, ← z2, hn]
          exact upd_same
      · obtain ⟨qs, a1, a2, a3⟩ := hT p hp
        refine ⟨qs, keepO G nCG _ _ hb a1, a2, fun p' cv hcv => ?_⟩
        obtain ⟨d, e1, e3⟩ := a3 p' cv hcv
        exact ⟨d, e1, codeK d _ e3⟩
end
section
variable {K : Zw} {F : List (Addr × HO)} {G G' H H' : Hp} {ρ : Sto} {σ : L2.St} {P : Addr}
/-- what is known of all but objects of one's own has grown; these stay -/
theorem Rep.pastC (R : Rep K F G ρ σ H) (s : Ex K.T G G') (sub : Sub G' H') (nt : NT G') (keep : ∀ b, (Owns ρ b ∨ ∃ o, (b, o) ∈ F) → H' b = H b ∧ G' b = none) : Rep K F G' ρ σ H' := by
  refine ⟨R.len, fun {i D} e => ?_, fun {i a c} e => ?_, fun {i a C d D} e => ?_, fun {i O} e => ?_, R.uniq, fun {a o} m => ?_, sub, nt⟩
  · obtain ⟨v, h1, h2⟩ := R.sh e
    exact ⟨v, h1, h2.mono s⟩
  · obtain ⟨h1, h2, o, h3, h4⟩ := R.ob e
    obtain ⟨k1, k2⟩ := keep a (.inl ⟨i, c, e⟩)
    exact ⟨h1, k2, o, by rw [k1]; exact h3, h4.mono s⟩
  · obtain ⟨h1, v, h2, h3⟩ := R.exc e
    exact ⟨h1, v, s.1 _ _ h2 (fun _ z => nomatch z), h3.mono s⟩
  · obtain ⟨f, h1, h2⟩ := R.ask e
    exact ⟨f, h1, h2.mono s⟩
  · obtain ⟨h1, h2, h3, h4⟩ := R.ex m
    obtain ⟨k1, k2⟩ := keep a (.inr ⟨o, m⟩)
    exact ⟨by rw [k1]; exact h1, k2, h3, h4⟩
theorem LamUp.ex {T : Tb} {G H G1 H1 : Hp} (u : LamUp P G H G1 H1) (t : Tg G T) (hP : P ≠ T.P) (tn : TabsN T.L G1) : Ex T G G1 := ⟨u.ext, by
  obtain ⟨⟨ps, h1, h2⟩, _⟩ := t
  exact ⟨ps, u.keepG _ _ (Ne.symm hP) h1, h2⟩, tn⟩
theorem LamUp.rep {G1 H1 : Hp} (u : LamUp P G H G1 H1) (t : Tg G K.T) (hm : ∃ nm, (P, nm) ∈ K.T.L) (hP : P ≠ K.T.P) (tn : TabsN K.T.L G1) (R : Rep K F G ρ σ H) : Rep K F G1 ρ σ H1 := by
  obtain ⟨nm, hm⟩ := hm
  obtain ⟨ps, tG, _⟩ := (show TabN G P nm from t.2 _ hm)
  have go : ∀ {b o}, H b = some o → G b = none → H1 b = H b ∧ G1 b = none := fun {b o} e g => by
    have nP : b ≠ P := fun z => by rw [z, tG] at g; cases g
    refine ⟨by rw [e, u.keep b o nP e], ?_⟩
    cases q : G1 b with
    | none => rfl
    | some x =>
      rcases u.new b x q with z | z
      · exact absurd g z
      · rw [e] at z; cases z
  refine R.pastC (u.ex t hP tn) u.sub (fun b o e => (u.nt b o e).elim (R.nt b o) id) fun b w => ?_
  rcases w with ⟨i, c, e⟩ | ⟨o, m⟩
  · obtain ⟨_, h2, o, h3, _⟩ := R.ob e
    exact go h3 h2
  · obtain ⟨h1, h2, _⟩ := R.ex m
    exact go h1 h2
end
section
variable {Z : Zw} {T : Tb} {G G' H H' : Hp} {as : List Addr} {v : V} {D : PyData}
theorem dels_out {b : Addr} (h : b ∉ as) : dels as G b = G b := if_neg h
theorem cell_nt {ob : Obj} (ps : Array Value) : CellF ob ≠ .tbl ps := fun z => nomatch z
/-- cells stand at as -/
def CellsP (G : Hp) (as : List Addr) : Prop := ∀ a ∈ as, ∃ ob, G a = some (CellF ob)
theorem CellsP.ext (h : CellsP G as) (x : ExtN G G') : CellsP G' as := fun a m => by
  obtain ⟨ob, e⟩ := h a m
  exact ⟨ob, x a _ e cell_nt⟩
theorem CellsP.keep {b : Addr} {o : HO} (h : CellsP G as) (e : G b = some o) (n : ∀ ob, o ≠ CellF ob) : dels as G b = some o := by
  rw [dels_out fun m => ?_]
  · exact e
  · obtain ⟨ob, e2⟩ := h b m
    rw [e] at e2
    exact n ob (Option.some.inj e2)
theorem Tg.dels (t : Tg G T) (h : CellsP G as) : Tg (dels as G) T := by
  obtain ⟨⟨ps, h1, h2⟩, t2⟩ := t
  refine ⟨⟨ps, h.keep h1 (fun ob z => nomatch z), h2⟩, fun p hp => ?_⟩
  obtain ⟨qs, a, b, c⟩ := t2 p hp
  refine ⟨qs, h.keep a (fun ob z => nomatch z), b, fun pos cv hc => ?_⟩
  obtain ⟨d, e1, e2⟩ := c pos cv hc
  exact ⟨d, e1, h.keep e2 (fun ob z => nomatch z)⟩
mutual
/-- where no functions are data: cells may be taken away -/
theorem Dw.but (hst : ∀ s, Z.T.st s = none) : ∀ {G G' : Hp} {v : V} {D : PyData}, (∀ b o, G b = some o → (∀ ob, o ≠ CellF ob) → G' b = some o) → Dw Z G v D → Dw Z G' v D
  | _, _, _, _, _, .non => .non
  | _, _, _, _, _, .bl b => .bl b
  | _, _, _, _, _, .int b => .int b
  | _, _, _, _, _, .str b => .str b
  | _, _, _, _, x, .lst a b => .lst (a.imp (fun q => q.imp (fun q => x _ _ q fun _ z => nomatch z) fun ⟨o, q⟩ => ⟨o, x _ _ q fun _ z => nomatch z⟩) _root_.id) (DwAll.but hst x b)
  | _, _, _, _, x, .tup a b => .tup (a.imp (fun q => q.imp (fun q => x _ _ q fun _ z => nomatch z) fun ⟨o, q⟩ => ⟨o, x _ _ q fun _ z => nomatch z⟩) _root_.id) (DwAll.but hst x b)
  | _, _, _, _, x, .dic a b => .dic (x _ _ a (fun _ z => nomatch z)) (DwKV.but hst x b)
  | _, _, _, _, x, .clo a b => by
    obtain ⟨sc, cl, c, h, _⟩ := a.ex
    rw [hst] at h
    cases h
theorem DwAll.but (hst : ∀ s, Z.T.st s = none) : ∀ {G G' : Hp} {vs : List V} {Ds : List PyData}, (∀ b o, G b = some o → (∀ ob, o ≠ CellF ob) → G' b = some o) → DwAll Z G vs Ds → DwAll Z G' vs Ds
  | _, _, _, _, _, .nil => .nil
  | _, _, _, _, x, .cons a b => .cons (Dw.but hst x a) (DwAll.but hst x b)
theorem DwKV.but (hst : ∀ s, Z.T.st s = none) : ∀ {G G' : Hp} {es : List DictEntry} {kvs : List (PyData × PyData)}, (∀ b o, G b = some o → (∀ ob, o ≠ CellF ob) → G' b = some o) → DwKV Z G es kvs → DwKV Z G' es kvs
  | _, _, _, _, _, .nil => .nil
  | _, _, _, _, x, .cons r1 r2 h a b n c => .cons r1 r2 h (Dw.but hst x a) (Dw.but hst x b) n (DwKV.but hst x c)
end
end
/-- what is told of a lambda by its words alone: its names N, its parameters, what it captured fr from the slots js, its reading -/
structure LamIs (P : Tb) (X : Cx) (k : Nat) (N ps fr : List Str) (js : List Nat) (t : EK → DTE) (params : Arguments) (body : Expr) (scope : Scope) : Prop where
  S : NScope N ps fr scope
  free : ∀ y ∈ scope.names, y.2 = .free → X.env.scope.names.lookup y.1 = some .cell
  sup : ∀ y, y ∈ fr → (y, NameKind.free) ∈ scope.names
  at_ : js.map (fun j => X.N[j]?) = fr.map some
  hb : ∀ (q : Str) (cl : List (Str × Addr)) (pm cv ctv : Value) (us : List Value), us.length = ps.length → bindArgs (PySem.W.kla_fn "<lambda>" q params body scope cl pm cv ctv) ⟨us, []⟩ = pure (ps.zip us)
  body : ∀ (c f : Addr) (A : Around) (outer : List Env) (s1 : Shared) (H1 : Hp) (E : XK) (G0 : Hp) (er : EK), ErrL (zOf X P) G0 E er → Room k (A.deeper (envF (lamF X params scope c) f s1.heap.objs.size)) → (A.deeper (envF (lamF X params scope c) f s1.heap.objs.size)).guards = some [] →
    DE P G0 0 (ncx (L2.CX X.prog X.w) X.prog X.w X.K X.mg X.base N (lamF X params scope c) f A outer s1 H1 E) body (t er)
def cpLc : Cp → Lc
  | .dat D => .sh D
  | .fn k W => .ask (.fn k W)
  | .bx => .ask .bx
def lamSto (N : List Str) (Ds : List PyData) (cs : List Cp) : Sto := Ds.map .sh ++ (cs.map cpLc ++ List.replicate (N.length - Ds.length - cs.length) .un)
/-- what a lambda comes to -/
def lamW (N : List Str) (m : Nat) (t : EK → DTE) : LW2 := fun cs Ds R => Ds.length = m ∧ t (fun er => R (.err er.1 er.2)) (lamSto N Ds cs) (fun D _ => R (.told D))
theorem dwAll_len {Z : Zw} : ∀ {G : Hp} {vs : List V} {Ds : List PyData}, DwAll Z G vs Ds → vs.length = Ds.length
  | _, _, _, .nil => rfl
  | _, _, _, .cons _ b => congrArg Nat.succ (dwAll_len b)
theorem dwAll_at {Z : Zw} : ∀ {G : Hp} {vs : List V} {Ds : List PyData} {i : Nat} {D : PyData}, DwAll Z G vs Ds → Ds[i]? = some D → ∃ v, vs[i]? = some v ∧ Dw Z G v D
  | _, _, _, _, _, .nil, e => by simp at e
  | _, _, _, 0, _, .cons a _, e => by cases e; exact ⟨_, rfl, a⟩
  | _, _, _, i + 1, _, .cons _ b, e => by
    obtain ⟨v, h1, h2⟩ := dwAll_at (i := i) b (by simpa using e)
    exact ⟨v, by simpa using h1, h2⟩
theorem paired_len {α β : Type} {p : α → β → Prop} : ∀ {l : List α} {m : List β}, Paired p l m → l.length = m.length
  | _, _, .nil => rfl
  | _, _, .cons _ b => congrArg Nat.succ (paired_len b)
theorem paired_get {α β : Type} {p : α → β → Prop} : ∀ {l : List α} {m : List β} {i : Nat} {b : β}, Paired p l m → m[i]? = some b → ∃ a, l[i]? = some a ∧ p a b
  | _, _, _, _, .nil, e => by simp at e
  | _, _, 0, _, .cons h _, e => by cases e; exact ⟨_, rfl, h⟩
  | _, _, i + 1, _, .cons _ t, e => by
    obtain ⟨a, h1, h2⟩ := paired_get (i := i) t (by simpa using e)
    exact ⟨a, by simpa using h1, h2⟩
theorem cellsU_len {K : Zw} {G : Hp} {h : Heap} {H : Hp} : ∀ {as : List Addr} {cs : List Cp}, CellsU K G h H as cs → as.length = cs.length
  | [], [], _ => rfl
  | _ :: _, _ :: _, q => congrArg Nat.succ (cellsU_len q.2)
theorem cellsU_at {K : Zw} {G : Hp} {h : Heap} {H : Hp} : ∀ {as : List Addr} {cs : List Cp}, CellsU K G h H as cs → ∃ ws : List V, Paired (CpOk K G) ws cs ∧ ∀ (i : Nat) (a : Addr), as[i]? = some a → H a = none ∧ ∃ v u, ws[i]? = some v ∧ h.IsCell a (some u) ∧ RelV v u
  | [], [], _ => ⟨[], .nil, fun i a e => by simp at e⟩
  | a :: as, c :: cs, ⟨⟨n, v, u, ic, r, cp⟩, q⟩ => by
    obtain ⟨ws, p, k⟩ := cellsU_at q
    refine ⟨v :: ws, .cons cp p, fun i b e => ?_⟩
    cases i with
    | zero =>
      have e : some a = some b := e
      cases e
      exact ⟨n, v, u, rfl, ic, r⟩
    | succ i => simpa using k i b (by simpa using e)
section
variable {P : Tb} {X : Cx} {k : Nat} {N ps fr : List Str} {js : List Nat} {t : EK → DTE} {params : Arguments} {body : Expr} {scope : Scope}
theorem js_at {X : Cx} {fr : List Str} {js : List Nat} (h : js.map (fun j => X.N[j]?) = fr.map some) {i : Nat} {y : Str} (e : fr[i]? = some y) : ∃ j, js[i]? = some j ∧ X.N[j]? = some y := by
  have e2 : (js.map fun j => X.N[j]?)[i]? = some (some y) := by
    rw [h, List.getElem?_map, e] <;> rfl
  rw [List.getElem?_map] at e2
  cases ej : js[i]? with
  | none => rw [ej] at e2; cases e2
  | some j =>
    rw [ej] at e2
    exact ⟨j, rfl, Option.some.inj (show some (X.N[j]?) = some (some y) from e2)⟩
theorem ca_at {X : Cx} {j : Nat} {y : Str} {c : Addr} (h : X.N[j]? = some y) (e : X.env.cells.lookup y = some c) : caOf X j = c := by
  unfold caOf
  rw [h]
  show ((X.env.cells.lookup y).getD 0) = c
  rw [e]
  rfl
theorem lamOk_of (LI : LamIs P X k N ps fr js t params body scope) (ok : X.Ok) {c f : Addr} {G : Hp} (h1 : G f = some (LmO f (lamF X params scope c) body)) (h2 : G c = some (CodeO c (X.env.qual ++ "<lambda>"))) : LamOk (zOf X P) G f (k + 1) (js.map (caOf X)) (lamW N ps.length t) := by
  refine ⟨.inl ⟨_, h1, fun h ⟨pm, ctv, z⟩ => ⟨_, _, _, _, z⟩⟩, fun A outer s H G1 us vs Ds cs R Q E hr hg e0 x sub nt cu r dw w hR => ?_⟩
  have h1 := sub _ _ (x.1 _ _ h1 (fun ps z => nomatch z))
  have h2 := sub _ _ (x.1 _ _ h2 (fun ps z => nomatch z))
  have cp : Caps X (cloFrom X.env.cells scope.names []) fr js := Caps.made ok (fun y hy e => .inl (LI.free y hy e)) LI.sup LI.at_
  obtain ⟨ws, pc, cw⟩ := cellsU_at cu
  have lj : js.length = fr.length := by
    have q := congrArg List.length LI.at_
    rwa [List.length_map, List.length_map] at q
  have lc : ws.length = cs.length := paired_len pc
  have lcs : cs.length = fr.length := by rw [← cellsU_len cu, List.length_map, lj]
  have C : CellsAt (lamF X params scope c).cl fr (ws.map some) s.heap H := by
    have one : ∀ (i : Nat) (y : Str), fr[i]? = some y → ∃ a v u, (cloFrom X.env.cells scope.names []).lookup y = some a ∧ H a = none ∧ ws[i]? = some v ∧ s.heap.IsCell a (some u) ∧ RelV v u := fun i y e => by
      obtain ⟨j, hj, hy⟩ := js_at LI.at_ e
      have ky : X.env.scope.names.lookup y = some .cell := LI.free (y, .free) (LI.sup y (List.mem_of_getElem? e)) rfl
      obtain ⟨a, ha⟩ := ok.has y (.inl ky)
      obtain ⟨n, v, u, g1, g2, g3⟩ := cw i a (by rw [List.getElem?_map, hj]; exact congrArg some (ca_at hy ha))
      exact ⟨a, v, u, cp.sup y (List.mem_of_getElem? e) a ha, n, g1, g2, g3⟩
    refine ⟨by rw [List.length_map]; omega, fun y a e => ?_, fun x y a e1 e2 => ok.inj x y a (cp.sub x a e1) (cp.sub y a e2), fun i y e => ?_⟩
    · have m : y ∈ fr := by
        rcases cloFrom_mem (PySem.mem_of_lookup e) with hm | ⟨h1, _⟩
        · cases hm
        · exact LI.S.free _ h1 rfl
      obtain ⟨i, hi⟩ := List.mem_iff_getElem?.mp m
      obtain ⟨a', v, u, g1, g2, g3, g4, g5⟩ := one i y hi
      have e' : (cloFrom X.env.cells scope.names []).lookup y = some a := e
      rw [g1] at e'
      cases e'
      exact ⟨g2, _, g4⟩
    · obtain ⟨a', v, u, g1, g2, g3, g4, g5⟩ := one i y e
      refine ⟨a', g1, fun v' ev => ?_⟩
      rw [List.getElem?_map, g3] at ev
      cases ev
      exact ⟨u, g5, g4⟩
  have hE : ErrL (zOf X P) G1 E (fun er => R (.err er.1 er.2)) := fun C2 D d v G' H' q s2 sb n2 xd dv => hR _ q d v G' H' s2 sb n2 xd dv
  obtain ⟨lm, w⟩ := w
  have ld := dwAll_len dw
  have lu : us.length = ps.length := by rw [← r.length, ld, lm]
  have lim : s.heap.NoLimit := e0.mod.nolimit.keeps fun b o e => (e0.bs b o e).1
  obtain ⟨⟨pm, ctv, ho⟩, _, _⟩ := e0.hok f _ h1
  obtain ⟨⟨oc, wv, tk, c1, c2, c3⟩, _, _⟩ := e0.hok c _ h2
  refine PySem.W.kla_callFunE hr.depth ho rfl LI.S.co LI.S.gen rfl ⟨c, oc, wv, tk, rfl, c1, c2, c3⟩ ?_
  rw [LI.hb _ _ pm _ ctv us lu]
  refine wpAny_pure (wpAny_newFunctionEnv LI.S.nocell (fun y hy => LI.S.par y.1 (List.of_mem_zip hy).1) (fun h1 hns hsb => ⟨lim.fresh _ hsb, ?_⟩) LI.S.kind)
  have kp : ∀ b o, s.heap.get? b = some o → h1.get? b = some o := fun b o e => hsb.extBut b o (Nat.ne_of_lt (Heap.lt_size e)) (Heap.get?_push_of_some _ e)
  have I := inv_startN (CX := L2.CX X.prog X.w) (E := E) (f := f) (tk := s.toks + (ps.zip us).length) LI.S hr.hd e0 (ld.trans lm) r C hns kp
  have pe := LI.body c f A outer s H E G1 _ hE (hr.deeper _) hg
  have at_ : ∀ {i : Nat} {lc : Lc}, (lamSto N Ds cs)[i]? = some lc → lc ≠ .un → (∃ D, lc = .sh D ∧ Ds[i]? = some D) ∨ (∃ c, lc = cpLc c ∧ Ds.length ≤ i ∧ cs[i - Ds.length]? = some c) := fun {i lc} e n => by
    unfold lamSto at e
    rw [← List.append_assoc] at e
    have e2 := un_of e n
    by_cases z : i < Ds.length
    · rw [List.getElem?_append_left (by rw [List.length_map]; exact z), List.getElem?_map] at e2
      cases e3 : Ds[i]? with
      | none => rw [e3] at e2; cases e2
      | some D => rw [e3] at e2; exact .inl ⟨D, (Option.some.inj e2).symm, rfl⟩
    · rw [List.getElem?_append_right (by rw [List.length_map]; omega), List.length_map, List.getElem?_map] at e2
      cases e3 : cs[i - Ds.length]? with
      | none => rw [e3] at e2; cases e2
      | some D => rw [e3] at e2; exact .inr ⟨D, (Option.some.inj e2).symm, by omega, rfl⟩
  have sl : ∀ {i : Nat} {v : V}, vs[i]? = some v → (startF N vs (ws.map some))[i]? = some (some v) := fun {i v} e => by
    unfold startF
    rw [List.getElem?_append_left (by rw [List.length_map]; exact (List.getElem?_eq_some_iff.mp e).1), List.getElem?_map, e]
    rfl
  have sr : ∀ {i : Nat} {v : V}, Ds.length ≤ i → ws[i - Ds.length]? = some v → (startF N vs (ws.map some))[i]? = some (some v) := fun {i v} l e => by
    have lt := (List.getElem?_eq_some_iff.mp e).1
    have e1 : (vs.map some).length = Ds.length := by rw [List.length_map, ld]
    unfold startF
    rw [List.getElem?_append_right (by rw [e1]; exact l), e1, List.getElem?_append_left (by rw [List.length_map]; exact lt), List.getElem?_map, e]
    rfl
  refine PySem.W.kla_codeExpr (wpAny_mono (pe.run [] _ _ H Q I ⟨[], lamSto N Ds cs, G1, _, Ex.refl x.2, ⟨?_, fun {i D} e => ?_, fun {i a c} e => ?_, fun {i a C d D} e => ?_, fun {i O} e => ?_, fun {i j a c c'} e => ?_, fun m => absurd m List.not_mem_nil, sub, nt⟩, w, fun D ρ' v G' H' q2 s2 al R d => hR _ q2 v G' H' s2 R.sub R.nt d⟩) (fun v s' h => ?_) fun e s' h => h)
  · unfold startF lamSto
    rw [List.length_append, List.length_append, List.length_append, List.length_append, List.length_map, List.length_map, List.length_map, List.length_map, List.length_replicate, List.length_replicate]
    omega
  · rcases at_ e (fun z => nomatch z) with ⟨D', z, e2⟩ | ⟨c', z, l, e2⟩
    · cases z
      obtain ⟨v, h3, h4⟩ := dwAll_at dw e2
      exact ⟨v, sl h3, h4⟩
    · cases c' with
      | fn _ _ => cases z
      | bx => cases z
      | dat D' =>
        cases z
        obtain ⟨v, h3, h4⟩ := paired_get pc e2
        exact ⟨v, sr l h3, h4⟩
  · rcases at_ e (fun z => nomatch z) with ⟨D', z, e2⟩ | ⟨c', z, l, e2⟩
    · cases z
    · cases c' <;> cases z
  · rcases at_ e (fun z => nomatch z) with ⟨D', z, e2⟩ | ⟨c', z, l, e2⟩
    · cases z
    · cases c' <;> cases z
  · rcases at_ e (fun z => nomatch z) with ⟨D', z, e2⟩ | ⟨c', z, l, e2⟩
    · cases z
    · cases c' with
      | dat _ => cases z
      | fn k2 W2 =>
        cases z
        obtain ⟨v, h3, f2, rfl, h4⟩ := paired_get pc e2
        exact ⟨f2, sr l h3, h4⟩
      | bx =>
        cases z
        obtain ⟨v, h3, f2, rfl, h4⟩ := paired_get pc e2
        exact ⟨f2, sr l h3, h4⟩
  · rcases at_ e (fun z => nomatch z) with ⟨D', z, e2⟩ | ⟨c', z, l, e2⟩
    · cases z
    · cases c' <;> cases z
  obtain ⟨v', H', J, rv, q⟩ := h
  exact ⟨v', H', J.os, J.bare, J.base, J.hok, rv, q⟩
end
end Dl
set_option Elab.async false
set_option linter.all false
set_option maxRecDepth 100000
set_option maxHeartbeats 4000000
namespace Dl
open PySem PySem.Spec PyProof PyProof.Rows L2 So Da SoC LamX NdefX
/-- cells that are known hold this -/
def CellsK (G : Hp) (as : List Addr) (vs : List V) : Prop := as.length = vs.length ∧ ∀ (i : Nat) (a : Addr), as[i]? = some a → ∃ v u ob, vs[i]? = some v ∧ G a = some (CellF ob) ∧ ob.data = .cell (some u) ∧ RelV v u
theorem CellsK.cp {G : Hp} {as : List Addr} {vs : List V} (C : CellsK G as vs) : CellsP G as := fun a m => by
  obtain ⟨i, hi⟩ := List.mem_iff_getElem?.mp m
  obtain ⟨v, u, ob, _, h, _⟩ := C.2 i a hi
  exact ⟨ob, h⟩
theorem cellsU_of {K : Zw} {G : Hp} {h : Heap} {H : Hp} : ∀ {as : List Addr} {vs : List V} {cs : List Cp}, as.length = vs.length → Paired (CpOk K G) vs cs → (∀ (i : Nat) (a : Addr), as[i]? = some a → H a = none ∧ ∃ v u, vs[i]? = some v ∧ h.IsCell a (some u) ∧ RelV v u) → CellsU K G h H as cs
  | [], [], [], _, _, _ => trivial
  | a :: as, v :: vs, c :: cs, l, .cons p q, k => by
    obtain ⟨n, v', u, e1, e2, e3⟩ := k 0 a rfl
    have e1 : some v = some v' := e1
    cases e1
    exact ⟨⟨n, v, u, e2, e3, p⟩, cellsU_of (Nat.succ.inj l) q fun i b e => by simpa using k (i + 1) b (by simpa using e)⟩
  | [], _ :: _, _, l, _, _ => nomatch l
  | _ :: _, [], _, l, _, _ => nomatch l
  | [], [], _ :: _, _, q, _ => nomatch q
  | _ :: _, _ :: _, [], _, q, _ => nomatch q
section
variable {Z : Zw}
/-- a function whose cells are known stands for good -/
theorem askOk_of {f : Addr} {k : Nat} {G Gc : Hp} {as : List Addr} {vs : List V} {cs : List Cp} {W : LW2} (L : LamOk Z G f k as W) (x : Ex Z.T G Gc) (C : CellsK Gc as vs) (nG : ∀ a ∈ as, G a = none) (cp : Paired (CpOk Z (dels as Gc)) vs cs) (hst : ∀ s, Z.T.st s = none) : AskOk Z Gc f k (W cs) := by
  refine ⟨L.fn.ext x.1, fun A outer s H G1 us ws Ds R Q E hr hg e0 x1 sub nt r dw w hR => ?_⟩
  have cp1 : CellsP G1 as := C.cp.ext x1.1
  have cH : ∀ a ∈ as, ∃ ob, H a = some (CellF ob) := fun a m => by
    obtain ⟨ob, e⟩ := cp1 a m
    exact ⟨ob, sub _ _ e⟩
  have M : Msk (frs outer) as noCo H s.heap := ⟨fun b m => by
    obtain ⟨ob, e⟩ := cH b m
    exact ⟨_, e, lcl_frz lcl_ext⟩, fun b ob e => nomatch e⟩
  have e0' : Env0 Z.Pg Z.w Z.K Z.mg Z.base A outer s (mask as noCo H) := mask_env M (fun b ob e => nomatch e) e0
  have t1 : Tg (dels as G1) Z.T := x1.2.dels cp1
  have exD : Ex Z.T (dels as Gc) (dels as G1) := ⟨dels_ext x1.1, t1⟩
  have exG : Ex Z.T G (dels as G1) := ⟨(fun b o e n => by
    rw [dels_out fun m => ?_]
    · exact x1.1 b o (x.1 b o e n) n
    · rw [nG b m] at e
      exact nomatch e), t1⟩
  have subD : Sub (dels as G1) (mask as noCo H) := fun b o e => by
    unfold dels at e
    split at e
    · cases e
    · rename_i m
      rw [mask_out m rfl]
      exact sub b o e
  have ntD : NT (dels as G1) := fun b o e => by
    unfold dels at e
    split at e
    · cases e
    · exact nt b o e
  have cu : CellsU Z (dels as G1) s.heap (mask as noCo H) as cs := cellsU_of C.1 (paired_imp (fun a b h => CpOk.mono exD h) cp) fun i a e => by
    obtain ⟨v, u, ob, g1, g2, g3, g4⟩ := C.2 i a e
    have e2 := sub _ _ (x1.1 a _ g2 cell_nt)
    exact ⟨mask_in (List.mem_of_getElem? e), v, u, g1, ⟨ob, (e0.hok a _ e2).1, g3⟩, g4⟩
  have nn : ∀ {G' H2 : Hp}, Sub G' H2 → Bck as noCo H2 → ∀ b ∈ as, G' b = none := fun {G' H2} sb bk b m => by
    cases e : G' b with
    | none => rfl
    | some o =>
      have := sb b o e
      rw [bk.gone b m] at this
      cases this
  let back : Hp → Hp := fun G' b => if b ∈ as then G1 b else G' b
  have bin : ∀ {G' : Hp} {b}, b ∈ as → back G' b = G1 b := fun m => if_pos m
  have bout : ∀ {G' : Hp} {b}, b ∉ as → back G' b = G' b := fun m => if_neg m
  have bext : ∀ {G' H2 : Hp}, Sub G' H2 → Bck as noCo H2 → ∀ b o, G' b = some o → back G' b = some o := fun {G' H2} sb bk b o e => by
    rw [bout fun m => ?_]
    · exact e
    · rw [nn sb bk b m] at e
      cases e
  have bEx : ∀ {G' H2 : Hp}, Ex Z.T (dels as G1) G' → Sub G' H2 → Bck as noCo H2 → Ex Z.T G1 (back G') := fun {G' H2} s2 sb bk => ⟨fun b o e n => by
    by_cases m : b ∈ as
    · rw [bin m]
      exact e
    · rw [bout m]
      exact s2.1 b o (by rw [dels_out m]; exact e) n, s2.2.ext (bext sb bk)⟩
  have bSub : ∀ {G' H2 : Hp}, Sub G' H2 → Sub (back G') (unmask as noCo H H2) := fun {G' H2} sb b o e => by
    by_cases m : b ∈ as
    · rw [bin m] at e
      rw [unmask_in m]
      exact sub b o e
    · rw [bout m] at e
      rw [unmask_out m rfl]
      exact sb b o e
  have bNt : ∀ {G' : Hp}, NT G' → NT (back G') := fun {G'} n b o e => by
    by_cases m : b ∈ as
    · rw [bin m] at e
      exact nt b o e
    · rw [bout m] at e
      exact n b o e
  refine codeAny_mono (L.run A outer s (mask as noCo H) (dels as G1) us ws Ds cs R (fun v H2 => Bck as noCo H2 → Q v (unmask as noCo H H2)) (fun cls d H2 => Bck as noCo H2 → E cls d (unmask as noCo H H2)) hr hg e0' exG subD ntD cu r (DwAll.but hst (fun b o e n => cp1.keep e n) dw) w fun o ho => ?_) fun z s' hq => ?_
  · have h := hR o ho
    cases o with
    | told D => exact fun v G' H' s2 sb n2 d bk => h v (back G') _ (bEx s2 sb bk) (bSub sb) (bNt n2) (d.ext (ExtN.of (bext sb bk)))
    | err C2 D => exact fun d v G' H' s2 sb n2 xd dv bk => h d v (back G') _ (bEx s2 sb bk) (bSub sb) (bNt n2) (bext sb bk _ _ xd) (dv.ext (ExtN.of (bext sb bk)))
  · match z, hq with
    | .error e, hq => exact cx_unmask M e0.hok e0.frf hq fun cls d H2 q g => q g
    | .ok (.ret u), ⟨v, H2, os, bare, un, hok, rv, z⟩ =>
      have bk := bck_of M e0.hok un
      exact ⟨v, unmask as noCo H H2, os, bare, unmask_un M e0.hok un hok, unmask_ok M e0.hok bk hok fun c m o g => un.keep c o g (mask_in m) (fun m2 => by
        obtain ⟨o, e, _⟩ := M.hid c m
        rw [e0.frf c m2] at e
        cases e) (fun z => nomatch z), rv, z bk⟩
end
/-- a def that calls what it is given, without arguments, once, and answers by what that comes to -/
def heardT (j : Nat) (TH : Out → (PyData → Prop) → Prop) : TD := fun as Q _ => ∃ k W R, as = [.ask (.fn k W)] ∧ k ≤ j ∧ W [] R ∧ ∀ o, R o → TH o fun D => Q D [.ask (.fn k W)]
def slotsD (ρ : Sto) : List Nat → (List PyData → Prop) → Prop
  | [], k => k []
  | j :: js, k => match ρ[j]? with
    | some (.sh D) => slotsD ρ js fun Ds => k (D :: Ds)
    | _ => False
/-- what the slots js hold, as a lambda sees it; js0: all that it captured, ja: all slots that are cells -/
def capsD (ca : Nat → Addr) (js0 ja : List Nat) (ρ : Sto) : List Nat → (List Cp → Prop) → Prop
  | [], k => k []
  | j :: js, k => match ρ[j]? with
    | some (.sh D) => capsD ca js0 ja ρ js fun cs => k (.dat D :: cs)
    | some (.ask (.fn i W)) => capsD ca js0 ja ρ js fun cs => k (.fn i W :: cs)
    | some (.ask .bx) => capsD ca js0 ja ρ js fun cs => k (.bx :: cs)
    | some (.ask (.lam ca2 js2 W)) => (ca2 = ca ∧ ∀ j ∈ js2, j ∈ ja ∧ j ∉ js0) ∧ slotsD ρ js2 fun Ds => capsD ca js0 ja ρ js fun cs => k (.fn aL (W (Ds.map .dat)) :: cs)
    | _ => False
def dHeard (ca : Nat → Addr) (js ja : List Nat) (W : LW2) (TH : Out → (PyData → Prop) → Prop) : DTE := fun ρ Q => capsD ca js ja ρ js fun cs => W cs [] fun o => TH o fun D => Q D ρ
theorem slotsD_of {K : Zw} {F : List (Addr × HO)} {G H : Hp} {ρ : Sto} {σ : L2.St} (R : Rep K F G ρ σ H) : ∀ {js : List Nat} {k : List PyData → Prop}, slotsD ρ js k → ∃ Ds vs, k Ds ∧ vs.length = js.length ∧ DwAll K G vs Ds ∧ ∀ (i j : Nat), js[i]? = some j → ∃ v, vs[i]? = some v ∧ σ[j]? = some (some v)
  | [], k, h => ⟨[], [], h, rfl, .nil, fun i j e => by simp at e⟩
  | j :: js, k, h => by
    unfold slotsD at h
    split at h
    · rename_i D e
      obtain ⟨Ds, vs, h1, h2, h3, h4⟩ := slotsD_of R h
      obtain ⟨v, e1, e2⟩ := R.sh e
      refine ⟨D :: Ds, v :: vs, h1, congrArg Nat.succ h2, .cons e2 h3, fun i j' e' => ?_⟩
      cases i with
      | zero =>
        have e' : some j = some j' := e'
        cases e'
        exact ⟨v, rfl, e1⟩
      | succ i =>
        obtain ⟨v', g1, g2⟩ := h4 i j' (by simpa using e')
        exact ⟨v', by simpa using g1, g2⟩
    · exact h.elim
theorem nd_at {α : Type} : ∀ {l : List α} {i j : Nat} {x : α}, l.Nodup → l[i]? = some x → l[j]? = some x → i = j
  | [], _, _, _, _, e, _ => by simp at e
  | _ :: _, 0, 0, _, _, _, _ => rfl
  | a :: l, 0, j + 1, x, nd, e, e' => by
    have e : some a = some x := e
    cases e
    have e' : l[j]? = some a := by simpa using e'
    exact absurd (List.mem_of_getElem? e') (List.nodup_cons.mp nd).1
  | a :: l, i + 1, 0, x, nd, e, e' => by
    have e' : some a = some x := e'
    cases e'
    have e : l[i]? = some a := by simpa using e
    exact absurd (List.mem_of_getElem? e) (List.nodup_cons.mp nd).1
  | a :: l, i + 1, j + 1, x, nd, e, e' => congrArg Nat.succ (nd_at (List.nodup_cons.mp nd).2 (by simpa using e) (by simpa using e'))
theorem dat_paired {K : Zw} : ∀ {G : Hp} {vs : List V} {Ds : List PyData}, DwAll K G vs Ds → Paired (CpOk K G) vs (Ds.map .dat)
  | _, _, _, .nil => .nil
  | _, _, _, .cons a b => .cons a (dat_paired b)
section
variable {P : Tb} {X : Cx}
/-- the cells that are shown, among them those of the slots js -/
theorem shown_at {σ : L2.St} {ja : List Nat} {co : Addr → Option Obj} (sh : Shown X σ ja co) {j : Nat} {v : V} (hj : CellJ X ja) (m : j ∈ ja) (e : σ[j]? = some (some v)) : ∃ u ob, co (caOf X j) = some ob ∧ ob.data = .cell (some u) ∧ RelV v u := by
  obtain ⟨y, hy, _, _⟩ := hj j m
  obtain ⟨c, ob, h1, h2, x, h3, h4⟩ := sh.at_ j m y hy
  obtain ⟨u, rfl, r⟩ := h4 v e
  exact ⟨u, ob, by rw [ca_at hy h1]; exact h2, h3, r⟩
theorem cellsK_shown {σ : L2.St} {ja js : List Nat} {co : Addr → Option Obj} {Gc : Hp} {vs : List V} (sh : Shown X σ ja co) (hj : CellJ X ja) (sb : ∀ j ∈ js, j ∈ ja) (lv : vs.length = js.length) (hv : ∀ (i j : Nat), js[i]? = some j → ∃ v, vs[i]? = some v ∧ σ[j]? = some (some v)) (gco : ∀ b ob, co b = some ob → Gc b = some (CellF ob)) : CellsK Gc (js.map (caOf X)) vs := by
  refine ⟨by rw [List.length_map, lv], fun i a e => ?_⟩
  rw [List.getElem?_map] at e
  cases ej : js[i]? with
  | none => rw [ej] at e; cases e
  | some j =>
    rw [ej] at e
    cases e
    obtain ⟨v, h1, h2⟩ := hv i j ej
    obtain ⟨u, ob, h3, h4, h5⟩ := shown_at sh hj (sb j (List.mem_of_getElem? ej)) h2
    exact ⟨v, u, ob, h1, gco _ _ h3, h4, h5⟩
/-- what is captured, as it stands where the cells are known -/
theorem caps_of (ok : X.Ok) (hN : X.N.Nodup) {σ : L2.St} {ja js0 : List Nat} {co : Addr → Option Obj} {F : List (Addr × HO)} {G Gc H : Hp} {ρ : Sto} {ca : Nat → Addr} (hca : ca = caOf X) (R : Rep (zOf X P) F G ρ σ H) (sh : Shown X σ ja co) (hj : CellJ X ja) (hst : ∀ s, P.st s = none) (s0 : ∀ j ∈ js0, j ∈ ja) (gco : ∀ b ob, co b = some ob → Gc b = some (CellF ob)) (nG : ∀ b ob, co b = some ob → G b = none)
    (x : Ex P G (dels (js0.map (caOf X)) Gc)) : ∀ {js : List Nat} {k : List Cp → Prop}, (∀ j ∈ js, j ∈ js0) → capsD ca js0 ja ρ js k → ∃ cs vs, k cs ∧ vs.length = js.length ∧ Paired (CpOk (zOf X P) (dels (js0.map (caOf X)) Gc)) vs cs ∧ ∀ (i j : Nat), js[i]? = some j → ∃ v, vs[i]? = some v ∧ σ[j]? = some (some v)
  | [], k, _, h => ⟨[], [], h, rfl, .nil, fun i j e => by simp at e⟩
  | j :: js, k, sb, h => by
    have go : ∀ {v : V} {c : Cp}, σ[j]? = some (some v) → CpOk (zOf X P) (dels (js0.map (caOf X)) Gc) v c → capsD ca js0 ja ρ js (fun cs => k (c :: cs)) → ∃ cs vs, k cs ∧ vs.length = (j :: js).length ∧ Paired (CpOk (zOf X P) (dels (js0.map (caOf X)) Gc)) vs cs ∧ ∀ (i j' : Nat), (j :: js)[i]? = some j' → ∃ v, vs[i]? = some v ∧ σ[j']? = some (some v) := fun {v c} ev cv q => by
      obtain ⟨cs, vs, h1, h2, h3, h4⟩ := caps_of ok hN hca R sh hj hst s0 gco nG x (fun j m => sb j (List.mem_cons_of_mem _ m)) q
      refine ⟨c :: cs, v :: vs, h1, congrArg Nat.succ h2, .cons cv h3, fun i j' e' => ?_⟩
      cases i with
      | zero =>
        have e' : some j = some j' := e'
        cases e'
        exact ⟨v, rfl, ev⟩
      | succ i =>
        obtain ⟨v', g1, g2⟩ := h4 i j' (by simpa using e')
        exact ⟨v', by simpa using g1, g2⟩
    unfold capsD at h
    split at h
    · rename_i D e
      obtain ⟨v, e1, e2⟩ := R.sh e
      exact go (c := .dat D) e1 (Dw.mono x e2) h
    · rename_i i W e
      obtain ⟨f, e1, e2⟩ := R.ask e
      exact go (c := .fn i W) e1 ⟨f, rfl, AskOk.mono x e2⟩ h
    · rename_i e
      obtain ⟨f, e1, e2⟩ := R.ask e
      exact go (c := .bx) e1 ⟨f, rfl, x.1 _ _ e2 (fun _ z => nomatch z)⟩ h
    · rename_i ca2 js2 W e
      obtain ⟨⟨rfl, hjs⟩, h⟩ := h
      obtain ⟨f, e1, e2⟩ := R.ask e
      obtain ⟨Ds, vs, h1, h2, h3, h4⟩ := slotsD_of R h
      refine go (c := .fn aL (W (Ds.map .dat))) e1 ⟨f, rfl, ?_⟩ h1
      have e2 : LamOk (zOf X P) G f aL (js2.map ca2) W := e2
      subst hca
      have cell : ∀ j ∈ ja, ∀ v, σ[j]? = some (some v) → ∃ u ob, co (caOf X j) = some ob ∧ ob.data = .cell (some u) ∧ RelV v u := fun j m v e => shown_at sh hj m e
      have inj : ∀ j ∈ ja, ∀ j' ∈ ja, caOf X j = caOf X j' → j = j' := fun j m j' m' e => by
        obtain ⟨y, hy, ky, _⟩ := hj j m
        obtain ⟨y', hy', ky', _⟩ := hj j' m'
        obtain ⟨c, hc⟩ := ok.has y (.inl ky)
        obtain ⟨c', hc'⟩ := ok.has y' (.inl ky')
        rw [ca_at hy hc, ca_at hy' hc'] at e
        subst e
        have := ok.inj y y' c hc hc'
        subst this
        exact nd_at hN hy hy'
      have hk : ∀ (i : Nat) (a : Addr), (js2.map (caOf X))[i]? = some a → ∃ j v u ob, js2[i]? = some j ∧ a = caOf X j ∧ vs[i]? = some v ∧ co a = some ob ∧ ob.data = .cell (some u) ∧ RelV v u := fun i a e => by
        rw [List.getElem?_map] at e
        cases ej : js2[i]? with
        | none => rw [ej] at e; cases e
        | some j =>
          rw [ej] at e
          cases e
          obtain ⟨v, g1, g2⟩ := h4 i j ej
          obtain ⟨u, ob, g3, g4, g5⟩ := cell j (hjs j (List.mem_of_getElem? ej)).1 v g2
          exact ⟨j, v, u, ob, rfl, rfl, g1, g3, g4, g5⟩
      have nin : ∀ a ∈ js2.map (caOf X), a ∉ js0.map (caOf X) := fun a m m2 => by
        obtain ⟨j, mj, rfl⟩ := List.mem_map.mp m
        obtain ⟨j', mj', ej⟩ := List.mem_map.mp m2
        have := inj j' (s0 j' mj') j (hjs j mj).1 ej
        subst this
        exact (hjs _ mj).2 mj'
      have CK : CellsK (dels (js0.map (caOf X)) Gc) (js2.map (caOf X)) vs := ⟨by rw [List.length_map, h2], fun i a e => by
        obtain ⟨j, v, u, ob, g1, rfl, g2, g3, g4, g5⟩ := hk i a e
        exact ⟨v, u, ob, g2, by rw [dels_out (nin _ (List.mem_of_getElem? e))]; exact gco _ _ g3, g4, g5⟩⟩
      have gn2 : ∀ a ∈ js2.map (caOf X), G a = none := fun a m => by
        obtain ⟨i, hi⟩ := List.mem_iff_getElem?.mp m
        obtain ⟨j, v, u, ob, g1, rfl, g2, g3, g4, g5⟩ := hk i a hi
        exact nG _ _ g3
      have exx : LamX.ExtN G (dels (js2.map (caOf X)) (dels (js0.map (caOf X)) Gc)) := fun b o e n => by
        rw [dels_out fun m => ?_]
        · exact x.1 b o e n
        · rw [gn2 b m] at e
          cases e
      have dwx : DwAll (zOf X P) (dels (js2.map (caOf X)) (dels (js0.map (caOf X)) Gc)) vs Ds := h3.ext exx
      exact askOk_of e2 x CK gn2 (dat_paired dwx) hst
    · exact h.elim
end
end Dl
set_option Elab.async false
set_option linter.all false
set_option maxRecDepth 100000
set_option maxHeartbeats 4000000
namespace Dl
open PySem PySem.Spec PyProof PyProof.Rows L2 So Da SoC LamX NdefX
section
variable {P : Tb} {G0 : Hp} {n : Nat} {X : Cx} {ja js : List Nat} {TH : Out → (PyData → Prop) → Prop} {k j : Nat} {f : Addr} {fd : FuncData} {ps : List Str} {x y : Str} {p pos lp : Pos}
/-- the ground with cells shown -/
def shG (co : Addr → Option Obj) (G : Hp) : Hp := fun b => match co b with
  | some ob => some (CellF ob)
  | none => G b
theorem shG_co {co : Addr → Option Obj} {G : Hp} {b : Addr} {ob : Obj} (e : co b = some ob) : shG co G b = some (CellF ob) := by unfold shG; rw [e]
theorem shG_no {co : Addr → Option Obj} {G : Hp} {b : Addr} (e : co b = none) : shG co G b = G b := by unfold shG; rw [e]
/-- the call, its function made or found: some cells shown -/
theorem heard_core {σ : L2.St} {F : List (Addr × HO)} {G H : Hp} {ρ : Sto} {fl : Addr} {kl : Nat} {W : LW2} {Q0 : PyData → Sto → Prop} {Q : VK} {co : Addr → Option Obj} (ok : X.Ok) (hN : X.N.Nodup) (hj : CellJ X ja) (hst : ∀ s, P.st s = none) (t : Tg G P) (R : Rep (zOf X P) F G ρ σ H) (L : LamOk (zOf X P) G fl kl (js.map (caOf X)) W)
    (kl_le : kl ≤ j) (s0 : ∀ i ∈ js, i ∈ ja) (h : dHeard (caOf X) js ja W TH ρ Q0) (kk : Kn (zOf X P) F n Q0 ρ G σ Q) (sh : Shown X σ ja co) (cN : ∀ b ob, co b = some ob → H b = none) :
    (∀ b ∈ hidL F ρ (argsOf ρ []), ∃ o, H b = some o ∧ Lcl o) ∧ spT (zOf X P) (heardT j TH) [.ref fl] (mask (hidL F ρ (argsOf ρ [])) co H) (fun v H2 => Bck (hidL F ρ (argsOf ρ [])) co H2 → Q v (unmask (hidL F ρ (argsOf ρ [])) co H H2)) (fun cls d H2 => Bck (hidL F ρ (argsOf ρ [])) co H2 → False) := by
  obtain ⟨Ls, Rc⟩ := R.call (vs := []) (rs := []) trivial List.nodup_nil
  refine ⟨Ls, ?_⟩
  have noG : ∀ b ob, co b = some ob → G b = none := fun b ob e => R.gnone (cN b ob e)
  have gext : ∀ b o, G b = some o → shG co G b = some o := fun b o e => by
    rw [shG_no]
    · exact e
    · cases q : co b with
      | none => rfl
      | some ob => rw [noG _ _ q] at e; cases e
  have sc : Ex P G (shG co G) := Ex.of t gext
  -- all cells that are shown
  have mem : ∀ a, a ∈ ja.map (caOf X) ↔ ∃ ob, co a = some ob := fun a => ⟨fun m => by
    obtain ⟨i, mi, rfl⟩ := List.mem_map.mp m
    obtain ⟨y, hy, _⟩ := hj i mi
    obtain ⟨c, ob, h1, h2, _⟩ := sh.at_ i mi y hy
    exact ⟨ob, by rw [ca_at hy h1]; exact h2⟩, fun ⟨ob, e⟩ => by
    obtain ⟨i, y, mi, hy, hc⟩ := sh.own a ob e
    exact List.mem_map.mpr ⟨i, mi, ca_at hy hc⟩⟩
  have memS : ∀ a, a ∈ js.map (caOf X) → ∃ ob, co a = some ob := fun a m => (mem a).mp (by
    obtain ⟨i, mi, e⟩ := List.mem_map.mp m
    exact List.mem_map.mpr ⟨i, s0 i mi, e⟩)
  have cpA : CellsP (shG co G) (ja.map (caOf X)) := fun a m => by
    obtain ⟨ob, q⟩ := (mem a).mp m
    exact ⟨ob, shG_co q⟩
  have cpS : CellsP (shG co G) (js.map (caOf X)) := fun a m => by
    obtain ⟨ob, q⟩ := memS a m
    exact ⟨ob, shG_co q⟩
  have xS : Ex P G (dels (js.map (caOf X)) (shG co G)) := ⟨(fun b o e n => by
    rw [dels_out fun m => ?_]
    · exact gext b o e
    · obtain ⟨ob, q⟩ := memS b m
      rw [noG _ _ q] at e
      cases e), sc.2.dels cpS⟩
  obtain ⟨cs, vs, hw, lv, pc, hv⟩ := caps_of ok hN rfl R sh hj hst s0 (fun b ob e => shG_co (G := G) e) noG xS (fun i m => m) h
  have CK := cellsK_shown (Gc := shG co G) sh hj s0 lv hv fun b ob e => shG_co e
  have A : AskOk (zOf X P) (shG co G) fl kl (W cs) := askOk_of L sc CK (fun a m => by
    obtain ⟨ob, q⟩ := memS a m
    exact noG _ _ q) pc hst
  have nhid : ∀ {b o}, G b = some o → b ∉ hidL F ρ (argsOf ρ []) := fun {b o} e m => by
    rcases mem_hidL.mp m with ⟨⟨i, c, z⟩, _⟩ | ⟨o, m⟩
    · rw [(R.ob z).2.1] at e
      cases e
    · rw [(R.ex m).2.1] at e
      cases e
  have M0 : ∀ {b ob}, co b = some ob → b ∉ hidL F ρ (argsOf ρ []) := fun {b ob} e m => by
    obtain ⟨o, q, _⟩ := Ls b m
    rw [cN b ob e] at q
    cases q
  have subc : Sub (shG co G) (mask (hidL F ρ (argsOf ρ [])) co H) := fun b o e => by
    cases q : co b with
    | some ob =>
      rw [shG_co q] at e
      rw [mask_co (M0 q) q]
      exact e
    | none =>
      rw [shG_no q] at e
      rw [mask_out (nhid e) q]
      exact R.sub b o e
  have ntc : NT (shG co G) := fun b o e => by
    cases q : co b with
    | some ob =>
      rw [shG_co q] at e
      cases e
      exact trivial
    | none =>
      rw [shG_no q] at e
      exact R.nt b o e
  refine ⟨shG co G, [.ask (.fn kl (W cs))], fun D _ => Q0 D ρ, fun _ => False, sc.2, ⟨rfl, fun {i D} e => ?_, fun {i a c} e => ?_, fun {i a C d D} e => ?_, fun {i O} e => ?_, fun {i j a c c'} e => ?_, fun m => absurd m List.not_mem_nil, subc, ntc⟩, ⟨kl, W cs, _, rfl, kl_le, hw, fun o ho => ho⟩, fun D as' v G2 H2 q2 sm s2 R2 d bk => ?_, fun _ _ _ _ _ _ z => z.elim⟩
  · rcases i with _ | i <;> simp at e
  · rcases i with _ | i <;> simp at e
  · rcases i with _ | i <;> simp at e
  · rcases i with _ | i
    · have e : some (Lc.ask (.fn kl (W cs))) = some (Lc.ask O) := e
      cases e
      exact ⟨fl, rfl, A⟩
    · simp at e
  · rcases i with _ | i <;> simp at e
  · have cp2 : CellsP G2 (ja.map (caOf X)) := cpA.ext s2.1
    have g2n : ∀ {b}, b ∈ hidL F ρ (argsOf ρ []) → G2 b = none := fun {b} m => by
      cases e : G2 b with
      | none => rfl
      | some o =>
        have := R2.sub b o e
        rw [bk.gone b m] at this
        cases this
    have keepD : ∀ b o, G2 b = some o → (∀ ob, o ≠ CellF ob) → dels (ja.map (caOf X)) G2 b = some o := fun b o e n => cp2.keep e n
    have s3 : Ex P G (dels (ja.map (caOf X)) G2) := ⟨(fun b o e n => by
      have e2 := s2.1 b o (gext b o e) n
      rw [dels_out fun m => ?_]
      · exact e2
      · obtain ⟨ob, q⟩ := (mem b).mp m
        rw [noG _ _ q] at e
        cases e), s2.2.dels cp2⟩
    have sub3 : Sub (dels (ja.map (caOf X)) G2) (unmask (hidL F ρ (argsOf ρ [])) co H H2) := fun b o e => by
      unfold dels at e
      split at e
      · cases e
      · rename_i m
        have nc : co b = none := by
          cases q : co b with
          | none => rfl
          | some ob => exact absurd ((mem b).mpr ⟨ob, q⟩) m
        rw [unmask_out (fun m2 => ?_) nc]
        · exact R2.sub b o e
        · rw [g2n m2] at e
          cases e
    have R3 : Rep (zOf X P) F (dels (ja.map (caOf X)) G2) ρ σ (unmask (hidL F ρ (argsOf ρ [])) co H H2) := R.pastC s3 sub3 (fun b o e => by
      unfold dels at e
      split at e
      · cases e
      · exact R2.nt b o e) fun b w => by
      have m : b ∈ hidL F ρ (argsOf ρ []) := mem_hidL.mpr (w.imp (fun z => ⟨z, fun ⟨i, c, e⟩ => by simp at e⟩) id)
      refine ⟨unmask_in m, ?_⟩
      unfold dels
      split
      · rfl
      · exact g2n m
    exact kk D ρ v (dels (ja.map (caOf X)) G2) _ q2 s3 .refl R3 (Dw.but hst keepD d)
theorem heard_run {σ : L2.St} {F : List (Addr × HO)} {G H : Hp} {ρ : Sto} {fl : Addr} {kl : Nat} {W : LW2} {ca : Nat → Addr} {Q0 : PyData → Sto → Prop} {Q : VK} (ok : X.Ok) (hN : X.N.Nodup) (hca : ca = caOf X) (hj : CellJ X ja) (hst : ∀ s, P.st s = none) (t : Tg G P) (R : Rep (zOf X P) F G ρ σ H) (L : LamOk (zOf X P) G fl kl (js.map ca) W)
    (kl_le : kl ≤ j) (s0 : ∀ i ∈ js, i ∈ ja) (h : dHeard ca js ja W TH ρ Q0) (kk : Kn (zOf X P) F n Q0 ρ G σ Q) : maskK X σ (spT (zOf X P) (heardT j TH)) (fun _ _ _ => False) [.ref fl] H Q := by
  subst hca
  unfold maskK
  obtain ⟨Ls, Rc⟩ := R.call (vs := []) (rs := []) trivial List.nodup_nil
  exact ⟨hidL F ρ (argsOf ρ []), ja, Ls, hj, fun co sh cN => (heard_core ok hN hj hst t R L kl_le s0 h kk sh cN).2⟩
/-- f(lambda: ..) -/
theorem de_heardL {N fr : List Str} {t : EK → DTE} {params : Arguments} {body : Expr} {scope : Scope} {nm : Nat → Nat → Str} {c Pl : Addr} {ca : Nat → Addr} {kb : Nat} (hN : X.N.Nodup) (hca : ca = caOf X) (hj : CellJ X ja) (LI : LamIs P X kb N [] fr js t params body scope) (hle : kb + 1 ≤ j) (s0 : ∀ i ∈ js, i ∈ ja) (hst : ∀ s, P.st s = none) (TB : LamX.TabB X.base X.mg c Pl) (hm : (Pl, nm) ∈ P.L) (hu : ∀ p ∈ P.L, p.1 = Pl → p.2 = nm) (hP : Pl ≠ P.P)
    (Fk : FnD X.prog X.w X.K X.mg X.base CX0 k f fd ps (spT (zOf X P) (heardT j TH))) (hr : Room k X.A) (hgd : X.A.guards = some []) (hg : Gl X x) (hmg : X.mg x = some (.ref f)) (hk : PySem.W.keepIn X.K (.ref f) = true) (hb : Binds X.K fd ps [])
    (hcode : X.env.code = .ref c := by rfl) (hn : nm lp.line lp.col = X.env.qual ++ "<lambda>" := by rfl) (hdef : defaultsOf params X.env = ([], []) := by rfl)
    (hdb : (x == ("__debug__" : Str)) = false := by decide) (he : starEach [.Lambda params body scope lp] X.env = (false, eval (.Lambda params body scope lp) X.env) :: starEach [] X.env := by rfl) (hpl : (backTo pos (starEach [] X.env)).any (·.1) = false := by rfl) :
    DE P G0 n X (.Call (.Name x p) [.Lambda params body scope lp] [] pos) (dHeard ca js ja (lamW N 0 t) TH) := by
  refine ⟨fun pins s σ H Q I h => (pe_callM (E := fun _ _ _ _ => False) Fk .non hr hgd hg hmg hk hb (pa_cons (pe_lamG (params := params) (body := body) (scope := scope) (pos := lp) TB hcode hm hn hu (fun y hy e => .inl (LI.free y hy e)) hdef) pa_nil he) hdb he hpl).run pins s σ H Q I ?_⟩
  obtain ⟨F, ρ, G, Q0, s1, R, h, kk⟩ := h
  refine ⟨G, R.sub, s1.2.2, fun fl cl G1 H1 up tn fH f1 c1 => ?_⟩
  have e1 : Ex P G G1 := up.ex s1.2 hP tn
  have R1 : Rep (zOf X P) F G1 ρ σ H1 := up.rep s1.2 ⟨nm, hm⟩ hP tn R
  have L := lamOk_of LI I.ok f1 c1
  rw [← hca] at L
  exact heard_run I.ok hN hca hj hst e1.2 R1 L hle s0 h (kk.after e1 .refl)
/-- f(ask), ask a lambda of one's own -/
def dHeardS (ca : Nat → Addr) (i j : Nat) (ja : List Nat) (TH : Out → (PyData → Prop) → Prop) : DTE := fun ρ Q => match ρ[i]? with
  | some (.ask (.lam ca2 js W)) => (ca2 = ca ∧ aL ≤ j ∧ ∀ i ∈ js, i ∈ ja) ∧ dHeard ca js ja W TH ρ Q
  | _ => False
end
end Dl
set_option Elab.async false
set_option linter.all false
set_option maxRecDepth 100000
set_option maxHeartbeats 4000000
namespace Dl
open PySem PySem.Spec PyProof PyProof.Rows L2 So Da SoC LamX NdefX
theorem Shown.congr {X : Cx} {σ σ' : L2.St} {js : List Nat} {co : Addr → Option Obj} (sh : Shown X σ js co) (h : ∀ j ∈ js, σ'[j]? = σ[j]?) : Shown X σ' js co :=
  ⟨sh.own, fun j m y ey => by
    obtain ⟨c, ob, h1, h2, x, h3, h4⟩ := sh.at_ j m y ey
    exact ⟨c, ob, h1, h2, x, h3, fun v e => h4 v (by rw [← h j m]; exact e)⟩⟩
section
variable {X : Cx} {k : Nat} {f : Addr} {fd : FuncData} {ps : List Str} {sp : Sp} {x : Str} {p pos : Pos} {e : Expr} {es : List Expr} {t : TA} {co : Addr → Option Obj}
end
def asksW (ca : Nat → Addr) (ja : List Nat) (TH : Out → (PyData → Prop) → Prop) (f : OpT) (tV : DTE) (ρw : Sto) (ik : Nat) : List (List Nat × LW2) → Prop
  | [] => True
  | l :: ls => ((∀ i ∈ l.1, i ∈ ja) ∧ dHeard ca l.1 ja l.2 TH (ρw.set ik (.ask (.lam ca l.1 l.2))) fun D ρ2 => tV ρ2 fun D2 ρ3 => f D D2 fun z => z = .bool false ∧ ρ3 = ρw.set ik (.ask (.lam ca l.1 l.2))) ∧ asksW ca ja TH f tV ρw ik ls
def dAsks (ca : Nat → Addr) (ia ik j : Nat) (ja : List Nat) (TH : Out → (PyData → Prop) → Prop) (f : OpT) (tV : DTE) : DTF := fun ρ Q => match ρ[ia]? with
  | some (.ob _ (.lams ca2 ls)) => (ca2 = ca ∧ aL ≤ j ∧ ia ≠ ik ∧ noOb ρ ik ∧ ik ∉ ja ∧ ik < ρ.length) ∧ asksW ca ja TH f tV (ρ.set ik .un) ik ls ∧ Q [] ρ
  | _ => False
section
variable {P : Tb} {G0 : Hp} {n : Nat} {X : Cx} {ja : List Nat} {TH : Out → (PyData → Prop) → Prop} {k j : Nat} {f : Addr} {fd : FuncData} {ps : List Str} {x y xs : Str} {p cpos yp yp2 yp3 xp pos mpos : Pos} {V : Expr} {scope : Scope} {ia ik : Nat} {tV : DTE} {op : CmpOp} {r : R2} {fO : OpT}
end
end Dl
set_option Elab.async false
set_option linter.all false
set_option maxRecDepth 100000
set_option maxHeartbeats 4000000
namespace Dl
open PySem PySem.Spec PyProof PyProof.Rows L2 So Da SoC LamX NdefX
def LamsOk (K : Zw) (G : Hp) (ca : Nat → Addr) : List V → List (List Nat × LW2) → Prop := Paired fun v l => ∃ f, v = V.ref f ∧ LamOk K G f aL (l.1.map ca) l.2
theorem LamsOk.mono {K : Zw} {G G' : Hp} {ca : Nat → Addr} (s : Ex K.T G G') {vs : List V} {ls : List (List Nat × LW2)} (h : LamsOk K G ca vs ls) : LamsOk K G' ca vs ls := paired_imp (fun _ _ ⟨f, e, m⟩ => ⟨f, e, m.mono s⟩) h
def rdL (K : Zw) (G0 : Hp) (ca : Nat → Addr) (ls : List (List Nat × LW2)) : TA := fun σ H Q => ∃ F ρ G, Ex K.T G0 G ∧ Rep K F G ρ σ H ∧ ∀ vs G' H', Ex K.T G G' → Rep K F G' ρ σ H' → LamsOk K G' ca vs ls → Q vs H'
def DLs (P : Tb) (G0 : Hp) (X : Cx) (ca : Nat → Addr) (es : List Expr) (ls : List (List Nat × LW2)) : Prop := PA X es (rdL (zOf X P) G0 ca ls)
section
variable {P : Tb} {G0 : Hp} {n : Nat} {X : Cx} {N ps fr : List Str} {js : List Nat} {t : EK → DTE} {params : Arguments} {body : Expr} {scope : Scope} {es : List Expr} {ls : List (List Nat × LW2)} {lp pos mp ap np cp lp2 : Pos} {ca : Nat → Addr} {st : Stmt} {xs : Str}
theorem dl_nil : DLs P G0 X ca [] [] := pa_weak pa_nil fun σ H Q ⟨F, ρ, G, s, R, k⟩ => k _ G H (Ex.refl s.2) R .nil
theorem dl_cons {nm : Nat → Nat → Str} {c Pl : Addr} (hca : ca = caOf X) (LI : LamIs P X 59 N ps fr js t params body scope) (TB : LamX.TabB X.base X.mg c Pl) (hm : (Pl, nm) ∈ P.L) (hu : ∀ p ∈ P.L, p.1 = Pl → p.2 = nm) (hP : Pl ≠ P.P) (h : DLs P G0 X ca es ls)
    (hcode : X.env.code = .ref c := by rfl) (hn : nm lp.line lp.col = X.env.qual ++ "<lambda>" := by rfl) (hdef : defaultsOf params X.env = ([], []) := by rfl) (hs : starEach (.Lambda params body scope lp :: es) X.env = (false, eval (.Lambda params body scope lp) X.env) :: starEach es X.env := by rfl) :
    DLs P G0 X ca (.Lambda params body scope lp :: es) ((js, lamW N ps.length t) :: ls) := by
  refine ⟨fun pos pins s σ H Q I h0 => (pa_cons (pe_lamG (params := params) (body := body) (scope := scope) (pos := lp) TB hcode hm hn hu (fun y hy e => .inl (LI.free y hy e)) hdef) h hs).run pos pins s σ H Q I ?_⟩
  obtain ⟨F, ρ, G, s1, R, k⟩ := h0
  refine ⟨G, R.sub, s1.2.2, fun fl cl G1 H1 up tn fH f1 c1 => ?_⟩
  have e1 : Ex P G G1 := up.ex s1.2 hP tn
  have R1 : Rep (zOf X P) F G1 ρ σ H1 := up.rep s1.2 ⟨nm, hm⟩ hP tn R
  have L := lamOk_of LI I.ok f1 c1
  rw [← hca] at L
  exact ⟨F, ρ, G1, s1.trans e1, R1, fun vs G2 H2 s2 R2 l2 => k _ G2 H2 (e1.trans s2) R2 (.cons ⟨fl, rfl, L.mono s2⟩ l2)⟩
/-- asks = [lambda: .., ..] -/
theorem ds_lams {i : Nat} {x : Str} (hN : X.N.Nodup) (hi : X.N[i]? = some x) (hx : Loc X.env.scope x) (h : DLs P G0 X ca es ls) (hs : swapsWith (.List es mp) (some (.Name x np)) pos.line X.env = pure false := by rfl) (hf : X.fn x = true ∨ X.env.scope.names.lookup x = some .local := by first | exact .inl rfl | exact .inr rfl | assumption) :
    DS P G0 n X (.Assign [.Name x np] (.List es mp) pos) (fun D ρ => (i < ρ.length ∧ ls.length ≤ sizeLine) ∧ noOb ρ i ∧ ∀ a, D.nx (ρ.set i (.ob a (.lams ca ls)))) := ps_weak (ps_set hN hi hx (pe_lst h) hs hf) fun D σ H ⟨ρ, G, D0, s, R, ⟨⟨l1, l2⟩, no, q⟩, k⟩ =>
  ⟨[], ρ, G, s, R, fun vs G' H' s' R' l => ⟨by rw [paired_len l]; exact l2, fun p hp => k.nx _ _ _ _ (q p) s' (.set no) (R'.own l1 (noOb_ne no) hp ⟨vs, rfl, l⟩)⟩⟩
/-- asks.append(lambda: ..) -/
theorem ds_appLam {i : Nat} {l : List Nat × LW2} (hps : PS X st (tDrop (tBM X.K "list" rAppend (tVar i) (rdL (zOf X P) G0 ca [l])))) : DS P G0 n X st (fun D ρ => match ρ[i]? with
    | some (.ob a (.lams ca2 ls)) => (ca2 = ca ∧ ls.length < sizeLine) ∧ D.nx (ρ.set i (.ob a (.lams ca (ls ++ [l]))))
    | _ => False) := ps_weak hps fun D σ H ⟨ρ, G, D0, s, R, h, k⟩ => by
  dsimp only at h
  split at h
  case h_2 => exact h.elim
  rename_i a ca2 ls q
  obtain ⟨⟨rfl, len⟩, h⟩ := h
  obtain ⟨h1, h2, o, h3, vs, rfl, h5⟩ := R.ob q
  refine ⟨_, h1, .inl ⟨rfl, vs, .inl (.inl h3)⟩, [], ρ, G, s, R, fun ws G' H' s' R' l1 => ?_⟩
  obtain ⟨k1, k2, o, k3, us, rfl, k5⟩ := R'.ob q
  have app : ∀ {us : List V} {ms : List (List Nat × LW2)}, LamsOk (zOf X P) G' ca2 us ms → LamsOk (zOf X P) G' ca2 (us ++ ws) (ms ++ [l]) := by
    intro us ms h
    unfold LamsOk at h l1 ⊢
    induction h with
    | nil => exact l1
    | cons a b ih => exact .cons a ih
  have l1' := l1
  cases l1 with
  | cons x1 r1 =>
    cases r1
    rename_i w
    refine ⟨a, us, w, rfl, rfl, k3, ?_, k.nx _ _ _ _ h s' (put_alike q) (R'.put q ⟨_, rfl, app k5⟩)⟩
    rw [paired_len k5]
    exact len
/-- for ask in asks: .. -/
def forLW (ca : Nat → Addr) (ik : Nat) (tb : DTS) (D : EndsD) : List (List Nat × LW2) → Sto → Prop
  | [], ρ => D.nx ρ
  | l :: ls, ρ => noOb ρ ik ∧ tb { D with nx := forLW ca ik tb D ls, ct := forLW ca ik tb D ls, bk := D.nx } (ρ.set ik (.ask (.lam ca l.1 l.2)))
def dForL (n : Nat) (ca : Nat → Addr) (ia ik : Nat) (tb : DTS) : DTS := fun D ρ => match ρ[ia]? with
  | some (.ob _ (.lams ca2 ls)) => (ca2 = ca ∧ n ≤ ia) ∧ forLW ca ik tb D ls (ρ.set ia .un)
  | _ => False
theorem ds_forLams {ia ik : Nat} {y : Str} {yp xp : Pos} {tb : DTS} {bd : List Stmt} (hp : PassesOwn (model X.prog X.w) X.A X.env X.xe) (hc : X.calm = true) (hN : X.N.Nodup) (hia : X.N[ia]? = some xs) (hva : Vis X.env.scope xs) (hda : (xs == ("__debug__" : Str)) = false) (hcda : (xs == ("__classdict__" : Str)) = false)
    (hg : PG X (.Name y yp) (gName ik)) (hb : DSs P G0 n X bd tb) (hs : ∀ v, foldedSetIterable (.Name xs xp) X.env v = pure v := by intro _; rfl) : DS P G0 n X (.For (.Name y yp) (.Name xs xp) bd [] pos) (dForL n ca ia ik tb) :=
  ps_weak (ps_for hp hc (pi_list (pe_var hia hva hda hcda)) hg hb hs) fun D σ H ⟨ρ, G, D0, s, R, h, k⟩ => by
  unfold dForL at h
  split at h
  case h_2 => exact h.elim
  rename_i a ca2 ls q
  obtain ⟨⟨rfl, hn⟩, h⟩ := h
  obtain ⟨h1, h2, o, h3, vs, rfl, h5⟩ := R.ob q
  have h5 : LamsOk (zOf X P) G ca2 vs ls := h5
  have l5 := paired_len h5
  -- the list stands for good
  have s1 : Ex P G (upd G a (.lst vs)) := Ex.new s.2 h2
  have R0 : Rep (zOf X P) [(a, .lst vs)] G (ρ.set ia .un) σ H := by
    have ne : ∀ {i : Nat} {b : Addr} {c : Oc}, (ρ.set ia .un)[i]? = some (.ob b c) → i ≠ ia ∧ ρ[i]? = some (.ob b c) := fun {i b c} e => by
      rcases set_get e with ⟨_, z, _⟩ | h
      · cases z
      · exact h
    have oth : ∀ {i : Nat} {lc : Lc}, (ρ.set ia .un)[i]? = some lc → lc ≠ .un → ρ[i]? = some lc := fun {i lc} e n => by
      rcases set_get e with ⟨_, z, _⟩ | h
      · exact absurd z n
      · exact h.2
    exact ⟨by rw [List.length_set]; exact R.len, fun e => R.sh (oth e fun z => nomatch z), fun e => R.ob (ne e).2, fun e => R.exc (oth e fun z => nomatch z), fun e => R.ask (oth e fun z => nomatch z), fun e e' => R.uniq (ne e).2 (ne e').2, fun {b u} m => by
      have z := List.mem_singleton.mp m
      cases z
      refine ⟨h3, h2, fun ⟨i, c, e⟩ => ?_, lcl_lst⟩
      exact (ne e).1 (R.uniq (ne e).2 q), R.sub, R.nt⟩
  obtain ⟨_, R1⟩ := R0.land s.2 (fun o m => absurd m List.not_mem_nil)
  have al0 : Alike n ρ (ρ.set ia .un) := fun i b c hi e => ⟨c, by rw [List.getElem?_set_ne (by omega)]; exact e⟩
  have sq : ∀ {H' : Hp} {G2 : Hp} {ρ2 : Sto} {σ2 : L2.St}, Ex P (upd G a (.lst vs)) G2 → Rep (zOf X P) [] G2 ρ2 σ2 H' → SqL X.K H' a vs := fun s2 R2 => .inl (.inl (R2.sub _ _ (s2.1 _ _ upd_same fun _ z => nomatch z)))
  refine ⟨.ref a, h1, a, rfl, ⟨vs, .inl (.inl h3)⟩, ?_⟩
  refine ⟨fun i m σ2 H2 => m = ls.length - i ∧ i ≤ ls.length ∧ ∃ ρ2 G2, Ex P (upd G a (.lst vs)) G2 ∧ Alike n ρ ρ2 ∧ Rep (zOf X P) [] G2 ρ2 σ2 H2 ∧ forLW ca2 ik tb D0 (ls.drop i) ρ2, ⟨_, by rw [Nat.sub_zero], Nat.zero_le _, _, _, Ex.refl s1.2, al0, R1, h⟩, ?_⟩
  rintro i m σ2 H2 ⟨rfl, hi, ρ2, G2, s2, al2, R2, q2⟩
  have s02 := (s.trans s1).trans s2
  by_cases hl : i < ls.length
  · refine .inr ⟨⟨vs, vs[i], sq s2 R2, List.getElem?_eq_getElem (by omega)⟩, fun σ' H' => i + 1 ≤ ls.length ∧ ∃ ρ2 G2, Ex P (upd G a (.lst vs)) G2 ∧ Alike n ρ ρ2 ∧ Rep (zOf X P) [] G2 ρ2 σ' H' ∧ forLW ca2 ik tb D0 (ls.drop (i + 1)) ρ2, fun σ' H' z => ⟨_, by omega, rfl, z⟩, fun x H3 ⟨eH, yx⟩ => ?_⟩
    subst eH
    have ex := yx vs (sq s2 R2)
    obtain ⟨v', e1, fl, rfl, L⟩ := paired_get h5 (List.getElem?_eq_getElem hl)
    rw [ex] at e1
    cases e1
    rw [List.drop_eq_getElem_cons hl] at q2
    unfold forLW at q2
    obtain ⟨no, q2⟩ := q2
    have R3 : Rep (zOf X P) [] G2 (ρ2.set ik (.ask (.lam ca2 ls[i].1 ls[i].2))) (σ2.set ik (some (.ref fl))) H3 := R2.setLc (noOb_ne no) ⟨fl, rfl, L.mono (s1.trans s2)⟩
    have on : LkN (zOf X P) n (forLW ca2 ik tb D0 (ls.drop (i + 1))) (ρ2.set ik (.ask (.lam ca2 ls[i].1 ls[i].2))) G2 (fun σ' H' => i + 1 ≤ ls.length ∧ ∃ ρ2 G2, Ex P (upd G a (.lst vs)) G2 ∧ Alike n ρ ρ2 ∧ Rep (zOf X P) [] G2 ρ2 σ' H' ∧ forLW ca2 ik tb D0 (ls.drop (i + 1)) ρ2) := fun ρ5 σ5 G5 H5 q5 s5 al5 R5 => ⟨hl, ρ5, G5, s2.trans s5, (al2.trans (.set no)).trans al5, R5, q5⟩
    have kk := k.after (s1.trans s2) (al2.trans (Alike.set (lc := .ask (.lam ca2 ls[i].1 ls[i].2)) no))
    exact ⟨_, G2, _, s02, R3, q2, on, kk.nx, on, kk.rt, kk.ro⟩
  · have e : i = ls.length := by omega
    subst e
    rw [List.drop_length] at q2
    exact .inl ⟨⟨vs, sq s2 R2, by omega⟩, k.nx _ _ _ _ q2 (s1.trans s2) al2 R2⟩
end
end Dl
set_option Elab.async false
set_option linter.all false
set_option maxRecDepth 100000
set_option maxHeartbeats 4000000
namespace Dl
open PySem PySem.Spec PyProof PyProof.Rows L2 So Da
theorem cj_nil {X : Cx} : CellJ X [] := fun j m => absurd m List.not_mem_nil
theorem cj_cons {X : Cx} {j : Nat} {js : List Nat} (h : ∃ y, X.N[j]? = some y ∧ X.env.scope.names.lookup y = some .cell ∧ X.fn y = true) (r : CellJ X js) : CellJ X (j :: js) := fun i m => by
  rcases List.mem_cons.mp m with z | m
  · rw [z]
    exact h
  · exact r i m
section
variable {Pg : Program} {w : World} {K : PySem.W.Frag} {mg : Str → Option Value} {base : Heap} {CX : CXT} {k : Nat} {f c : Addr} {fd : FuncData} {ps : List Str} {sp : Sp} {x : Str} {st : Stmt} {N : List Str}
theorem FnD.okC (F : DfC K mg x st ps f fd c) (S : FnScope N ps (defScope st)) (len : ∀ vs H Q E, sp vs H Q E → vs.length = ps.length)
    (body : ∀ (A : Around) (outer : List Env) (s : Shared) (H : Hp) (vs : List V) (Q : VK) (E : XK), Room k (A.deeper (envOfC x (defScope st) s.heap.objs.size f (.ref c))) → (A.deeper (envOfC x (defScope st) s.heap.objs.size f (.ref c))).guards = some [] → sp vs H Q E →
      ∃ t, PSs (cxOf CX Pg w K mg base N x (defScope st) f (.ref c) A outer s H E) (defBody st) t ∧ t { nx := fun _ H' => Q .non H', rt := Q } (start N vs) H) : FnD Pg w K mg base CX (k + 1) f fd ps sp := by
  obtain ⟨oc, od, kV, doc, pm, an, ct, osl, rfl, lk, hcd⟩ := F.ex
  refine ⟨len, ?_⟩
  intro A outer s H args us vs Q E hr hg e0 hb r hsp
  have hl := len _ _ _ _ hsp
  have kp : ∀ b o, base.get? b = some o → s.heap.get? b = some o := fun b o z => (e0.bs b o z).1
  have pk : ∀ y ∈ ps.zip us, (defScope st).names.lookup y.1 = some .local ∨ ((defScope st).names.lookup y.1 = some .cell ∧ ((cellsFrom (s.heap.objs.size + 1) (defScope st).names []).lookup y.1).isSome = true) := fun y hy =>
    (S.par y.1 (List.of_mem_zip hy).1).imp id fun q => ⟨q, PySem.W.cellsFrom_some _ _ _ (.inl q)⟩
  have KX := e0.mod.kin.keeps kp
  refine codeAny_call_function hr.depth (KX _ _ lk) rfl S.co S.gen rfl (PySem.W.codeRec_of KX hcd) (hb _ _ _ _ (wpAny_newFunctionEnv_cells S.kind pk fun env he s1 x1 => ?_))
  subst he
  obtain ⟨t, ht, hq⟩ := body A outer s H vs Q E (hr.deeper _) hg hsp
  have I := inv_start (CX := CX) (E := E) (cd := .ref c) (f := f) (qual := x) (us := us) S hr.hd e0 hl r x1
  refine ⟨(e0.mod.nolimit.keeps kp).keeps x1.toInCall.keep, codeAny_func (wpAny_mono (ht.run [] s1 _ H _ I hq) (fun fl s' hs => ?_) fun _ _ z => z)⟩
  match fl, hs with
  | .ret u, ⟨v, σ', H', J, rv, q⟩ => exact ⟨v, H', J.os, J.bare, J.base, J.hok, rv, q⟩
  | .next, ⟨σ', H', J, q⟩ => exact ⟨V.non, H', J.os, J.bare, J.base, J.hok, rfl, q⟩
  | .brk, ⟨_, _, _, q⟩ => exact q.elim
  | .cont, ⟨_, _, _, q⟩ => exact q.elim
theorem FnD.okC0 (F : DfC K mg x st ps f fd c) (S : FnScope N ps (defScope st)) (len : ∀ vs H Q E, sp vs H Q E → vs.length = ps.length)
    (body : ∀ (A : Around) (outer : List Env) (s : Shared) (H : Hp) (vs : List V) (Q : VK) (E : XK), Room k (A.deeper (envOfC x (defScope st) s.heap.objs.size f (.ref c))) → (A.deeper (envOfC x (defScope st) s.heap.objs.size f (.ref c))).guards = some [] → sp vs H Q E →
      ∃ t, PSs (cxOf CX0 Pg w K mg base N x (defScope st) f (.ref c) A outer s H E).nox (defBody st) t ∧ t { nx := fun _ H' => Q .non H', rt := Q } (start N vs) H) : FnD Pg w K mg base CX0 (k + 1) f fd ps sp :=
  FnD.okC F S len fun A outer s H vs Q E hr hg hsp => by
    obtain ⟨t, h, q⟩ := body A outer s H vs Q E hr hg hsp
    exact ⟨t, h.nox, q⟩
end
section
variable {Z : Zw} {x : Str} {st : Stmt} {f c : Addr} {fd : FuncData} {N ps : List Str} {k : Nat} {T : TD}
/-- a def that makes functions, and lets nothing out -/
theorem okDC {t : (Nat → Addr) → DTS} (F : DfC Z.K Z.mg x st ps f fd c) (S : FnScope N ps (defScope st)) (len : ∀ as Q er, T as Q er → as.length = ps.length)
    (h : ∀ (A : Around) (outer : List Env) (s : Shared) (H : Hp) (E : XK) (G0 : Hp) (ca : Nat → Addr), Room k (A.deeper (envOfC x (defScope st) s.heap.objs.size f (.ref c))) → (A.deeper (envOfC x (defScope st) s.heap.objs.size f (.ref c))).guards = some [] → ca = caOf (cxOf CX0 Z.Pg Z.w Z.K Z.mg Z.base N x (defScope st) f (.ref c) A outer s H E).nox →
      DSs Z.T G0 ps.length (cxOf CX0 Z.Pg Z.w Z.K Z.mg Z.base N x (defScope st) f (.ref c) A outer s H E).nox (defBody st) (t ca))
    (hq : ∀ ca as Q er, T as Q er → t ca (endsOf as Q) (start0 (N.length - ps.length) as)) : FnD Z.Pg Z.w Z.K Z.mg Z.base CX0 (k + 1) f fd ps (spT Z T) :=
  FnD.okC0 F S (spT_len len) fun A outer s H vs Q E hr hg ⟨G, as, Q0, er, tb, R, hT, hQ, _⟩ => ⟨_, h A outer s H E G _ hr hg rfl, body_read tb R (by
    have := R.len
    rw [List.length_map] at this
    exact this.trans (len _ _ _ hT)) (hq _ _ _ _ hT) hQ⟩
end
/-- what is told of an error that is caught -/
structure ErC (K : PySem.W.Frag) (mg : Str → Option Value) (x an : Str) (C : Addr) : Prop where
  xf : XfC K C
  is : SoC.IsC K C
  na : PySem.W.findIn K (.ref C) an = some none
  te : PySem.W.exmOne K (.ref C) (.ref C) = some true
  g : mg x = some (.ref C)
def kdIn (K : PySem.W.Frag) : Bool := K.all fun p => p.2.dict.isNone || !(p.2.cls == Value.type "tuple")
theorem kd_of : ∀ {K : PySem.W.Frag}, kdIn K = true → ∀ (p : Addr) (ob : Obj), K.lookup p = some ob → ob.cls = .type "tuple" → ob.dict = none
  | [], _, p, ob, h, _ => nomatch h
  | (a, o) :: K, k, p, ob, h, hc => by
    unfold kdIn at k
    rw [List.all_cons, Bool.and_eq_true] at k
    rw [List.lookup_cons] at h
    split at h
    · cases h
      have k1 := k.1
      rw [hc] at k1
      cases e : o.dict with
      | none => rfl
      | some d =>
        dsimp only at k1
        rw [e] at k1
        rw [show (Value.type "tuple" == Value.type "tuple") = true by decide] at k1
        exact nomatch k1
    · exact kd_of (K := K) k.2 p ob h hc
/-- is_label's table has grown -/
theorem Rep.tabbed {K : Zw} {F : List (Addr × HO)} {G H H' : Hp} {ρ : Sto} {σ : L2.St} (ap : Apt K.T) (t : Tg G K.T) (R : Rep K F G ρ σ H) (g : GxR.Tabbed K.T.P H H') : ∃ G', Ex K.T G G' ∧ Rep K F G' ρ σ H' := by
  obtain ⟨⟨ps, h1, h2⟩, t2⟩ := t
  have hP := R.sub _ _ h1
  have gt : GxR.Tabbed K.T.P G (fun b => if b = K.T.P then H' K.T.P else G b) := by
    refine ⟨?_, fun b nb => if_neg nb⟩
    obtain ⟨qs, a, b⟩ := g.1
    exact ⟨qs, (if_pos rfl).trans a, b⟩
  have sx : Ex K.T G (fun b => if b = K.T.P then H' K.T.P else G b) := Ex.tabbed ap ⟨⟨ps, h1, h2⟩, t2⟩ gt
  refine ⟨_, sx, R.pastC sx (fun b o e => ?_) (fun b o e => ?_) fun b w => ?_⟩
  · split at e
    · rename_i z
      rw [z]
      exact e
    · rename_i z
      rw [g.2 b z]
      exact R.sub b o e
  · split at e
    · obtain ⟨qs, a, _⟩ := g.1
      rw [a] at e
      cases e
      trivial
    · exact R.nt b o e
  · have ne : b ≠ K.T.P := fun z => by
      rcases w with ⟨i, c, e⟩ | ⟨o, m⟩
      · have := (R.ob e).2.1
        rw [z, h1] at this
        cases this
      · have := (R.ex m).2.1
        rw [z, h1] at this
        cases this
    refine ⟨g.2 b ne, ?_⟩
    show (if b = K.T.P then H' K.T.P else G b) = none
    rw [if_neg ne]
    rcases w with ⟨i, c, e⟩ | ⟨o, m⟩
    · exact (R.ob e).2.1
    · exact (R.ex m).2.1
theorem rep_dp1 {Z : Zw} {G H : Hp} {v : V} {D : PyData} (R : Rep Z [] G [.sh D] [some v] H) : Dw Z G v D := by
  obtain ⟨v', h1, h2⟩ := R.sh (i := 0) rfl
  cases h1
  exact h2
theorem one_arg {vs : List V} {lc : Lc} {Z : Zw} {F : List (Addr × HO)} {G H : Hp} (R : Rep Z F G [lc] (vs.map some) H) : ∃ v, vs = [v] := by
  have := R.len
  rw [List.length_map] at this
  match vs, this with
  | [v], _ => exact ⟨v, rfl⟩
theorem two_args {vs : List V} {a b : Lc} {Z : Zw} {F : List (Addr × HO)} {G H : Hp} (R : Rep Z F G [a, b] (vs.map some) H) : ∃ v w, vs = [v, w] := by
  have := R.len
  rw [List.length_map] at this
  match vs, this with
  | [v, w], _ => exact ⟨v, w, rfl⟩
def spBx (K : PySem.W.Frag) : Sp := fun vs H Q _ => ∃ (a : Addr) (ns : List Int) (k : Nat), vs = [.ref a, .int (k : Int)] ∧ SqL K H a (ns.map V.int) ∧ ns.length ≤ 1000000 ∧ k < 1000000000 ∧ ∀ (q : Addr) (g s : Int), 0 ≤ g → 0 ≤ s → s ≤ 2147483648 → H q = none → Q (.ref q) (upd H q (.lst [.int g, .int s]))
/-- a box of the draws' from a script of whole numbers -/
def Tbox : TDO := fun as Q _ => ∃ (ns : List Int) (k : Nat), as = [.sh (.list (ns.map .int)), .sh (.int (k : Int))] ∧ ns.length ≤ 1000000 ∧ k < 1000000000 ∧ Q .box as
theorem box_T {Z : Zw} {CX : CXT} {k : Nat} {f : Addr} {fd : FuncData} {ps : List Str} (F : FnD Z.Pg Z.w Z.K Z.mg Z.base CX k f fd ps (spBx Z.K)) : FnD Z.Pg Z.w Z.K Z.mg Z.base CX k f fd ps (spO Z Tbox) :=
  F.imp fun vs H Q E ⟨G, as, Q0, er, t, R, ⟨ns, m, e, l, lm, q⟩, hQ, _⟩ => by
    subst e
    obtain ⟨v1, v2, rfl⟩ := two_args R
    obtain ⟨u1, e1, d1⟩ := R.sh (i := 0) rfl
    obtain ⟨u2, e2, d2⟩ := R.sh (i := 1) rfl
    cases e1
    cases e2
    cases d2
    cases d1 with
    | @lst _ a xs ds sq da =>
      have ex := dpa_ints da
      subst ex
      refine ⟨a, ns, m, rfl, (R.sm t).lst sq, l, lm, fun p g s h1 h2 h3 hp => hQ .box _ p _ G _ q (.sh (.sh .nil)) (Ex.refl t) (R.push (o := .lst [.int g, .int s]) hp).noF upd_same (R.gnone hp) (fun ⟨i, c, e⟩ => ?_) ⟨g, s, rfl, h1, h2, h3⟩⟩
      match i, e with
      | 0, e => cases e
      | 1, e => cases e
      | i + 2, e => simp at e
def spTak : Sp := fun vs H Q _ => ∃ (b : Addr) (n g s : Int), vs = [.ref b, .int n] ∧ (H b = some (.lst [.int g, .int s]) ∧ 0 ≤ g ∧ 0 ≤ s ∧ s ≤ 2147483648) ∧ 0 < n ∧ n < 1000000000 ∧ ∀ (r g' s' : Int), 0 ≤ r → r < n → 0 ≤ g' → 0 ≤ s' → s' ≤ 2147483648 → Q (.int r) (upd H b (.lst [.int g', .int s']))
/-- a number that is drawn -/
def Ttake : TD := fun as Q _ => match as with
  | [.ob b .box, .sh (.int n)] => 0 < n ∧ n < 1000000000 ∧ ∀ r : Int, 0 ≤ r → r < n → Q (.int r) [.ob b .box, .sh (.int n)]
  | _ => False
theorem take_T {Z : Zw} {CX : CXT} {k : Nat} {f : Addr} {fd : FuncData} {ps : List Str} (F : FnD Z.Pg Z.w Z.K Z.mg Z.base CX k f fd ps spTak) : FnD Z.Pg Z.w Z.K Z.mg Z.base CX k f fd ps (spT Z Ttake) :=
  F.imp fun vs H Q E ⟨G, as, Q0, er, t, R, h, k, _⟩ => by
    unfold Ttake at h
    split at h
    · rename_i b n
      obtain ⟨h1, h2, h⟩ := h
      obtain ⟨u, v, rfl⟩ := two_args R
      obtain ⟨e1, gb, o, eo, g, s, rfl, g0, s0, s1⟩ := R.ob (i := 0) rfl
      obtain ⟨x, e2, d⟩ := R.sh (i := 1) rfl
      cases e1
      cases e2
      cases d
      refine ⟨b, n, g, s, rfl, ⟨eo, g0, s0, s1⟩, h1, h2, fun r g' s' r0 r1 a0 b0 b1 => ?_⟩
      exact k (.int r) _ _ G _ (h r r0 r1) (.ob (.sh .nil)) (Ex.refl t) (R.put (i := 0) rfl ⟨g', s', rfl, a0, b0, b1⟩) (.int _)
    · exact h.elim
theorem Sub.refl (H : Hp) : Sub H H := fun _ _ e => e
theorem Sub.trans {H H1 H2 : Hp} (a : Sub H H1) (b : Sub H1 H2) : Sub H H2 := fun c o e => b c o (a c o e)
theorem Sub.new {H : Hp} {p : Addr} {o : HO} (h : H p = none) : Sub H (upd H p o) := fun c u e => by rw [upd_ne (ne_of_none e h)]; exact e
theorem Sub.mut {H H1 : Hp} {p : Addr} {o : HO} (s : Sub H H1) (h : H p = none) : Sub H (upd H1 p o) := fun c u e => by rw [upd_ne (ne_of_none e h)]; exact s c u e
theorem Sub.tup {K : PySem.W.Frag} {H H1 : Hp} {a : Addr} {xs : List V} (s : Sub H H1) (h : SqT K H a xs) : SqT K H1 a xs := sqt_ext (LamX.ExtN.of s) h
theorem Rep.sup {Z : Zw} {G H H' : Hp} {as : List Lc} {σ : L2.St} (R : Rep Z [] G as σ H) (no : ∀ (i : Nat) (a : Addr) (c : Oc), as[i]? ≠ some (.ob a c)) (t : Tg G Z.T) (s : Sub H H') : Rep Z [] G as σ H' := R.pastC (Ex.refl t) (R.sub.trans s) R.nt fun b w => by
  rcases w with ⟨i, c, e⟩ | ⟨o, m⟩
  · exact absurd e (no i b c)
  · exact absurd m List.not_mem_nil
theorem no_sh1 {D : PyData} : ∀ (i : Nat) (a : Addr) (c : Oc), [Lc.sh D][i]? ≠ some (.ob a c) := fun i a c e => by
  match i, e with
  | 0, e => cases e
  | i + 1, e => simp at e
end Dl
set_option Elab.async false
set_option linter.all false
set_option maxRecDepth 100000
set_option maxHeartbeats 4000000
namespace Dl
open PySem PySem.Spec PyProof PyProof.Rows L2 So Da
section
variable {K : Zw} {G H : Hp} {ρ : Sto} {σ : L2.St} {L : List Addr} {cv : Addr → List V} {a p : Addr} {ys : List V}
end
/-- nothing need be known of slots -/
theorem Rep.less {K : Zw} {F : List (Addr × HO)} {G H : Hp} {ρ ρ' : Sto} {σ : L2.St} (R : Rep K F G ρ σ H) (l : ρ'.length = ρ.length) (h : ∀ (i : Nat) (lc : Lc), ρ'[i]? = some lc → lc = .un ∨ ρ[i]? = some lc) : Rep K F G ρ' σ H :=
  ⟨R.len.trans l.symm, fun e => R.sh ((h _ _ e).resolve_left fun z => nomatch z), fun e => R.ob ((h _ _ e).resolve_left fun z => nomatch z), fun e => R.exc ((h _ _ e).resolve_left fun z => nomatch z), fun e => R.ask ((h _ _ e).resolve_left fun z => nomatch z),
    fun e e' => R.uniq ((h _ _ e).resolve_left fun z => nomatch z) ((h _ _ e').resolve_left fun z => nomatch z), fun m => ⟨(R.ex m).1, (R.ex m).2.1, fun ⟨i, c, e⟩ => (R.ex m).2.2.1 ⟨i, c, (h _ _ e).resolve_left fun z => nomatch z⟩, (R.ex m).2.2.2⟩, R.sub, R.nt⟩
end Dl
set_option Elab.async false
set_option linter.all false
set_option maxRecDepth 100000
set_option maxHeartbeats 4000000
namespace Dl
open PySem PySem.Spec PyProof PyProof.Rows L2 So Da
theorem errL_no {K : Zw} {G : Hp} : ErrL K G (fun _ _ _ => False) (fun _ => False) := fun _ _ _ _ _ _ q _ _ _ _ _ => q
theorem passes_no {X : Cx} : Passes (L2.CX X.prog X.w) X (fun _ _ _ => False) := fun _ _ _ _ _ _ _ ⟨_, _, _, _, _, _, _, _, _, _, _, _, q⟩ => q.elim
theorem free_by {X : Cx} {scope sc : Scope} (h : X.env.scope = sc) (b : (scope.names.all fun y => !decide (y.2 = .free) || decide (sc.names.lookup y.1 = some .cell)) = true) : ∀ y ∈ scope.names, y.2 = .free → X.env.scope.names.lookup y.1 = some .cell := fun y hy e => by
  have := List.all_eq_true.mp b y hy
  rw [e, decide_eq_true rfl, Bool.not_true, Bool.false_or] at this
  rw [h]
  exact of_decide_eq_true this
/-- what stood in slot i is given up -/
theorem ds_drop {P : Tb} {G0 : Hp} {n : Nat} {X : Cx} {st : Stmt} {t : DTS} (i : Nat) (hi : n ≤ i) (h : DS P G0 n X st t) : DS P G0 n X st (fun D ρ => t D (ρ.set i .un)) := ps_weak h fun D σ H ⟨ρ, G, D0, s, R, h, k⟩ => by
  have R' : Rep (zOf X P) [] G (ρ.set i .un) σ H := R.less (List.length_set ..) fun j lc e => by
    rcases set_get e with ⟨_, z, _⟩ | ⟨_, e⟩
    · exact .inl z
    · exact .inr e
  exact ⟨_, G, D0, s, R', h, k.after (Ex.refl s.2) fun j a c hj e => ⟨c, by rw [List.getElem?_set_ne (by omega)]; exact e⟩⟩
theorem dSeq_go {t u : DTS} {nx bk ct : Sto → Prop} {rt : PyData → Sto → Prop} {ro : Oc → Sto → Prop} {ρ : Sto} (h : ∀ N : Sto → Prop, N = u ⟨nx, rt, bk, ct, ro⟩ → t ⟨N, rt, bk, ct, ro⟩ ρ) : dSeq t u ⟨nx, rt, bk, ct, ro⟩ ρ := h _ rfl
theorem dSeq_for {ti : DTI} {g : DTG} {tb u : DTS} {nx bk ct : Sto → Prop} {rt : PyData → Sto → Prop} {ro : Oc → Sto → Prop} {ρ : Sto} (h : ∀ (B : DTS) (N : Sto → Prop), B = tb → N = u ⟨nx, rt, bk, ct, ro⟩ → ti ρ fun ds ρ1 => forW g B ⟨N, rt, bk, ct, ro⟩ ds ρ1) : dSeq (dFor ti g tb) u ⟨nx, rt, bk, ct, ro⟩ ρ := h _ _ rfl rfl
/-- a loop by what holds at its head; a turn's end is K -/
theorem forW_go {g : DTG} {tb : DTS} {D : EndsD} (J : List PyData → Sto → Prop) (hn : ∀ ρ, J [] ρ → D.nx ρ)
    (hc : ∀ (K : Sto → Prop) d ds ρ, J (d :: ds) ρ → (∀ ρ', J ds ρ' → K ρ') → g d ρ fun ρ' => tb ⟨K, D.rt, D.nx, K, D.ro⟩ ρ') : ∀ ds ρ, J ds ρ → forW g tb D ds ρ
  | [], ρ, h => hn ρ h
  | d :: ds, ρ, h => hc (forW g tb D ds) d ds ρ h fun ρ' j => forW_go J hn hc ds ρ' j
end Dl
set_option Elab.async false
set_option linter.all false
set_option maxRecDepth 100000
set_option maxHeartbeats 4000000
namespace Dl
open PySem PySem.Spec PyProof PyProof.Rows L2 So Da
def lgB (d : PyData) : Bool := d.showable && !d.hasDict && decide (d.depth = 0) && d.leavesShort 13 && decide (d.weight ≤ 12)
theorem lg_ints : (List.range 2000).all (fun n => lgB (.int (n : Nat))) = true := by decide +kernel
theorem lg_bool (b : Bool) : lgB (.bool b) = true := by cases b <;> decide +kernel
structure GD (h W : Nat) (d : PyData) : Prop where
  sh : d.showable = true
  di : d.hasDict = false
  de : d.depth ≤ h
  le : d.leavesShort 13 = true
  we : d.weight ≤ W
theorem gd_leaf {d : PyData} (h : lgB d = true) : GD 0 12 d := by
  unfold lgB at h
  simp only [Bool.and_eq_true, decide_eq_true_eq, Bool.not_eq_true'] at h
  obtain ⟨⟨⟨⟨h1, h2⟩, h3⟩, h4⟩, h5⟩ := h
  exact ⟨h1, h2, by omega, h4, h5⟩
theorem gd_all {h W : Nat} : ∀ {ds : List PyData}, (∀ d ∈ ds, GD h W d) → PyData.showableAll ds = true ∧ PyData.hasDictAll ds = false ∧ PyData.depthAll ds ≤ h ∧ PyData.leavesShortAll 13 ds = true ∧ PyData.weightAll ds ≤ ds.length * (W + 1)
  | [], _ => ⟨rfl, rfl, Nat.zero_le _, rfl, Nat.zero_le _⟩
  | d :: ds, q => by
    obtain ⟨a1, a2, a3, a4, a5⟩ := gd_all (ds := ds) fun x hx => q x (List.mem_cons_of_mem _ hx)
    obtain ⟨b1, b2, b3, b4, b5⟩ := q d (List.mem_cons_self ..)
    refine ⟨?_, ?_, ?_, ?_, ?_⟩
    · simp only [PyData.showableAll, a1, b1, Bool.and_self]
    · simp only [PyData.hasDictAll, a2, b2, Bool.or_self]
    · simp only [PyData.depthAll]
      exact Nat.max_le.mpr ⟨b3, a3⟩
    · simp only [PyData.leavesShortAll, a4, b4, Bool.and_self]
    · simp only [PyData.weightAll, List.length_cons, Nat.succ_mul]
      omega
theorem gd_tup {h W n : Nat} {ds : List PyData} (q : ∀ d ∈ ds, GD h W d) (l : ds.length ≤ n) : GD (h + 1) (n * (W + 1)) (.tuple ds) := by
  obtain ⟨a1, a2, a3, a4, a5⟩ := gd_all q
  exact ⟨a1, a2, Nat.succ_le_succ a3, a4, Nat.le_trans a5 (Nat.mul_le_mul_right _ l)⟩
theorem gd_lst {h W n : Nat} {ds : List PyData} (q : ∀ d ∈ ds, GD h W d) (l : ds.length ≤ n) : GD (h + 1) (n * (W + 1)) (.list ds) := by
  obtain ⟨a1, a2, a3, a4, a5⟩ := gd_all q
  exact ⟨a1, a2, Nat.succ_le_succ a3, a4, Nat.le_trans a5 (Nat.mul_le_mul_right _ l)⟩
theorem gd_fits {h W : Nat} {d : PyData} (g : GD h W d) (w : W ≤ 1000000) : d.shown.length ≤ sizeLine :=
  PyData.shown_fits (B := 13) (by decide) (by decide) g.le (Nat.le_trans g.we (Nat.le_trans w (by decide)))
theorem gd_nat {n : Nat} (h : n < 2000) : GD 0 12 (.int (n : Nat)) := gd_leaf (List.all_eq_true.mp lg_ints n (List.mem_range.mpr h))
theorem rep_gdT {h W : Nat} {ds : List PyData} (g : GD h W (.tuple ds)) (a : h ≤ 60) (b : W ≤ 1000000) : repOk (.tuple ds) := ⟨g.sh, g.di, Nat.le_trans g.de a, gd_fits g b⟩
theorem rep_gdL {h W : Nat} {ds : List PyData} (g : GD h W (.list ds)) (a : h ≤ 60) (b : W ≤ 1000000) : repOk (.list ds) := ⟨g.sh, g.di, Nat.le_trans g.de a, gd_fits g b⟩
theorem ix_nat {ds : List PyData} {j : Nat} {d : PyData} {Q : PyData → Prop} (e : ds[j]? = some d) : ixD (.list ds) (.int (j : Nat)) Q = Q d := by
  unfold ixD
  simp only [atI_nat e]
theorem ix_natT {ds : List PyData} {j : Nat} {d : PyData} {Q : PyData → Prop} (e : ds[j]? = some d) : ixD (.tuple ds) (.int (j : Nat)) Q = Q d := by
  unfold ixD
  simp only [atI_nat e]
theorem ix_L0 {a : PyData} {l : List PyData} {Q : PyData → Prop} : ixD (.list (a :: l)) (.int 0) Q = Q a := by
  unfold ixD
  simp only [at_0]
theorem ix_L1 {a b : PyData} {l : List PyData} {Q : PyData → Prop} : ixD (.list (a :: b :: l)) (.int 1) Q = Q b := by
  unfold ixD
  simp only [at_1]
theorem ix_L2 {a b c : PyData} {l : List PyData} {Q : PyData → Prop} : ixD (.list (a :: b :: c :: l)) (.int 2) Q = Q c := by
  unfold ixD
  simp only [at_2]
theorem lay_all {ds : List PyData} (h : ∀ d ∈ ds, d.canLay0 = true) : PyData.canLayAll0 ds = true := by
  induction ds with
  | nil => rfl
  | cons d ds ih =>
    unfold PyData.canLayAll0
    rw [h d List.mem_cons_self, ih fun x m => h x (List.mem_cons_of_mem _ m)]
    rfl
theorem lay_tup {ds : List PyData} (h : ∀ d ∈ ds, d.canLay0 = true) : (PyData.tuple ds).canLay0 = true := by
  unfold PyData.canLay0
  exact lay_all h
theorem lay_lst {ds : List PyData} (h : ∀ d ∈ ds, d.canLay0 = true) : (PyData.list ds).canLay0 = true := by
  unfold PyData.canLay0
  exact lay_all h
theorem eqD_int {i j : Int} {Q : PyData → Prop} : eqD (.int i) (.int j) Q = Q (.bool (decide (i = j))) := rfl
theorem eqD_str {i j : Str} {Q : PyData → Prop} : eqD (.str i) (.str j) Q = Q (.bool (decide (i = j))) := rfl
theorem eqD_bl {i j : Bool} {Q : PyData → Prop} : eqD (.bool i) (.bool j) Q = Q (.bool (decide (i = j))) := rfl
theorem eqD_tuple {ds : List PyData} {y : PyData} {Q : PyData → Prop} : eqD (.tuple ds) y Q = (SeqAt.shaped (.tuple ds) = true ∧ SeqAt.shaped y = true ∧ Q (.bool (PyData.eqv (.tuple ds) y))) := rfl
theorem eqD_tupleR {ds : List PyData} {x : PyData} {Q : PyData → Prop} : eqD x (.tuple ds) Q = (SeqAt.shaped x = true ∧ SeqAt.shaped (.tuple ds) = true ∧ Q (.bool (PyData.eqv x (.tuple ds)))) := by cases x <;> rfl
theorem eqD_list {ds : List PyData} {y : PyData} {Q : PyData → Prop} : eqD (.list ds) y Q = (SeqAt.shaped (.list ds) = true ∧ SeqAt.shaped y = true ∧ Q (.bool (PyData.eqv (.list ds) y))) := rfl
theorem eqD_listR {ds : List PyData} {x : PyData} {Q : PyData → Prop} : eqD x (.list ds) Q = (SeqAt.shaped x = true ∧ SeqAt.shaped (.list ds) = true ∧ Q (.bool (PyData.eqv x (.list ds)))) := by cases x <;> rfl
theorem eqD_non {y : PyData} {Q : PyData → Prop} : eqD .none y Q = (SeqAt.shaped .none = true ∧ SeqAt.shaped y = true ∧ Q (.bool (PyData.eqv .none y))) := rfl
theorem eqD_of {x y : PyData} {Q : PyData → Prop} (sx : SeqAt.shaped x = true) (sy : SeqAt.shaped y = true) (q : Q (.bool (PyData.eqv x y))) : eqD x y Q := by
  unfold eqD
  split
  · rename_i i j
    rw [show PyData.eqv (.int i) (.int j) = decide (i = j) from Bool.eq_iff_iff.mpr (by simp [PyData.eqv])] at q
    exact q
  · rename_i i j
    rw [show PyData.eqv (.str i) (.str j) = decide (i = j) from Bool.eq_iff_iff.mpr (by simp [PyData.eqv])] at q
    exact q
  · rename_i i j
    rw [show PyData.eqv (.bool i) (.bool j) = decide (i = j) from Bool.eq_iff_iff.mpr (by simp [PyData.eqv])] at q
    exact q
  · exact ⟨sx, sy, q⟩
theorem neD_int {i j : Int} {Q : PyData → Prop} : neD (.int i) (.int j) Q = Q (.bool (!decide (i = j))) := rfl
theorem neD_str {i j : Str} {Q : PyData → Prop} : neD (.str i) (.str j) Q = Q (.bool (!decide (i = j))) := rfl
theorem neD_bl {i j : Bool} {Q : PyData → Prop} : neD (.bool i) (.bool j) Q = Q (.bool (!decide (i = j))) := rfl
theorem neD_tuple {ds : List PyData} {y : PyData} {Q : PyData → Prop} : neD (.tuple ds) y Q = (SeqAt.shaped (.tuple ds) = true ∧ SeqAt.shaped y = true ∧ Q (.bool (!PyData.eqv (.tuple ds) y))) := rfl
theorem neD_tupleR {ds : List PyData} {x : PyData} {Q : PyData → Prop} : neD x (.tuple ds) Q = (SeqAt.shaped x = true ∧ SeqAt.shaped (.tuple ds) = true ∧ Q (.bool (!PyData.eqv x (.tuple ds)))) := by cases x <;> rfl
theorem neD_list {ds : List PyData} {y : PyData} {Q : PyData → Prop} : neD (.list ds) y Q = (SeqAt.shaped (.list ds) = true ∧ SeqAt.shaped y = true ∧ Q (.bool (!PyData.eqv (.list ds) y))) := rfl
theorem neD_listR {ds : List PyData} {x : PyData} {Q : PyData → Prop} : neD x (.list ds) Q = (SeqAt.shaped x = true ∧ SeqAt.shaped (.list ds) = true ∧ Q (.bool (!PyData.eqv x (.list ds)))) := by cases x <;> rfl
theorem neD_non {y : PyData} {Q : PyData → Prop} : neD .none y Q = (SeqAt.shaped .none = true ∧ SeqAt.shaped y = true ∧ Q (.bool (!PyData.eqv .none y))) := rfl
theorem neD_of {x y : PyData} {Q : PyData → Prop} (sx : SeqAt.shaped x = true) (sy : SeqAt.shaped y = true) (q : Q (.bool (!PyData.eqv x y))) : neD x y Q := by
  unfold neD
  split
  · rename_i i j
    rw [show PyData.eqv (.int i) (.int j) = decide (i = j) from Bool.eq_iff_iff.mpr (by simp [PyData.eqv])] at q
    exact q
  · rename_i i j
    rw [show PyData.eqv (.str i) (.str j) = decide (i = j) from Bool.eq_iff_iff.mpr (by simp [PyData.eqv])] at q
    exact q
  · rename_i i j
    rw [show PyData.eqv (.bool i) (.bool j) = decide (i = j) from Bool.eq_iff_iff.mpr (by simp [PyData.eqv])] at q
    exact q
  · exact ⟨sx, sy, q⟩
theorem eqD_S {d : PyData} {z : Str} {Q : PyData → Prop} (hd : SeqAt.shaped d = true) (hz : PyData.strOk z = true) (q : Q (.bool (isS d z))) : eqD d (.str z) Q := by
  have e : PyData.eqv d (.str z) = isS d z := eqv_str d z
  refine eqD_of hd ?_ (by rw [e]; exact q)
  unfold SeqAt.shaped
  simp only [PyData.canLay0, hz, Bool.true_and]
  rfl
/-- .. and can be laid -/
def GL (h W : Nat) (d : PyData) : Prop := GD h W d ∧ d.canLay0 = true
theorem gl_nat {n : Nat} (h : n < 2000) : GL 0 12 (.int (n : Nat)) := ⟨gd_nat h, rfl⟩
theorem gl_bool (b : Bool) : GL 0 12 (.bool b) := ⟨gd_leaf (lg_bool b), rfl⟩
theorem gl_tup {h W : Nat} (n : Nat) {ds : List PyData} (q : ∀ d ∈ ds, GL h W d) (l : ds.length ≤ n) : GL (h + 1) (n * (W + 1)) (.tuple ds) := ⟨gd_tup (fun d m => (q d m).1) l, lay_tup fun d m => (q d m).2⟩
theorem gl_lst {h W : Nat} (n : Nat) {ds : List PyData} (q : ∀ d ∈ ds, GL h W d) (l : ds.length ≤ n) : GL (h + 1) (n * (W + 1)) (.list ds) := ⟨gd_lst (fun d m => (q d m).1) l, lay_lst fun d m => (q d m).2⟩
theorem gl_mapT {α : Type} {h W : Nat} (n : Nat) {l : List α} {f : α → PyData} (q : ∀ a ∈ l, GL h W (f a)) (len : l.length ≤ n) : GL (h + 1) (n * (W + 1)) (.tuple (l.map f)) := gl_tup n (fun d m => by
  obtain ⟨a, ma, rfl⟩ := List.mem_map.mp m
  exact q a ma) (by rw [List.length_map]; exact len)
theorem gl_all1 {h W : Nat} {a : PyData} (p : GL h W a) : ∀ d ∈ [a], GL h W d := fun d m => by
  rw [List.mem_singleton.mp m]
  exact p
theorem gl_allc {h W : Nat} {a : PyData} {l : List PyData} (p : GL h W a) (q : ∀ d ∈ l, GL h W d) : ∀ d ∈ a :: l, GL h W d := fun d m => by
  rcases List.mem_cons.mp m with rfl | m
  · exact p
  · exact q d m
theorem gl_repT {h W : Nat} {ds : List PyData} (g : GL h W (.tuple ds)) (a : h ≤ 60) (b : W ≤ 1000000) : repOk (.tuple ds) := rep_gdT g.1 a b
theorem gl_repL {h W : Nat} {ds : List PyData} (g : GL h W (.list ds)) (a : h ≤ 60) (b : W ≤ 1000000) : repOk (.list ds) := rep_gdL g.1 a b
end Dl
set_option Elab.async false
set_option linter.all false
set_option maxRecDepth 100000
set_option maxHeartbeats 4000000
namespace SoG
open PySem PySem.Spec PyProof.Rows L2 So
/-- a law's def where it is called from outside: there nothing is under way -/
def GOk (Pg : Program) (w : World) (K : PySem.W.Frag) (mg : Str → Option Value) (base : Heap) (f : Addr) (fd : FuncData) (sp : Sp) : Prop :=
  ∀ (s : Shared) (H : Hp) (u : Value) (v : V) (Q : VK) (E : XK), Env0 Pg w K mg base callerA [] s H → BindsTo s fd ⟨[u], []⟩ [("script", u)] → RelV v u → sp [v] H Q E → codeAny (model Pg w) callerA (.call (.ref f) ⟨[u], []⟩) (CR CX0 [] Pg w H s Q E) s
section
variable {Pg : Program} {w : World} {K : PySem.W.Frag} {mg : Str → Option Value} {base : Heap}
end
end SoG
set_option Elab.async false
set_option linter.all false
set_option maxRecDepth 100000
set_option maxHeartbeats 4000000
namespace SoG3
open PySem PySem.Spec PyProof.Rows L2 So SoG
noncomputable def h0 (K : PySem.W.Frag) (a : Addr) (Ts : List Addr) (o : Obj) (xs : List V) : Hp := fun b =>
  if b ∈ Ts then some (.tbl #[]) else if b = a ∧ K.lookup a = none then some (.frz o (.lst xs)) else none
section
variable {K : PySem.W.Frag} {a : Addr} {Ts : List Addr} {o : Obj} {xs : List V}
theorem h0_T {T : Addr} (m : T ∈ Ts) : h0 K a Ts o xs T = some (.tbl #[]) := if_pos m
theorem h0_a (n : a ∉ Ts) (h : K.lookup a = none) : h0 K a Ts o xs a = some (.frz o (.lst xs)) := (if_neg n).trans (if_pos ⟨rfl, h⟩)
theorem h0_one {b : Addr} {u : HO} (h : h0 K a Ts o xs b = some u) : (b ∈ Ts ∧ u = .tbl #[]) ∨ (b ∉ Ts ∧ b = a ∧ K.lookup a = none ∧ u = .frz o (.lst xs)) := by
  by_cases e : b ∈ Ts
  · exact .inl ⟨e, Option.some.inj (((if_pos e).symm.trans h).symm)⟩
  · have h' := (if_neg e).symm.trans h
    by_cases e2 : b = a ∧ K.lookup a = none
    · exact .inr ⟨e, e2.1, e2.2, Option.some.inj ((if_pos e2).symm.trans h').symm⟩
    · exact nomatch (if_neg e2).symm.trans h'
end
variable {Pg : Program} {w : World} {K : PySem.W.Frag} {mg mb : Str → Option Value} {fa a : Addr} {cs : List (Addr × Addr)} {fd : FuncData} {sp : Sp} {s : Shared} {vs : List Value} {ns : List Int}
/-- the law is called: what GOk says of it is the law's truth -/
theorem law_end (KX : K.In s.heap) (hG : s.heap.Ns mainGlobals mg) (hB : s.heap.Ns builtinsNs mb) (hBB : ∀ x : Str, x ≠ "__name__" → mb x = bootBuiltins x) (hL : s.heap.NoLimit) (hg : s.gens = #[])
    (tT : ∀ p ∈ cs, s.heap.get? p.2 = some { cls := .none, data := .fields #[] }) (nT : ∀ p ∈ cs, K.lookup p.2 = none) (Cd : ∀ p ∈ cs, PySem.W.CodeHd s.heap p.1 p.2)
    (bm : ∃ (m : Addr) (ob : Obj), mg "__builtins__" = some (.ref m) ∧ m ≠ builtinsNs ∧ s.heap.get? m = some ob ∧ ob.cls = .type "module" ∧ ob.dict = some builtinsNs ∧ ob.data = .plain)
    (ha : s.heap.get? a = some { cls := .type "list", data := .seq vs.toArray }) (hi : IntsAre vs ns) (hl : ns.length ≤ sizeLine)
    (F : ∀ base : Heap, K.In base → base.Ns mainGlobals mg → (∀ p ∈ cs, GxR.TabB base mg p.1 p.2) → GOk Pg w K mg base fa fd sp) (hb : ∀ (s : Shared) (u : Value), BindsTo s fd ⟨[u], []⟩ [("script", u)])
    (hsp : ∀ H : Hp, (∀ p ∈ cs, H p.2 = some (.tbl #[])) → SqL K H a (ns.map V.int) → sp [.ref a] H (fun v _ => v = .bl true) fun _ _ _ => False) :
    codeAny (model Pg w) callerA (.call (.ref fa) ⟨[.ref a], []⟩) (fun r s' => r = .ok (.ret (.bool true)) ∧ OldK s.heap s'.heap ∧ s'.os = s.os ∧ AllBare s'.gens) s := by
  have vi := vals_ints hi
  have lv := hi.length
  have memT : ∀ {b : Addr}, b ∈ cs.map (·.2) → ∃ p ∈ cs, p.2 = b := fun m => List.mem_map.mp m
  have tT' : ∀ {b : Addr}, b ∈ cs.map (·.2) → s.heap.get? b = some { cls := .none, data := .fields #[] } := fun m => by
    obtain ⟨p, hp, rfl⟩ := memT m
    exact tT p hp
  have nT' : ∀ {b : Addr}, b ∈ cs.map (·.2) → K.lookup b = none := fun m => by
    obtain ⟨p, hp, rfl⟩ := memT m
    exact nT p hp
  have aT : a ∉ cs.map (·.2) := fun z => by
    rw [tT' z] at ha
    exact nomatch congrArg Obj.data (Option.some.inj ha)
  obtain ⟨H, hH⟩ : ∃ H, H = h0 K a (cs.map (·.2)) { cls := .type "list", data := .seq vs.toArray } (ns.map V.int) := ⟨_, rfl⟩
  have free : ∀ {b : Addr} {ob : Obj}, s.heap.get? b = some ob → (∀ us n, ob.data ≠ .seq us n) → ob.data ≠ .fields #[] → H b = none := by
    intro b ob e n1 n2
    cases q : H b with
    | none => rfl
    | some u =>
      rw [hH] at q
      rcases h0_one q with ⟨m, _⟩ | ⟨_, rfl, _, _⟩
      · rw [tT' m] at e
        cases e
        exact absurd rfl n2
      · rw [ha] at e
        cases e
        exact absurd rfl (n1 _ _)
  have get : ∀ {b : Addr} {ob : Obj}, s.heap.get? b = some ob → H b = none → (hidT s.heap H).get? b = some ob := hidT_get
  have dic : ∀ {b : Addr} {ob : Obj} {es : Array DictEntry} {n : Nat}, s.heap.get? b = some ob → ob.data = .dict es n → (hidT s.heap H).get? b = some ob := fun e d =>
    get e (free e (fun _ _ z => nomatch d.symm.trans z) fun z => nomatch d.symm.trans z)
  have nsp : ∀ {b : Addr} {m : Str → Option Value}, s.heap.Ns b m → (hidT s.heap H).Ns b m := by
    rintro b m ⟨ob, es, n, e, d, rest⟩
    exact ⟨ob, es, n, dic e d, d, rest⟩
  have KH : K.In (hidT s.heap H) := by
    intro b ob e
    refine get (KX b ob e) ?_
    cases q : H b with
    | none => rfl
    | some u =>
      rw [hH] at q
      rcases h0_one q with ⟨m, _⟩ | ⟨_, rfl, na, _⟩
      · rw [nT' m] at e
        cases e
      · rw [na] at e
        cases e
  have tab : ∀ p ∈ cs, GxR.TabB (hidT s.heap H) mg p.1 p.2 := by
    intro p hp
    have tTp := tT p hp
    constructor
    · obtain ⟨ob, us, file, tf, flags, tg, inF, text, tt, e, r1, r2, r3, rest⟩ := Cd p hp
      refine ⟨ob, us, file, tf, flags, tg, inF, text, tt, get e (free e (fun _ _ z => nomatch r2.symm.trans z) fun z => ?_), r1, r2, r3, rest⟩
      cases r2.symm.trans z
      exact nomatch r3
    · obtain ⟨m, ob, b1, b2, b3, b4, b5, b6⟩ := bm
      refine ⟨m, ob, b1, b2, fun q => ?_, fun q => ?_, get b3 (free b3 (fun _ _ z => nomatch b6.symm.trans z) fun z => nomatch b6.symm.trans z), b4, b5, b6⟩
      · obtain ⟨_, _, _, e, d, _⟩ := hG
        rw [← q, b3] at e
        cases e
        exact nomatch b6.symm.trans d
      · rw [q, tTp] at b3
        cases b3
        exact nomatch b6
    · intro z
      obtain ⟨_, _, _, e, d, _⟩ := hG
      rw [z, tTp] at e
      cases e
      exact nomatch d
  have hok : HOk Pg w H s.heap := by
    intro b u q
    rw [hH] at q
    rcases h0_one q with ⟨m, rfl⟩ | ⟨_, rfl, _, rfl⟩
    · exact tT' m
    · exact ⟨ha, by rw [List.length_map]; exact hl, vs, _, vi, ha⟩
  have sq : SqL K H a (ns.map V.int) := by
    cases q : K.lookup a with
    | none => exact .inl (.inr ⟨_, by rw [hH]; exact h0_a aT q⟩)
    | some ob =>
      have e := KX a ob q
      rw [ha] at e
      cases e
      exact .inr ⟨_, vs.toArray, _, q, rfl, rfl, rfl, by rw [List.size_toArray, lv]; exact hl, by simpa using vi⟩
  have hT : ∀ p ∈ cs, H p.2 = some (.tbl #[]) := fun p hp => by
    rw [hH]
    exact h0_T (List.mem_map.mpr ⟨p, hp, rfl⟩)
  have e0 : Env0 Pg w K mg (hidT s.heap H) callerA [] s H :=
    { frames := rfl
      mod := ⟨KH, nsp hG, ⟨mb, nsp hB, hBB⟩, hL.imp fun _ z => ⟨nsp z.1, z.2⟩⟩
      bs := fun _ _ e => of_hidT e
      bsz := Nat.le_of_eq (hidT_size _ _)
      funs := trivial
      frf := fun _ z => nomatch z
      hok := hok
      bare := .of_eq hg }
  refine codeAny_mono (F _ KH (nsp hG) tab s H (.ref a) (.ref a) _ _ e0 (hb s _) rfl (hsp H hT sq)) fun r s' h => ?_
  match r, h with
  | .ok (.ret u), ⟨v, H', os, bare, un, hok', rv, e⟩ =>
    cases e
    cases (show u = Value.bool true from rv)
    have gT : ∀ p ∈ cs, ∃ more, s'.heap.get? p.2 = some { cls := .none, data := .fields more } := fun p hp => by
      obtain ⟨more, z⟩ := un.tbls p.2 #[] (hT p hp)
      have := hok' p.2 _ z
      rw [Array.empty_append] at this
      exact ⟨more, this⟩
    have key : ∀ b ob, b ∉ cs.map (·.2) → s.heap.get? b = some ob → s'.heap.get? b = some ob := by
      intro b ob n e
      cases q : H b with
      | none => exact un.keep b ob e q (fun z => nomatch z) (fun z => nomatch z)
      | some u =>
        have q' := q
        rw [hH] at q'
        rcases h0_one q' with ⟨m, _⟩ | ⟨_, rfl, _, rfl⟩
        · exact absurd m n
        · rw [ha] at e
          cases e
          exact (hok' _ _ (un.frzs _ _ _ q)).1
    refine ⟨rfl, ⟨fun b ob e => ?_, fun b ob e => ?_⟩, os, bare⟩
    · by_cases n : b ∈ cs.map (·.2)
      · obtain ⟨p, hp, rfl⟩ := memT n
        rw [tT p hp] at e
        cases e
        obtain ⟨more, gp⟩ := gT p hp
        exact .inr (.inl ⟨((Cd p hp).tab (tT p hp)).isCodeTable, rfl, #[], more, rfl, by rw [Array.empty_append]; exact gp⟩)
      · exact .inl (key b ob n e)
    · by_cases n : b ∈ cs.map (·.2)
      · obtain ⟨p, hp, rfl⟩ := memT n
        obtain ⟨more, gp⟩ := gT p hp
        exact ⟨_, gp⟩
      · exact ⟨_, key b ob n e⟩
  | .error e, h => exact h.elim
  | .ok .next, h => exact h.elim
  | .ok .brk, h => exact h.elim
  | .ok .cont, h => exact h.elim
end SoG3
set_option Elab.async false
set_option linter.all false
set_option maxRecDepth 100000
set_option maxHeartbeats 4000000
namespace Dl
open PySem PySem.Spec PyProof PyProof.Rows L2 So Da
theorem tab_mk {K : PySem.W.Frag} {x : Str} {f c P : Addr} {o1 : Value} {o2 : Option Addr} {o3 : Array (Option Value)} {fd : FuncData} {e1 : Value} {e2 : Option Addr} {vs : Array Value} {e3 : Array (Option Value)} (a : PySem.W.nsIn K mainGlobals x = some (some (.ref f))) (l : K.lookup f = some ⟨o1, o2, .func fd, o3⟩) (hc : fd.code = .ref c)
    (lc : K.lookup c = some ⟨e1, e2, .fields vs, e3⟩) (hp : vs[11]? = some (.ref P)) : PySem.W.tabIn K x = some (c, P) := by
  unfold PySem.W.tabIn
  rw [a]
  dsimp only
  rw [l]
  dsimp only
  rw [hc]
  dsimp only
  rw [lc]
  dsimp only
  rw [hp]
theorem exm_self {K : PySem.W.Frag} {S : Addr} (h1 : PySem.W.subIn K (.ref S) (.type "BaseException") = some true) (h2 : PySem.W.isClsIn K S = true) (h3 : PySem.W.typeIn K (.ref S) = some (.type "type")) (h4 : PySem.W.subIn K (.ref S) (.ref S) = some true) :
    PySem.W.exmOne K (.ref S) (.ref S) = some true := by
  have e1 : (PySem.W.subIn K (.ref S) (.type "BaseException") == some true) = true := by rw [h1] <;> rfl
  have e2 : ((PySem.W.clsIn K S).isSome && PySem.W.typeIn K (.ref S) == some (.type "type")) = true := by
    have h2' : (PySem.W.clsIn K S).isSome = true := h2
    rw [h2', h3] <;> rfl
  show (if (PySem.W.subIn K (.ref S) (.type "BaseException") == some true) = true then (if ((PySem.W.clsIn K S).isSome && PySem.W.typeIn K (.ref S) == some (.type "type")) = true then PySem.W.subIn K (.ref S) (.ref S) else none) else none) = some true
  rw [if_pos e1, if_pos e2]
  exact h4
theorem exm_no {K : PySem.W.Frag} {E S : Addr} (h1 : PySem.W.subIn K (.ref S) (.type "BaseException") = some true) (h2 : PySem.W.isClsIn K S = true) (h3 : PySem.W.typeIn K (.ref S) = some (.type "type")) (h4 : PySem.W.subIn K (.ref E) (.ref S) = some false) :
    PySem.W.exmOne K (.ref E) (.ref S) = some false := by
  have e1 : (PySem.W.subIn K (.ref S) (.type "BaseException") == some true) = true := by rw [h1] <;> rfl
  have e2 : ((PySem.W.clsIn K S).isSome && PySem.W.typeIn K (.ref S) == some (.type "type")) = true := by
    have h2' : (PySem.W.clsIn K S).isSome = true := h2
    rw [h2', h3] <;> rfl
  show (if (PySem.W.subIn K (.ref S) (.type "BaseException") == some true) = true then (if ((PySem.W.clsIn K S).isSome && PySem.W.typeIn K (.ref S) == some (.type "type")) = true then PySem.W.subIn K (.ref E) (.ref S) else none) else none) = some false
  rw [if_pos e1, if_pos e2]
  exact h4
/-- what the law is called with, and what it has to come to -/
def spLawS (K : PySem.W.Frag) (Ps : List Addr) : Sp := fun vs H Q _ => ∃ (a : Addr) (ns : List Int), vs = [.ref a] ∧ (∀ P ∈ Ps, H P = some (.tbl #[])) ∧ SqL K H a (ns.map V.int) ∧ ns.length ≤ 63 ∧ ∀ H', Q (.bl true) H'
theorem start_rep {Z : Zw} {H : Hp} {a : Addr} {ns : List Int} (hT : ∀ P ∈ Z.T.P :: Z.T.L.map (fun p => p.1), H P = some (.tbl #[])) (hS : SqL Z.K H a (ns.map V.int)) : ∃ G, Tg G Z.T ∧ Rep Z [] G [Lc.sh (PyData.list (ns.map PyData.int))] (([V.ref a] : List V).map some) H := by
  let G : Hp := fun b => if b ∈ Z.T.P :: Z.T.L.map (·.1) then some (.tbl #[]) else if b = a then match H a with
    | some (.lst xs) => some (.lst xs)
    | some (.frz ob (.lst xs)) => some (.frz ob (.lst xs))
    | _ => none
    else none
  have gT : ∀ {b}, b ∈ Z.T.P :: Z.T.L.map (·.1) → G b = some (.tbl #[]) := fun m => if_pos m
  have sub : Sub G H := fun b o e => by
    by_cases m : b ∈ Z.T.P :: Z.T.L.map (·.1)
    · rw [gT m] at e
      cases e
      exact hT b m
    · rw [show G b = _ from if_neg m] at e
      by_cases z : b = a
      · rw [if_pos z] at e
        rw [z]
        split at e
        · rename_i q
          rw [q, ← e]
        · rename_i q
          rw [q, ← e]
        · cases e
      · rw [if_neg z] at e
        cases e
  have tg : Tg G Z.T := ⟨⟨#[], gT List.mem_cons_self, by simp [TriplesOk]⟩, fun p hp => ⟨#[], gT (List.mem_cons_of_mem _ (List.mem_map.mpr ⟨p, hp, rfl⟩)), by simp [TriplesOk], fun pos cv z => nomatch z⟩⟩
  have nt : NT G := fun b o e => by
    by_cases m : b ∈ Z.T.P :: Z.T.L.map (·.1)
    · rw [gT m] at e
      cases e
      trivial
    · rw [show G b = _ from if_neg m] at e
      by_cases z : b = a
      · rw [if_pos z] at e
        split at e
        · cases e
          trivial
        · cases e
          trivial
        · cases e
      · rw [if_neg z] at e
        cases e
  have sq : SqL Z.K G a (ns.map V.int) := by
    rcases hS with (h | ⟨ob, h⟩) | h
    · have na : a ∉ Z.T.P :: Z.T.L.map (·.1) := fun m => by rw [hT a m] at h; cases h
      exact .inl (.inl (((if_neg na).trans (if_pos rfl)).trans (by rw [h])))
    · have na : a ∉ Z.T.P :: Z.T.L.map (·.1) := fun m => by rw [hT a m] at h; cases h
      exact .inl (.inr ⟨ob, ((if_neg na).trans (if_pos rfl)).trans (by rw [h])⟩)
    · exact .inr h
  refine ⟨G, tg, rfl, fun {i D} e => ?_, fun {i b c} e => ?_, fun {i b C d D} e => ?_, fun {i O} e => ?_, fun {i j b c c'} e e' => ?_, fun m => absurd m List.not_mem_nil, sub, nt⟩
  · match i, e with
    | 0, e =>
      cases e
      exact ⟨.ref a, rfl, .lst sq dpa_of_ints⟩
    | i + 1, e => simp at e
  · match i, e with
    | 0, e => cases e
    | i + 1, e => simp at e
  · match i, e with
    | 0, e => cases e
    | i + 1, e => simp at e
  · match i, e with
    | 0, e => cases e
    | i + 1, e => simp at e
  · match i, e with
    | 0, e => cases e
    | i + 1, e => simp at e
theorem law_go {Z : Zw} {k : Nat} {f : Addr} {fd : FuncData} {T : TD} (F : FnD Z.Pg Z.w Z.K Z.mg Z.base CX0 k f fd ["script"] (spT Z T)) (hr : Room k callerA)
    (hT : ∀ (ns : List Int) (Q : PyData → List Lc → Prop) (er : EK), ns.length ≤ 63 → (∀ as, Q (.bool true) as) → T [.sh (.list (ns.map .int))] Q er) : SoG.GOk Z.Pg Z.w Z.K Z.mg Z.base f fd (spLawS Z.K (Z.T.P :: Z.T.L.map (·.1))) :=
  fun s H u v Q E e0 hb r ⟨a, ns, e, ht, sq, l, q⟩ => by
    cases e
    refine F.run callerA [] s H ⟨[u], []⟩ [u] [.ref a] Q E hr rfl e0 hb (.cons r .nil) ?_
    obtain ⟨G, tg, R⟩ := start_rep ht sq
    refine ⟨G, _, fun D _ => D = .bool true, fun _ => False, tg, R, hT ns _ _ l (fun _ => rfl), fun D as' v G' H' e _ _ _ d => ?_, fun _ _ _ _ _ _ z => z.elim⟩
    subst e
    cases d
    exact q H'
end Dl
set_option Elab.async false
set_option linter.all false
set_option maxRecDepth 100000
set_option maxHeartbeats 4000000
namespace Dl
open PySem PySem.Spec PyProof PyProof.Rows L2 So Da
theorem so_list {l : List Nat} : PyData.strOk ⟨l.toArray⟩ = l.all (· < 0x110000) := by
  unfold PyData.strOk
  rw [← Array.all_toList]
theorem so_of {x : Str} : PyData.strOk x = x.cps.toList.all (· < 0x110000) := by
  unfold PyData.strOk
  rw [← Array.all_toList]
theorem so_chars : ∀ l : List Char, (l.map Char.toNat).all (· < 0x110000) = true
  | [] => rfl
  | c :: l => by
    rw [List.map_cons, List.all_cons, so_chars l, Bool.and_true]
    have hc : c.toNat < 1114112 := by
      have h := c.valid
      simp only [UInt32.isValidChar, Nat.isValidChar] at h
      show c.val.toNat < 1114112
      omega
    exact decide_eq_true hc
theorem so_str (s : String) : PyData.strOk (Str.ofString s) = true := by
  rw [Str.ofString_eq_toList, so_list]
  exact so_chars _
theorem so_app {a b : Str} (h : PyData.strOk a = true) (k : PyData.strOk b = true) : PyData.strOk (a ++ b) = true := by
  rw [so_of] at h k ⊢
  show (a.cps ++ b.cps).toList.all _ = true
  rw [Array.toList_append, List.all_append, h, k]
  rfl
theorem so_join {s : Str} (h : PyData.strOk s = true) : ∀ {ts : List Str}, (∀ t ∈ ts, PyData.strOk t = true) → PyData.strOk (Str.join s ts) = true
  | [], _ => so_str ""
  | [x], k => k x List.mem_cons_self
  | x :: y :: r, k => so_app (so_app (k x List.mem_cons_self) h) (so_join h fun t m => k t (List.mem_cons_of_mem _ m))
theorem so_from : ∀ {ts : List Str} {k : Nat} {acc : Str}, PyData.strOk acc = true → (∀ t ∈ ts, PyData.strOk t = true) → PyData.strOk (textFrom k acc ts) = true
  | [], _, _, h, _ => h
  | t :: ts, k, acc, h, q => by
    unfold textFrom
    exact so_from (so_app (so_app h (so_str _)) (q t List.mem_cons_self)) fun u m => q u (List.mem_cons_of_mem _ m)
theorem so_char {q c : Nat} (hq : q < 0x110000) (hc : c < 0x110000) : (Builtin.Str.reprChar q c).all (· < 0x110000) = true := by
  have hx : ∀ w, (List.replicate (w - ((Nat.toDigits 16 c).map Char.toNat).length) 48 ++ (Nat.toDigits 16 c).map Char.toNat).all (· < 0x110000) = true := fun w => by
    rw [List.all_append, so_chars, Bool.and_true, List.all_eq_true]
    intro x m
    rw [List.eq_of_mem_replicate m]
    rfl
  unfold Builtin.Str.reprChar
  dsimp only
  split
  · simp [hc]
  split
  · rfl
  split
  · rfl
  split
  · rfl
  split
  · simp [hc]
  split
  · rw [List.all_append, hx 2]
    rfl
  split
  · rw [List.all_append, hx 4]
    rfl
  · rw [List.all_append, hx 8]
    rfl
theorem so_foldr {q : Nat} (hq : q < 0x110000) : ∀ {l : List Nat} {acc : Array Nat}, l.all (· < 0x110000) = true → acc.toList.all (· < 0x110000) = true → (l.foldl (fun out c => out ++ (Builtin.Str.reprChar q c).toArray) acc).toList.all (· < 0x110000) = true
  | [], _, _, h => h
  | c :: l, acc, k, h => by
    rw [List.all_cons, Bool.and_eq_true] at k
    rw [List.foldl_cons]
    refine so_foldr hq k.2 ?_
    rw [Array.toList_append, List.all_append, h, so_char hq (of_decide_eq_true k.1)]
    rfl
theorem so_repr {x : Str} (h : PyData.strOk x = true) : PyData.strOk (reprText x) = true := by
  have hq : reprQuote x < 0x110000 := by unfold reprQuote; split <;> decide
  rw [so_of] at h ⊢
  unfold reprText
  show ((x.cps.foldl (fun out c => out ++ (Builtin.Str.reprChar (reprQuote x) c).toArray) #[reprQuote x]).push (reprQuote x)).toList.all _ = true
  rw [Array.toList_push, List.all_append, ← Array.foldl_toList, so_foldr hq h (by simp [hq])]
  simp [hq]
mutual
theorem so_shown : ∀ {D : PyData}, D.canLay0 = true → PyData.strOk D.shown = true
  | .none, _ => so_str _
  | .bool b, _ => by cases b <;> exact so_str _
  | .int i, _ => so_str _
  | .str x, h => by
    simp only [PyData.canLay0] at h
    exact so_repr h
  | .list ds, h => by
    simp only [PyData.canLay0] at h
    exact so_app (so_from (so_str _) (so_shownA h)) (so_str _)
  | .tuple ds, h => by
    simp only [PyData.canLay0] at h
    exact so_app (so_app (so_str _) (so_join (so_str _) (so_shownA h))) (so_str _)
  | .dict _, h => by simp [PyData.canLay0] at h
theorem so_shownA : ∀ {Ds : List PyData}, PyData.canLayAll0 Ds = true → ∀ t ∈ PyData.shownAll Ds, PyData.strOk t = true
  | [], _, t, m => nomatch m
  | d :: ds, h, t, m => by
    unfold PyData.canLayAll0 at h
    rw [Bool.and_eq_true] at h
    rcases List.mem_cons.mp m with rfl | m
    · exact so_shown h.1
    · exact so_shownA h.2 t m
end
theorem so_rep {D : PyData} (h : D.canLay0 = true) : PyData.strOk (repD D) = true := by
  cases D with
  | none => exact so_str _
  | bool b => cases b <;> exact so_str _
  | int i => exact so_str _
  | str x => exact so_repr (by simpa only [PyData.canLay0] using h)
  | list ds => exact so_shown h
  | tuple ds => exact so_shown h
  | dict ds => simp [PyData.canLay0] at h
/-- (text, b), ('word', .., text) and the like can be compared -/
theorem sh_flat {ds : List PyData} (h : ∀ d ∈ ds, d.canLay0 = true ∧ flatD d = true) : SeqAt.shaped (.tuple ds) = true := by
  unfold SeqAt.shaped
  have e : PyData.depthAll ds = 0 := by
    induction ds with
    | nil => rfl
    | cons d ds ih =>
      have h0 : d.depth = 0 := by
        have := (h d List.mem_cons_self).2
        cases d <;> first | rfl | exact nomatch this
      simp only [PyData.depthAll]
      rw [h0, ih fun x m => h x (List.mem_cons_of_mem _ m)]
      rfl
  rw [lay_tup fun d m => (h d m).1, show (PyData.tuple ds).depth = PyData.depthAll ds + 1 from rfl, e]
  rfl
theorem eqv_l {D : PyData} (h : D.canLay0 = true) : PyData.eqv D D = true := PySem.SeqAt.eqv_refl D h
end Dl
set_option Elab.async false
set_option linter.all false
namespace Dl
open PySem PySem.Spec PyProof PyProof.Rows L2 So Da
section
variable {Q : PyData → Prop} {k : List PyData → Prop} {i j : Int} {x y : Str} {b : Bool} {ds es : List PyData} {lo hi : Option Int}
theorem itemsD_L : itemsD (.list ds) k = k ds := rfl
theorem itemsD_T : itemsD (.tuple ds) k = k ds := rfl
theorem tupleD_L : tupleD (.list ds) Q = Q (.tuple ds) := rfl
theorem tupleD_T : tupleD (.tuple ds) Q = Q (.tuple ds) := rfl
theorem listD_L : listD (.list ds) Q = Q (.list ds) := rfl
theorem listD_T : listD (.tuple ds) Q = Q (.list ds) := rfl
theorem lenD_L : lenD (.list ds) Q = Q (.int (ds.length : Nat)) := rfl
theorem lenD_T : lenD (.tuple ds) Q = Q (.int (ds.length : Nat)) := rfl
theorem lenD_S : lenD (.str x) Q = (x.length ≤ sizeLine ∧ Q (.int (x.length : Nat))) := rfl
theorem slD_L : slD (.list ds) lo hi Q = Q (.list (cutD ds lo hi)) := rfl
theorem slD_T : slD (.tuple ds) lo hi Q = Q (.tuple (cutD ds lo hi)) := rfl
theorem addD_I : addD (.int i) (.int j) Q = Q (.int (i + j)) := rfl
theorem addD_S : addD (.str x) (.str y) Q = (x.length + y.length ≤ sizeLine ∧ Q (.str (x ++ y))) := rfl
theorem addD_T : addD (.tuple ds) (.tuple es) Q = (ds.length + es.length ≤ sizeLine ∧ Q (.tuple (ds ++ es))) := rfl
theorem addD_L : addD (.list ds) (.list es) Q = (ds.length + es.length ≤ sizeLine ∧ Q (.list (ds ++ es))) := rfl
theorem subD_I : subD (.int i) (.int j) Q = Q (.int (i - j)) := rfl
theorem mulD_I : mulD (.int i) (.int j) Q = (CMul i j ∧ Q (.int (i * j))) := rfl
theorem ltD_I : ltD (.int i) (.int j) Q = Q (.bool (decide (i < j))) := rfl
theorem ltD_S : ltD (.str x) (.str y) Q = Q (.bool (decide (x.cps.toList < y.cps.toList))) := rfl
theorem leD_I : leD (.int i) (.int j) Q = Q (.bool (decide (i ≤ j))) := rfl
theorem gtD_I : gtD (.int i) (.int j) Q = Q (.bool (decide (j < i))) := rfl
theorem geD_I : geD (.int i) (.int j) Q = Q (.bool (decide (j ≤ i))) := rfl
theorem modD_I : modD (.int i) (.int j) Q = (0 < j ∧ Q (.int (i % j))) := rfl
theorem fdivD_I : fdivD (.int i) (.int j) Q = ((0 < j ∧ j < 1073741824) ∧ Q (.int (i / j))) := rfl
theorem powD_I : powD (.int i) (.int j) Q = (CPow i j ∧ Q (.int (i ^ j.toNat))) := rfl
theorem intD_I : Dl.intD (.int i) Q = Q (.int i) := rfl
theorem intD_B : Dl.intD (.bool b) Q = Q (.int (if b = true then 1 else 0)) := rfl
theorem negD_I : negD (.int i) Q = Q (.int (-i)) := rfl
theorem isND_N : isND .none = true := rfl
theorem isND_I : isND (.int i) = false := rfl
theorem isND_S : isND (.str x) = false := rfl
theorem isND_B : isND (.bool b) = false := rfl
theorem isND_T : isND (.tuple ds) = false := rfl
theorem isND_L : isND (.list ds) = false := rfl
theorem sq_T : isSq (.tuple ds) = true := rfl
theorem sq_L : isSq (.list ds) = true := rfl
theorem sq_N : isSq .none = false := rfl
theorem sq_I : isSq (.int i) = false := rfl
theorem sq_S : isSq (.str x) = false := rfl
theorem sq_B : isSq (.bool b) = false := rfl
end
theorem htD {D : PyData} (hs : isSq D = true) {k : PyData → Prop} (h : k (.tuple (itD D))) : tupleD D k := by
  cases D <;> first | exact h | exact nomatch hs
theorem hnD {D : PyData} (hs : isSq D = true) {k : PyData → Prop} (h : k (.int ((itD D).length : Nat))) : lenD D k := by
  cases D <;> first | exact h | exact nomatch hs
theorem hxD {D d : PyData} (hs : isSq D = true) {i : Nat} {k : PyData → Prop} (e : (itD D)[i]? = some d) (h : k d) : ixD D (.int (i : Nat)) k := by
  cases D with
  | list ds => exact (ix_nat (Q := k) (show ds[i]? = some d from e)).symm ▸ h
  | tuple ds => exact (ix_natT (Q := k) (show ds[i]? = some d from e)).symm ▸ h
  | _ => exact nomatch hs
theorem hsD {D : PyData} (hs : isSq D = true) {lo hi : Option Int} {k : PyData → Prop} (h : ∀ E, isSq E = true → itD E = cutD (itD D) lo hi → (isStr E = false) → k E) : slD D lo hi k := by
  cases D with
  | list ds => exact h _ rfl rfl rfl
  | tuple ds => exact h _ rfl rfl rfl
  | _ => exact nomatch hs
def repB : PyData → Bool
  | .none => true
  | .bool _ => true
  | .int i => decide (i.natAbs.log2 < 1920)
  | .str z => decide ((reprText z).length ≤ 100000)
  | d => d.showable && !d.hasDict && decide (d.depth ≤ 60) && decide (d.shown.length ≤ 100000)
theorem rep_of {d : PyData} (h : repB d = true) : repOk d := by
  have big : (d.showable && !d.hasDict && decide (d.depth ≤ 60) && decide (d.shown.length ≤ 100000)) = true → d.showable = true ∧ d.hasDict = false ∧ d.depth ≤ 60 ∧ d.shown.length ≤ sizeLine := fun h => by
    simp only [Bool.and_eq_true, decide_eq_true_eq, Bool.not_eq_true'] at h
    exact ⟨h.1.1.1, h.1.1.2, h.1.2, Nat.le_trans h.2 (by decide)⟩
  cases d with
  | none => trivial
  | bool _ => trivial
  | int i => exact of_decide_eq_true (p := i.natAbs.log2 < 1920) h
  | str z => exact Nat.le_trans (of_decide_eq_true (p := (reprText z).length ≤ 100000) h) (by decide)
  | list ds => exact big h
  | tuple ds => exact big h
  | dict ds => exact big h
def clB (d : PyData) : Bool := fitD d && d.canLay0 && decide (d.depth ≤ 50) && repB d
theorem cl_ok {d : PyData} (h : clB d = true) : OkD d ∧ repOk d := by
  unfold clB at h
  simp only [Bool.and_eq_true, decide_eq_true_eq] at h
  exact ⟨⟨h.1.1.1, h.1.1.2, h.1.2⟩, rep_of h.2⟩
/-- data that can be shown, of limited size -/
theorem gl_okD {h W : Nat} {d : PyData} (g : GL h W d) (f : fitD d = true) (l : h ≤ 50) : OkD d := ⟨f, g.2, Nat.le_trans g.1.de l⟩
theorem fit_all {ds : List PyData} (h : ∀ d ∈ ds, fitD d = true) : fitA ds = true := by
  induction ds with
  | nil => rfl
  | cons d ds ih =>
    unfold fitA
    rw [h d List.mem_cons_self, ih fun x m => h x (List.mem_cons_of_mem _ m)]
    rfl
theorem dep_all {n : Nat} {ds : List PyData} (h : ∀ d ∈ ds, d.depth ≤ n) : PyData.depthAll ds ≤ n := by
  induction ds with
  | nil => exact Nat.zero_le _
  | cons d ds ih =>
    simp only [PyData.depthAll]
    exact Nat.max_le.mpr ⟨h d List.mem_cons_self, ih fun x m => h x (List.mem_cons_of_mem _ m)⟩
/-- as OkD, with the depth told -/
structure OkN (n : Nat) (d : PyData) : Prop where
  fit : fitD d = true
  lay : d.canLay0 = true
  dep : d.depth ≤ n
theorem OkN.ok {n : Nat} {d : PyData} (h : OkN n d) (l : n ≤ 50) : OkD d := ⟨h.fit, h.lay, Nat.le_trans h.dep l⟩
theorem OkN.mono {n m : Nat} {d : PyData} (h : OkN n d) (l : n ≤ m) : OkN m d := ⟨h.fit, h.lay, Nat.le_trans h.dep l⟩
theorem okn_L {n : Nat} {ds : List PyData} (h : ∀ d ∈ ds, OkN n d) (l : ds.length ≤ 100000) : OkN (n + 1) (.list ds) := ⟨by
  unfold fitD
  rw [decide_eq_true l, fit_all fun d m => (h d m).fit]
  rfl, lay_lst fun d m => (h d m).lay, by simp only [PyData.depth]; exact Nat.succ_le_succ (dep_all fun d m => (h d m).dep)⟩
theorem okn_T {n : Nat} {ds : List PyData} (h : ∀ d ∈ ds, OkN n d) (l : ds.length ≤ 100000) : OkN (n + 1) (.tuple ds) := ⟨by
  unfold fitD
  rw [decide_eq_true l, fit_all fun d m => (h d m).fit]
  rfl, lay_tup fun d m => (h d m).lay, by simp only [PyData.depth]; exact Nat.succ_le_succ (dep_all fun d m => (h d m).dep)⟩
theorem okn_str {z : Str} (l : z.length ≤ 100000) (h : (PyData.str z).canLay0 = true) : OkN 0 (.str z) := ⟨decide_eq_true l, h, Nat.le_refl _⟩
theorem okn_int {i : Int} : OkN 0 (.int i) := ⟨rfl, rfl, Nat.le_refl _⟩
theorem okn_bool {b : Bool} : OkN 0 (.bool b) := ⟨rfl, rfl, Nat.le_refl _⟩
theorem all_m {α : Type} {p : PyData → Prop} {f : α → PyData} {l : List α} (h : ∀ a ∈ l, p (f a)) : ∀ d ∈ l.map f, p d := fun d m => by
  obtain ⟨a, ma, rfl⟩ := List.mem_map.mp m
  exact h a ma
end Dl
set_option Elab.async false
set_option linter.all false
set_option maxRecDepth 100000
namespace Dl
open PySem PySem.Spec PyProof PyProof.Rows L2 So Da
section
variable {P : Tb} {G0 : Hp} {n : Nat} {X : Cx} {x : Str} {p pos : Pos} {e : Expr} {es : List Expr}
/-- de_askA with nothing left to find: within a lambda the context must come from what is asked for -/
theorem de_askAL {i j : Nat} {ta : DTA} {E : XK} {er : EK} (hE : ErrL (zOf X P) G0 E er) (hx : Passes (L2.CX X.prog X.w) X E) (hr : Room j X.A) (hgd : X.A.guards = some []) (hi : i = i) (ha : DA P G0 n X (e :: es) ta) (hN : X.N[i]? = some x) (hv : Vis X.env.scope x) (hd : (x == ("__debug__" : Str)) = false)
    (hcd : (x == ("__classdict__" : Str)) = false) (he : starEach (e :: es) X.env = (false, eval e X.env) :: starEach es X.env) (hpl : (backTo pos (starEach es X.env)).any (·.1) = false) : DE P G0 n X (.Call (.Name x p) (e :: es) [] pos) (dAskE i j ta er) :=
  de_askA hE hx hr hgd i ha hN hv hd hcd he hpl
end
section
variable {P : Tb} {G0 : Hp} {n : Nat} {X : Cx} {o e : Expr} {tx ty : DTE} {apos cpos : Pos}
end
end Dl
set_option Elab.async false
set_option linter.all false
set_option maxRecDepth 100000
namespace Dl
open PySem PySem.Spec PyProof PyProof.Rows L2 So Da
end Dl
namespace Dl
open PySem PySem.Spec PyProof PyProof.Rows L2 So Da
end Dl
namespace Dl
open PySem PySem.Spec PyProof PyProof.Rows L2 So Da
section
variable {P : Tb} {G0 : Hp} {n : Nat} {X : Cx} {st : Stmt}
end
end Dl
namespace Dl
open PySem PySem.Spec PyProof PyProof.Rows L2 So Da
section
variable {P : Tb} {n : Nat} {X : Cx}
/-- i & j where j is a power of two less one -/
def andD : OpT := fun x y Q => match x, y with
  | .int i, .int j => ∃ k : Nat, j = 2 ^ k - 1 ∧ Q (.int (i % 2 ^ k))
  | _, _ => False
end
end Dl
namespace Dl
open PySem PySem.Spec PyProof PyProof.Rows L2 So Da
section
variable {P : Tb} {G0 : Hp} {n : Nat} {X : Cx} {tg e : Expr}
/-- the signs of a text, each a text -/
def chD (z : Str) : List PyData := z.cps.toList.map fun c => .str { cps := #[c] }
theorem wk_str {K : Zw} {z : Str} {G' : Hp} : Wk K (Its z) (chD z) G' := by
  have l : (chD z).length = z.cps.size := by unfold chD; rw [List.length_map, Array.length_toList]
  refine ⟨fun h s R => by rw [l] at h; exact h, fun s R => by rw [l]; exact Nat.le_refl _, fun {i H x H' G1 F ρ σ} h s R y => ?_⟩
  obtain ⟨e1, c, e2, e3⟩ := y
  subst e1
  subst e3
  refine ⟨.str { cps := #[c] }, G1, ?_, Ex.refl s.2, R, .str _⟩
  unfold chD
  rw [List.getElem?_map, Array.getElem?_toList, e2]
  rfl
/-- for sign in text -/
theorem di_str {t : DTE} (h : DE P G0 n X e t) : DI P G0 n X tg e (fun ρ Q => t ρ fun D ρ' => ∃ z, D = .str z ∧ Q (chD z) ρ') := pi_weak (pi_str h) fun σ H R ⟨F, ρ, G, Q0, s, Rp, h, k⟩ =>
  ⟨F, ρ, G, _, s, Rp, h, fun D ρ' v G' H' ⟨z, eD, q⟩ s' al R' d => by
    subst eD
    cases d
    exact ⟨_, rfl, k _ _ _ _ _ q s' al R' wk_str⟩⟩
end
end Dl
set_option Elab.async false
set_option linter.all false
set_option maxRecDepth 100000
set_option maxHeartbeats 4000000
namespace SoM
open PySem PySem.Spec PyProof.Rows L2
end SoM
namespace Dl
open PySem PySem.Spec PyProof PyProof.Rows L2 So Da
section
variable {P : Tb} {G0 : Hp} {n : Nat} {X : Cx} {a b : Expr} {pos : Pos} {t u : DTE}
end
end Dl
set_option Elab.async false
set_option linter.all false
set_option maxRecDepth 100000
set_option maxHeartbeats 4000000
namespace Dl
open PySem PySem.Spec PyProof PyProof.Rows L2 So Da SoC LamX NdefX
section
variable {Pg : Program} {w : World} {H : Hp} {h : Heap} {b : Addr} {o o' : HO}
end
section
variable {Z : Zw} {G G' : Hp} {b : Addr} {h : Heap} {T : Tb} {v : V} {D : PyData}
mutual
/-- data without dicts -/
def noDi : PyData → Bool
  | .list ds => noDiA ds
  | .tuple ds => noDiA ds
  | .dict _ => false
  | _ => true
def noDiA : List PyData → Bool
  | [] => true
  | d :: ds => noDi d && noDiA ds
end
mutual
theorem Dw.out (hst : ∀ s, Z.T.st s = none) : ∀ {G G' : Hp} {v : V} {D : PyData}, (∀ c o, G c = some o → (∀ φ, o ≠ .ext φ) → G' c = some o) → noDi D = true → Dw Z G v D → Dw Z G' v D
  | _, _, _, _, _, _, .non => .non
  | _, _, _, _, _, _, .bl b => .bl b
  | _, _, _, _, _, _, .int b => .int b
  | _, _, _, _, _, _, .str b => .str b
  | _, _, _, _, x, n, .lst a b => .lst (a.imp (fun q => q.imp (fun q => x _ _ q fun _ z => nomatch z) fun ⟨o, q⟩ => ⟨o, x _ _ q fun _ z => nomatch z⟩) _root_.id) (DwAll.out hst x n b)
  | _, _, _, _, x, n, .tup a b => .tup (a.imp (fun q => q.imp (fun q => x _ _ q fun _ z => nomatch z) fun ⟨o, q⟩ => ⟨o, x _ _ q fun _ z => nomatch z⟩) _root_.id) (DwAll.out hst x n b)
  | _, _, _, _, x, n, .dic a b => nomatch n
  | _, _, _, _, x, n, .clo a b => by
    obtain ⟨sc, cl, c, h, _⟩ := a.ex
    rw [hst] at h
    cases h
theorem DwAll.out (hst : ∀ s, Z.T.st s = none) : ∀ {G G' : Hp} {vs : List V} {Ds : List PyData}, (∀ c o, G c = some o → (∀ φ, o ≠ .ext φ) → G' c = some o) → noDiA Ds = true → DwAll Z G vs Ds → DwAll Z G' vs Ds
  | _, _, _, _, _, _, .nil => .nil
  | _, _, _, _, x, n, .cons a b => .cons (Dw.out hst x (Bool.and_eq_true_iff.mp n).1 a) (DwAll.out hst x (Bool.and_eq_true_iff.mp n).2 b)
end
end
section
variable {P : Tb} {G0 : Hp} {n : Nat} {X : Cx} {e : Expr} {i : Nat} {t : DTE}
end
end Dl
set_option Elab.async false
set_option linter.all false
set_option maxRecDepth 100000
set_option maxHeartbeats 4000000
namespace Dl
open PySem PySem.Spec PyProof PyProof.Rows L2 So Da
section
variable {P : Tb} {G0 : Hp} {n : Nat} {X : Cx}
/-- sign in text, sign not in text -/
def inSD (neg : Bool) : OpT := fun x y Q => match x, y with
  | .str a, .str z => ∃ c : Nat, a = { cps := #[c] } ∧ Q (.bool (if neg = true then !decide (c ∈ z.cps.toList) else decide (c ∈ z.cps.toList)))
  | _, _ => False
theorem od_notinS : OpD P n X (fun x y H Q => ∃ (c : Nat) (z : Str), x = .str ⟨#[c]⟩ ∧ y = .str z ∧ Q (.bl (!decide (c ∈ z.cps.toList))) H) (inSD true) := fun x y dx dy F G ρ σ H Q0 Q t R h1 h2 f k => by
  unfold inSD at f
  split at f
  · cases h1.str
    cases h2.str
    obtain ⟨c, rfl, f⟩ := f
    exact ⟨c, _, rfl, rfl, k.here t R (.bl _) f⟩
  · exact f.elim
end
section
variable {P : Tb} {G0 : Hp} {n : Nat} {X : Cx} {o e : Expr} {tx ty : DTE} {apos cpos : Pos}
end
end Dl
set_option Elab.async false
set_option linter.all false
set_option maxRecDepth 100000
set_option maxHeartbeats 4000000
namespace Dl
open PySem PySem.Spec PyProof PyProof.Rows L2 So Da SoRv RT
end Dl
set_option Elab.async false
set_option linter.all false
set_option maxRecDepth 100000
set_option maxHeartbeats 4000000
namespace Dl
open PySem PySem.Spec PyProof PyProof.Rows L2 So Da
section
variable {P : Tb} {G0 : Hp} {n : Nat} {X : Cx} {st : Stmt} {ta : DTF} {tb : DTE}
theorem ds_parFE {i j : Nat} (hij : i ≠ j) (hps : PS X st (tPar i j (tCons (rdF (zOf X P) G0 n ta) (tCons (rdE (zOf X P) G0 n tb) tNil)))) : DS P G0 n X st (fun D ρ => ta ρ fun D1 ρ1 => tb ρ1 fun D2 ρ2 => i < ρ2.length ∧ noOb ρ2 i ∧ noOb ρ2 j ∧ ∀ a, D.nx ((ρ2.set i (.ob a (.lst D1))).set j (.sh D2))) :=
  ps_weak hps fun D σ H ⟨ρ, G, D0, s, R, h, k⟩ =>
  ⟨[], ρ, G, _, s, R, h, fun D1 ρ1 v1 G1 H1 p1 q1 s1 al1 R1 nF1 d1 => ⟨[(p1, .lst v1)], ρ1, G1, _, s.trans s1, R1, q1, fun D2 ρ2 v2 G2 H2 ⟨l1, n1, n2, q2⟩ s2 al2 R2 d2 => ⟨.ref p1, v2, rfl, by
    have R3 : Rep (zOf X P) [] G2 (ρ2.set i (.ob p1 (.lst D1))) (σ.set i (some (.ref p1))) H2 := R2.take (fun o m => nomatch m) l1 n1 ⟨_, rfl, DwAll.mono s2 d1⟩
    have nj : noOb (ρ2.set i (.ob p1 (.lst D1))) j := by
      unfold noOb at n2 ⊢
      rw [List.getElem?_set_ne hij]
      exact n2
    exact k.nx _ _ _ _ (q2 p1) (s1.trans s2) ((al1.trans al2).trans ((Alike.set n1).trans (.set nj))) (R3.set (noOb_ne nj) d2)⟩⟩⟩
end
end Dl
set_option Elab.async false
set_option linter.all false
set_option maxRecDepth 100000
set_option maxHeartbeats 4000000
namespace Dl
open PySem PySem.Spec PyProof PyProof.Rows L2 So Da SoC
section
variable {P : Tb} {G0 : Hp} {n : Nat} {X : Cx}
/-- statements that are never reached -/
theorem dss_any {sts : List Stmt} : DSs P G0 n X sts (fun _ _ => False) := ⟨fun pins s σ H D I ⟨ρ, G, D0, s0, R, h, k⟩ => h.elim⟩
theorem fnD_no {Z : Zw} {CX : CXT} {k : Nat} {f : Addr} {fd : FuncData} {ps : List Str} {T : TD} (no : ∀ as Q er, ¬ T as Q er) : FnD Z.Pg Z.w Z.K Z.mg Z.base CX k f fd ps (spT Z T) :=
  ⟨fun vs H Q E ⟨G, as, Q0, er, _, _, h, _⟩ => absurd h (no as Q0 er), fun A outer s H args us vs Q E _ _ _ _ _ ⟨G, as, Q0, er, _, _, h, _⟩ => absurd h (no as Q0 er)⟩
def FnsOk (K : Zw) (G : Hp) : List V → List (Nat × LW) → Prop := Paired fun v l => ∃ f, v = V.ref f ∧ AskOk K G f l.1 l.2
theorem FnsOk.mono {K : Zw} {G G' : Hp} (s : Ex K.T G G') {vs : List V} {ls : List (Nat × LW)} (h : FnsOk K G vs ls) : FnsOk K G' vs ls := paired_imp (fun _ _ ⟨f, e, m⟩ => ⟨f, e, m.mono s⟩) h
variable {es : List Expr} {ls : List (Nat × LW)} {x : Str} {p pos yp dp : Pos} {y : Str} {f : Addr} {fd : FuncData} {ps : List Str} {T : TD} {st : Stmt} {k : Nat} {tb : DTS} {bd : List Stmt} {ik : Nat}
theorem forLW_go {D : EndsD} {ca : Nat → Addr} (J : List (List Nat × LW2) → Sto → Prop) (h0 : ∀ ρ, J [] ρ → D.nx ρ) (h1 : ∀ (K : Sto → Prop) l ls ρ, J (l :: ls) ρ → (∀ ρ', J ls ρ' → K ρ') → noOb ρ ik ∧ tb { D with nx := K, ct := K, bk := D.nx } (ρ.set ik (.ask (.lam ca l.1 l.2)))) : ∀ ls ρ, J ls ρ → forLW ca ik tb D ls ρ
  | [], ρ, j => h0 ρ j
  | l :: ls, ρ, j => by
    unfold forLW
    exact h1 _ l ls ρ j fun ρ' j' => forLW_go J h0 h1 ls ρ' j'
end
/-- a comprehension that chooses -/
theorem lcW_sel {ρw : Sto} {vs : List Nat} {g : DTG} {tt : DTT} {te : DTE} {Q : List PyData → Prop} (c : PyData → Bool) (f : PyData → PyData) : ∀ {ds acc : List PyData}, acc.length + ds.length ≤ 1000000 →
    (∀ d ∈ ds, ∀ (P : Prop) (R : PyData → Prop), (c d = true → R (f d)) → (c d = false → P) → g d ρw fun ρ1 => tt ρ1 fun b ρ2 => if b = true then te ρ2 fun y ρ3 => (noObs ρ3 vs ∧ wipeD ρ3 vs = ρw) ∧ R y else (noObs ρ2 vs ∧ wipeD ρ2 vs = ρw) ∧ P) →
    Q (acc ++ (ds.filter c).map f) → lcW ρw vs g tt te ds acc Q := by
  intro ds
  induction ds with
  | nil =>
    intro acc _ _ q
    unfold lcW
    simpa using q
  | cons d ds ih =>
    intro acc l h q
    rw [List.length_cons] at l
    unfold lcW
    refine h d List.mem_cons_self _ _ (fun hc => ⟨Nat.lt_of_le_of_lt (by omega : acc.length ≤ 1000000) (by decide), ih (by rw [List.length_append, List.length_singleton]; omega) (fun x m => h x (List.mem_cons_of_mem _ m)) ?_⟩) (fun hc => ih (by omega) (fun x m => h x (List.mem_cons_of_mem _ m)) ?_)
    · rw [List.filter_cons, if_pos hc, List.map_cons] at q
      rw [List.append_assoc]
      exact q
    · rw [List.filter_cons, if_neg (by rw [hc]; decide)] at q
      exact q
end Dl
set_option Elab.async false
set_option linter.all false
set_option maxRecDepth 100000
set_option maxHeartbeats 4000000
namespace Lw
open PySem PySem.Spec PyProof PyProof.Rows L2 So Da Dl
def top (i : Nat) : Stmt := PySem.Challenge.pw_stillopen_k30_endings_and_what_is_none.main.body.getD i (.Pass ⟨0, 0, 0, 0⟩)
abbrev c_BadStream : Stmt := top 5
abbrev c_BadMachine : Stmt := top 6
abbrev c_Refused : Stmt := top 7
structure Tz (K : PySem.W.Frag) (mg : Str → Option Value) : Prop where
  kd : ∀ (p : Addr) (ob : Obj), K.lookup p = some ob → ob.cls = .type "tuple" → ob.dict = none
  abs : mg "abs" = none
  all : mg "all" = none
  bool : mg "bool" = none
  enumerate : mg "enumerate" = none
  int : mg "int" = none
  isi : mg "isinstance" = none
  len : mg "len" = none
  list : mg "list" = none
  max : mg "max" = none
  min : mg "min" = none
  range : mg "range" = none
  repr : mg "repr" = none
  reversed : mg "reversed" = none
  set : mg "set" = none
  sorted : mg "sorted" = none
  str : mg "str" = none
  tuple : mg "tuple" = none
  zip : mg "zip" = none
  c_LETTERS : ∃ t, mg "LETTERS" = some (.str "abcdefghijklmnopqrstuvwxyz" t)
  c_LABEL_MOST : ∃ t, mg "LABEL_MOST" = some (.int 12 t)
  c_TEXT_MOST : ∃ t, mg "TEXT_MOST" = some (.int 65535 t)
  c_LABELS_MOST : ∃ t, mg "LABELS_MOST" = some (.int 6 t)
  c_TEXTS_MOST : ∃ t, mg "TEXTS_MOST" = some (.int 4 t)
  c_STATES_MOST : ∃ t, mg "STATES_MOST" = some (.int 200 t)
  c_WORDS_MOST : ∃ t, mg "WORDS_MOST" = some (.int 8 t)
theorem hu1_of {k : Nat} {A : Around} (r : Room k A) : A.units + 65 < cLine := by have := r.un; omega
end Lw
set_option Elab.async false
set_option linter.all false
set_option maxRecDepth 100000
set_option maxHeartbeats 1000000
set_option pp.deepTerms true
set_option pp.maxSteps 200000
namespace Lw
open PySem PySem.Spec PyProof PyProof.Rows L2 So Da Dl
local macro_rules | `(tactic| walk_at "z") => `(tactic| repeat (first | refine ⟨(by decide), ?_⟩ | refine ⟨(by omega), ?_⟩ | refine ⟨rfl, ?_⟩))
section
variable {Z : Zw}
def intW (D : PyData) (k : Int → Prop) : Prop := match D with
  | .int i => k i
  | _ => False
theorem intW_inv {D : PyData} {k : Int → Prop} (h : intW D k) : ∃ i, D = .int i ∧ k i := by
  cases D <;> first | exact ⟨_, rfl, h⟩ | exact h.elim
theorem hiD {D : PyData} (hs : isSq D = true) {k : List PyData → Prop} (h : k (itD D)) : itemsD D k := by
  cases D <;> first | exact h | exact nomatch hs
def numB (D : PyData) : Bool := match D with
  | .int i => decide (0 ≤ i)
  | _ => false
abbrev T_is_number : TD := T1 fun D Q _ => Q (.bool (numB D))
abbrev s_is_number : Stmt := top 12
theorem sc_is_number : FnScope ["value"] ["value"] (defScope s_is_number) := ⟨rfl, rfl, rfl, by decide +kernel, rfl, by decide +kernel, by decide +kernel⟩
local macro_rules | `(tactic| walk_at "d") => `(tactic| simp only [↓dSeq, ↓dFor, ↓reprD, ↓dCallK, ↓dIfS, ↓dAndV, ↓dOrV, ↓dUn, ↓dOp, ↓dC, ↓dVar, ↓derefW, ↓deref, ↓known, ↓noOb, ↓nbO, ↓start0, ↓endsOf, ↓outA, ↓toB, ↓dAnd, ↓dOr, ↓dNot, ↓ofB, ↓dIf, ↓dChain, ↓dgName, ↓dgSeq, ↓dgCons, ↓dgNil, ↓dLc, ↓popW, ↓atOl, ↓isOl, ↓ownS, ↓frzD, ↓dCall, argsOf, argLc, obSlots, upS, upO, ↓noObs, ↓wipeD, List.map_cons, List.map_nil, List.length_cons, List.length_nil, Nat.sub_self, Nat.zero_add, Nat.reduceAdd, Nat.reduceSub, List.replicate, List.append_nil, List.cons_append, List.nil_append, List.getElem?_cons_zero, List.getElem?_cons_succ, List.getElem?_nil, List.set, List.head?, List.tail, Option.getD_some, Option.getD_none, List.nodup_nil, List.nodup_cons, List.not_mem_nil, List.mem_cons, List.mem_singleton, or_false, Nat.reduceEqDiff, true_and, and_true, Bool.not_true, Bool.not_false, if_true, Bool.false_eq_true, if_false, ite_true, ite_false, not_false_eq_true, reduceCtorEq, eqD_int, eqD_str, eqD_bl, eqD_tuple, eqD_list, eqD_tupleR, eqD_listR, eqD_non, neD_int, neD_str, neD_bl, neD_tuple, neD_list, neD_tupleR, neD_listR, neD_non, ↓isD, ↓notD, ix_0, ix_1, ix_2, ix_3, ix_4, ix_L0, ix_L1, ix_L2, itemsD_L, itemsD_T, tupleD_L, tupleD_T, listD_L, listD_T, lenD_L, lenD_T, lenD_S, slD_L, slD_T, addD_I, addD_S, addD_T, addD_L, subD_I, mulD_I, ltD_I, ltD_S, leD_I, gtD_I, geD_I, modD_I, fdivD_I, powD_I, intD_I, intD_B, negD_I, isND_N, isND_I, isND_S, isND_B, isND_T, isND_L, sq_T, sq_L, sq_N, sq_I, sq_S, sq_B, at_0, at_1, at_2, at_3, at_4, ↓isiD, pick, List.filterMap_cons_some, List.filterMap_nil, List.filterMap_cons, ↓ownC, ↓T1, ↓T2, ↓T3, ↓T4, ↓dHeard, ↓capsD, ↓slotsD, ↓lamW, lamSto, cpLc, ↓dHeardS, ↓dAsks, ↓asksW, ↓heardT, ↓Tbox, ↓Ttake, ↓intW])
theorem ok_is_number {f : Addr} {fd : FuncData} (F : Fun Z.K "is_number" "is_number" s_is_number f fd) (T : Tz Z.K Z.mg) : FnD Z.Pg Z.w Z.K Z.mg Z.base CX0 1 f fd ["value"] (spT Z (T_is_number)) := by
  refine okD F sc_is_number (fun as Q er h => ?_) (fun cdv A outer s H E G0 ca hr hgd hca => (dss_one (ds_ret (de_and (de_isi (T := "int") (kf := intB) kitf_int (by rfl) T.isi (by rfl) T.int (by decide +kernel) (by decide) (by decide) (dr_var 0)) (de_and (de_not (de_isi (T := "bool") (kf := blB) kitf_bool (by rfl) T.isi (by rfl) T.bool (by decide +kernel) (by decide) (by decide) (dr_var 0))) (de_one (de_cmp op_ge od_ge (dr_var 0) (dr_of de_int) (nomark _)))))))) (fun ca as Q er h => ?_)
  · obtain ⟨_, rfl, _⟩ := t1_inv h
    rfl
  · obtain ⟨a, rfl, q⟩ := t1_inv h
    walk_at "d"
    cases a <;> exact q
def belB (D : PyData) (n : Int) : Bool := match D with
  | .int i => decide (0 ≤ i) && decide (i < n)
  | _ => false
abbrev T_is_number_below : TD := T2 fun D n Q _ => intW n fun m => Q (.bool (belB D m))
abbrev s_is_number_below : Stmt := top 13
theorem sc_is_number_below : FnScope ["value", "bound"] ["value", "bound"] (defScope s_is_number_below) := ⟨rfl, rfl, rfl, by decide +kernel, rfl, by decide +kernel, by decide +kernel⟩
theorem ok_is_number_below {f : Addr} {fd : FuncData} (F : Fun Z.K "is_number_below" "is_number_below" s_is_number_below f fd) (T : Tz Z.K Z.mg)
    {f_is_number : Addr} {fd_is_number : FuncData} (D_is_number : Df Z.K Z.mg "is_number" s_is_number ["value"] f_is_number fd_is_number) (G_is_number : FnD Z.Pg Z.w Z.K Z.mg Z.base CX0 1 f_is_number fd_is_number ["value"] (spT Z (T_is_number))) : FnD Z.Pg Z.w Z.K Z.mg Z.base CX0 2 f fd ["value", "bound"] (spT Z (T_is_number_below)) := by
  refine okD F sc_is_number_below (fun as Q er h => ?_) (fun cdv A outer s H E G0 ca hr hgd hca => (dss_one (ds_ret (de_and (de_call G_is_number hr hgd (by rfl) D_is_number.g D_is_number.F.kp D_is_number.b (drs_cons (dr_var 0) drs_nil)) (de_one (de_cmp op_ltA od_lt (dr_var 0) (dr_var 1) (nomark _))))))) (fun ca as Q er h => ?_)
  · obtain ⟨_, _, rfl, _⟩ := t2_inv h
    rfl
  · obtain ⟨a, b, rfl, q⟩ := t2_inv h
    obtain ⟨m, rfl, q⟩ := intW_inv q
    walk_at "d"
    cases a with
    | int i =>
      simp only [numB, belB] at q ⊢
      by_cases h1 : 0 ≤ i
      · simp only [decide_eq_true h1, Bool.true_and, if_true] at q ⊢
        exact q
      · simp only [decide_eq_false h1, Bool.false_and, Bool.false_eq_true, if_false] at q ⊢
        exact q
    | _ => exact q
abbrev T_is_sequence : TD := T1 fun D Q _ => Q (.bool (isSq D))
abbrev s_is_sequence : Stmt := top 14
theorem sc_is_sequence : FnScope ["value"] ["value"] (defScope s_is_sequence) := ⟨rfl, rfl, rfl, by decide +kernel, rfl, by decide +kernel, by decide +kernel⟩
theorem ok_is_sequence {f : Addr} {fd : FuncData} (F : Fun Z.K "is_sequence" "is_sequence" s_is_sequence f fd) (T : Tz Z.K Z.mg) : FnD Z.Pg Z.w Z.K Z.mg Z.base CX0 1 f fd ["value"] (spT Z (T_is_sequence)) := by
  refine okD F sc_is_sequence (fun as Q er h => ?_) (fun cdv A outer s H E G0 ca hr hgd hca => (dss_one (ds_ret (de_isiSq (by rfl) T.isi (by rfl) T.list (by rfl) T.tuple (dr_var 0))))) (fun ca as Q er h => ?_)
  · obtain ⟨_, rfl, _⟩ := t1_inv h
    rfl
  · obtain ⟨a, rfl, q⟩ := t1_inv h
    walk_at "d"
    exact q
def rowB (D : PyData) (n : Int) : Bool := isSq D && decide (((itD D).length : Int) = n)
abbrev T_is_row_of : TD := T2 fun D n Q _ => intW n fun m => Q (.bool (rowB D m))
abbrev s_is_row_of : Stmt := top 15
theorem sc_is_row_of : FnScope ["value", "many"] ["value", "many"] (defScope s_is_row_of) := ⟨rfl, rfl, rfl, by decide +kernel, rfl, by decide +kernel, by decide +kernel⟩
theorem ok_is_row_of {f : Addr} {fd : FuncData} (F : Fun Z.K "is_row_of" "is_row_of" s_is_row_of f fd) (T : Tz Z.K Z.mg)
    {f_is_sequence : Addr} {fd_is_sequence : FuncData} (D_is_sequence : Df Z.K Z.mg "is_sequence" s_is_sequence ["value"] f_is_sequence fd_is_sequence) (G_is_sequence : FnD Z.Pg Z.w Z.K Z.mg Z.base CX0 1 f_is_sequence fd_is_sequence ["value"] (spT Z (T_is_sequence))) : FnD Z.Pg Z.w Z.K Z.mg Z.base CX0 2 f fd ["value", "many"] (spT Z (T_is_row_of)) := by
  refine okD F sc_is_row_of (fun as Q er h => ?_) (fun cdv A outer s H E G0 ca hr hgd hca => (dss_one (ds_ret (de_and (de_call G_is_sequence hr hgd (by rfl) D_is_sequence.g D_is_sequence.F.kp D_is_sequence.b (drs_cons (dr_var 0) drs_nil)) (de_one (de_cmp (op_eqA hr.units) od_eq (dr_of (de_callB call_lenA cd_len (by rfl) T.len (by decide +kernel) (dr_var 0))) (dr_var 1) (nomark _))))))) (fun ca as Q er h => ?_)
  · obtain ⟨_, _, rfl, _⟩ := t2_inv h
    rfl
  · obtain ⟨a, b, rfl, q⟩ := t2_inv h
    obtain ⟨m, rfl, q⟩ := intW_inv q
    walk_at "d"
    cases a <;> exact q
def txtB (D : PyData) : Bool := match D with
  | .str z => decide ((z.length : Int) ≤ 65535)
  | _ => false
abbrev T_is_text : TD := T1 fun D Q _ => (∀ z, D = .str z → z.length ≤ sizeLine) ∧ Q (.bool (txtB D))
abbrev s_is_text : Stmt := top 17
theorem sc_is_text : FnScope ["value"] ["value"] (defScope s_is_text) := ⟨rfl, rfl, rfl, by decide +kernel, rfl, by decide +kernel, by decide +kernel⟩
theorem ok_is_text {f : Addr} {fd : FuncData} (F : Fun Z.K "is_text" "is_text" s_is_text f fd) (T : Tz Z.K Z.mg) : FnD Z.Pg Z.w Z.K Z.mg Z.base CX0 1 f fd ["value"] (spT Z (T_is_text)) := by
  refine okD F sc_is_text (fun as Q er h => ?_) (fun cdv A outer s H E G0 ca hr hgd hca => (dss_one (ds_ret (de_and (de_isi (T := "str") (kf := isStr) kitf_str (by rfl) T.isi (by rfl) T.str (by decide +kernel) (by decide) (by decide) (dr_var 0)) (de_one (de_cmp op_le od_le (dr_of (de_callB call_lenA cd_len (by rfl) T.len (by decide +kernel) (dr_var 0))) (dr_of (de_gInt (i := 65535) (by rfl) T.c_TEXT_MOST)) (nomark _))))))) (fun ca as Q er h => ?_)
  · obtain ⟨_, rfl, _⟩ := t1_inv h
    rfl
  · obtain ⟨a, rfl, q⟩ := t1_inv h
    walk_at "d"
    cases a with
    | str z => exact ⟨q.1 z rfl, q.2⟩
    | _ => exact q.2
def stB (many : Int) (D : PyData) : Bool := match D with
  | .int i => decide (0 ≤ i) && decide (i < many)
  | _ => false
def mapB (D : PyData) (len many : Int) : Bool := rowB D len && (itD D).all (stB many)
theorem row_sq {D : PyData} {n : Int} (h : rowB D n = true) : isSq D = true := (Bool.and_eq_true_iff.mp h).1
abbrev T_is_map : TD := T3 fun D l m Q _ => intW l fun len => intW m fun many => Q (.bool (mapB D len many))
abbrev s_is_map : Stmt := top 40
theorem sc_is_map : FnScope ["value", "length", "many", "state"] ["value", "length", "many"] (defScope s_is_map) := ⟨rfl, rfl, rfl, by decide +kernel, rfl, by decide +kernel, by decide +kernel⟩
theorem ok_is_map {f : Addr} {fd : FuncData} (F : Fun Z.K "is_map" "is_map" s_is_map f fd) (T : Tz Z.K Z.mg)
    {f_is_row_of : Addr} {fd_is_row_of : FuncData} (D_is_row_of : Df Z.K Z.mg "is_row_of" s_is_row_of ["value", "many"] f_is_row_of fd_is_row_of) (G_is_row_of : FnD Z.Pg Z.w Z.K Z.mg Z.base CX0 2 f_is_row_of fd_is_row_of ["value", "many"] (spT Z (T_is_row_of))) : FnD Z.Pg Z.w Z.K Z.mg Z.base CX0 3 f fd ["value", "length", "many"] (spT Z (T_is_map)) := by
  refine okD F sc_is_map (fun as Q er h => ?_) (fun cdv A outer s H E G0 ca hr hgd hca => (dss_cons (ds_if (dt_not (dt_val (de_call G_is_row_of hr hgd (by rfl) D_is_row_of.g D_is_row_of.F.kp D_is_row_of.b (drs_cons (dr_var 0) (drs_cons (dr_var 1) drs_nil)))))
        (dss_one (ds_ret de_bl))
        dss_nil)
      (dss_cons (ds_for PassesOwn.never rfl (di_seq (de_var 0)) (dg_name (i := 3) sc_is_map.nd rfl (Or.inl rfl))
        (dss_one (ds_if (DW.dt (dw_or (dt_not (dt_val (de_isi (T := "int") (kf := intB) kitf_int (by rfl) T.isi (by rfl) T.int (by decide +kernel) (by decide) (by decide) (dr_var 3)))) (dw_or (dt_val (de_isi (T := "bool") (kf := blB) kitf_bool (by rfl) T.isi (by rfl) T.bool (by decide +kernel) (by decide) (by decide) (dr_var 3))) (dw_or1 (dt_not (dt_chain op_le od_le op_ltA od_lt (dr_of de_int) (dr_var 3) (dr_var 2)))))))
          (dss_one (ds_ret de_bl))
          dss_nil)))
      (dss_one (ds_ret de_bl))))) (fun ca as Q er h => ?_)
  · obtain ⟨_, _, _, rfl, _⟩ := t3_inv h
    rfl
  · obtain ⟨a, b, c, rfl, q⟩ := t3_inv h
    obtain ⟨len, rfl, q⟩ := intW_inv q
    obtain ⟨many, rfl, q⟩ := intW_inv q
    walk_at "d"
    unfold mapB at q
    cases hr : rowB a len with
    | false =>
      rw [hr] at q
      exact q
    | true =>
      rw [hr, Bool.true_and] at q
      refine hiD (row_sq hr) ?_
      refine forW_ind (fun ds ρ => ∃ s, ρ = [.sh a, .sh (.int len), .sh (.int many), s] ∧ nbO (some s) ∧ ds.all (stB many) = (itD a).all (stB many)) ?_ ?_ _ _ ⟨.un, rfl, trivial, rfl⟩
      · rintro ρ ⟨s, rfl, _, e⟩
        rw [← e] at q
        walk_at "d"
        exact q
      · rintro d ds ρ ⟨s, rfl, hs, e⟩ ih
        refine ⟨hs, ?_⟩
        walk_at "d"
        rw [List.all_cons] at e
        cases d with
        | int i =>
          simp only [intB, blB, leD_I, ltD_I, Bool.not_true, Bool.not_false, Bool.false_eq_true, if_false, if_true]
          by_cases h1 : 0 ≤ i
          · by_cases h2 : i < many
            · have e1 : stB many (.int i) = true := by simp only [stB, decide_eq_true h1, decide_eq_true h2, Bool.and_self]
              rw [e1, Bool.true_and] at e
              simp only [decide_eq_true h1, decide_eq_true h2, if_true, Bool.not_true, Bool.false_eq_true, if_false]
              exact ih _ ⟨_, rfl, trivial, e⟩
            · have e1 : stB many (.int i) = false := by simp only [stB, decide_eq_false h2, Bool.and_false]
              rw [e1, Bool.false_and] at e
              rw [← e] at q
              simp only [decide_eq_true h1, decide_eq_false h2, if_true, Bool.not_false, Bool.false_eq_true, if_false]
              exact q
          · have e1 : stB many (.int i) = false := by simp only [stB, decide_eq_false h1, Bool.false_and]
            rw [e1, Bool.false_and] at e
            rw [← e] at q
            simp only [decide_eq_false h1, if_true, Bool.not_false, Bool.false_eq_true, if_false]
            exact q
        | _ =>
          have e : false = _ := e
          rw [← e] at q
          exact q
def mapsB (D : PyData) (len many : Int) : Bool := rowB D len && (itD D).all fun r => mapB r many many
abbrev T_are_maps : TD := T3 fun D l m Q _ => intW l fun len => intW m fun many => Q (.bool (mapsB D len many))
abbrev s_are_maps : Stmt := top 41
theorem sc_are_maps : FnScope ["value", "length", "many", "row"] ["value", "length", "many"] (defScope s_are_maps) := ⟨rfl, rfl, rfl, by decide +kernel, rfl, by decide +kernel, by decide +kernel⟩
theorem ok_are_maps {f : Addr} {fd : FuncData} (F : Fun Z.K "are_maps" "are_maps" s_are_maps f fd) (T : Tz Z.K Z.mg)
    {f_is_row_of : Addr} {fd_is_row_of : FuncData} (D_is_row_of : Df Z.K Z.mg "is_row_of" s_is_row_of ["value", "many"] f_is_row_of fd_is_row_of) (G_is_row_of : FnD Z.Pg Z.w Z.K Z.mg Z.base CX0 3 f_is_row_of fd_is_row_of ["value", "many"] (spT Z (T_is_row_of)))
    {f_is_map : Addr} {fd_is_map : FuncData} (D_is_map : Df Z.K Z.mg "is_map" s_is_map ["value", "length", "many"] f_is_map fd_is_map) (G_is_map : FnD Z.Pg Z.w Z.K Z.mg Z.base CX0 3 f_is_map fd_is_map ["value", "length", "many"] (spT Z (T_is_map))) : FnD Z.Pg Z.w Z.K Z.mg Z.base CX0 4 f fd ["value", "length", "many"] (spT Z (T_are_maps)) := by
  refine okD F sc_are_maps (fun as Q er h => ?_) (fun cdv A outer s H E G0 ca hr hgd hca => (dss_cons (ds_if (dt_not (dt_val (de_call G_is_row_of hr hgd (by rfl) D_is_row_of.g D_is_row_of.F.kp D_is_row_of.b (drs_cons (dr_var 0) (drs_cons (dr_var 1) drs_nil)))))
        (dss_one (ds_ret de_bl))
        dss_nil)
      (dss_cons (ds_for PassesOwn.never rfl (di_seq (de_var 0)) (dg_name (i := 3) sc_are_maps.nd rfl (Or.inl rfl))
        (dss_one (ds_if (dt_not (dt_val (de_call G_is_map hr hgd (by rfl) D_is_map.g D_is_map.F.kp D_is_map.b (drs_cons (dr_var 3) (drs_cons (dr_var 2) (drs_cons (dr_var 2) drs_nil))))))
          (dss_one (ds_ret de_bl))
          dss_nil)))
      (dss_one (ds_ret de_bl))))) (fun ca as Q er h => ?_)
  · obtain ⟨_, _, _, rfl, _⟩ := t3_inv h
    rfl
  · obtain ⟨a, b, c, rfl, q⟩ := t3_inv h
    obtain ⟨len, rfl, q⟩ := intW_inv q
    obtain ⟨many, rfl, q⟩ := intW_inv q
    walk_at "d"
    unfold mapsB at q
    cases hr : rowB a len with
    | false =>
      rw [hr] at q
      exact q
    | true =>
      rw [hr, Bool.true_and] at q
      refine hiD (row_sq hr) ?_
      refine forW_ind (fun ds ρ => ∃ s, ρ = [.sh a, .sh (.int len), .sh (.int many), s] ∧ nbO (some s) ∧ (ds.all fun r => mapB r many many) = (itD a).all fun r => mapB r many many) ?_ ?_ _ _ ⟨.un, rfl, trivial, rfl⟩
      · rintro ρ ⟨s, rfl, _, e⟩
        rw [← e] at q
        walk_at "d"
        exact q
      · rintro d ds ρ ⟨s, rfl, hs, e⟩ ih
        refine ⟨hs, ?_⟩
        walk_at "d"
        rw [List.all_cons] at e
        cases h1 : mapB d many many with
        | true =>
          rw [h1, Bool.true_and] at e
          exact ih _ ⟨_, rfl, trivial, e⟩
        | false =>
          rw [h1, Bool.false_and] at e
          rw [← e] at q
          exact q
end
end Lw
set_option Elab.async false
set_option linter.all false
set_option maxRecDepth 100000
set_option maxHeartbeats 1000000
set_option pp.deepTerms true
set_option pp.maxSteps 200000
namespace Lw
open PySem PySem.Spec PyProof PyProof.Rows L2 So Da Dl
local macro_rules | `(tactic| walk_at "z") => `(tactic| repeat (first | refine ⟨(by decide), ?_⟩ | refine ⟨(by omega), ?_⟩ | refine ⟨rfl, ?_⟩))
section
variable {Z : Zw}
def lets : Str := "abcdefghijklmnopqrstuvwxyz"
def isLab (z : Str) : Bool := decide ((1 : Int) ≤ (z.length : Int)) && decide ((z.length : Int) ≤ 12) && z.cps.toList.all fun c => decide (c ∈ lets.cps.toList)
def labD : PyData → Bool
  | .str z => isLab z
  | _ => false
abbrev s_is_label : Stmt := top 16
theorem sc_is_label : FnScope ["value"] ["value"] (defScope s_is_label) := ⟨rfl, rfl, rfl, by decide +kernel, rfl, by decide +kernel, by decide +kernel⟩
abbrev T_is_label : TD := T1 fun D Q _ => (∀ z, D = .str z → z.length ≤ 100000) ∧ Q (.bool (labD D))
theorem ok_is_label {f c : Addr} {fd : FuncData} (F : DfC Z.K Z.mg "is_label" s_is_label ["value"] f fd c) (T : Tz Z.K Z.mg) (TB : GxR.TabB Z.base Z.mg c Z.T.P) (ap : Apt Z.T) : FnD Z.Pg Z.w Z.K Z.mg Z.base CX0 1 f fd ["value"] (spT Z T_is_label) := by
  obtain ⟨_, tm⟩ := T.c_LABEL_MOST
  obtain ⟨_, tl⟩ := T.c_LETTERS
  refine .of (F.ok sc_is_label (fun vs H Q E ⟨G, as, Q0, er, tb, R, hT, _⟩ => ?_) (fun A outer s H vs Q E hr ⟨G, as, Q0, er, tb, R, hT, hQ, _⟩ => ?_))
  · obtain ⟨D, rfl, _⟩ := t1_inv hT
    have := R.len
    rw [List.length_map] at this
    exact this
  · obtain ⟨D, rfl, hz, q⟩ := t1_inv hT
    obtain ⟨v, rfl⟩ := one_arg R
    have hD := R.dp (rep_dp1 R)
    have t := R.tab tb
    have k0 : ∀ b : Bool, b = labD D → Q (.bl b) H := fun b e => hQ (.bool b) _ _ _ _ (by rw [e]; exact q) (.sh .nil) (Ex.refl tb) R (.bl b)
    have k1 : ∀ b : Bool, b = labD D → ∀ H', GxR.Tabbed Z.T.P H H' → Q (.bl b) H' := fun b e H' s1 => by
      obtain ⟨G', s2, R'⟩ := R.tabbed ap tb s1
      exact hQ (.bool b) _ _ _ _ (by rw [e]; exact q) (.sh .nil) s2 R' (.bl b)
    refine ⟨_, pss_cons (ps_if (PW.pt (pw_or (pt_not (pt_val (pe_callB call_isY (by rfl) T.isi (by decide +kernel) (pa_cons (pv 0) (pa_cons (pe_bltn (v := .ty "str") (by rfl) T.str (by decide +kernel) rfl) pa_nil)))))
        (pw_or1 (pt_not (pt_chain op_le op_le pe_int (pe_callB call_len_str (by rfl) T.len (by decide +kernel) (pa_cons (pv 0) pa_nil)) (pe_glob (v := .int 12) (by rfl) tm ⟨_, rfl⟩))))))
        (pss_one (ps_ret pe_bl)) pss_nil)
      (pss_one (ps_ret (SoGx.pe_allG (c := c) (P := Z.T.P) (pb := fun c => decide (c ∈ lets.cps.toList)) hr (by rfl) T.all (by decide +kernel) TB rfl ⟨rfl, rfl, by decide +kernel, rfl, rfl, fun y hy e => False.elim (by revert hy e; revert y; decide +kernel)⟩ (pv 0) (SoGx.elt_in rfl rfl rfl tl) (fun _ => rfl)))), ?_⟩
    obtain ⟨ty, hty, hk⟩ := tyAll kitf_str hD
    refine ⟨_, rfl, _, _, _, _, _, rfl, .ty _, hty, hk, _, rfl, ?_⟩
    cases hD with
    | bl b => exact iteT (k0 _ rfl)
    | non => exact iteT (k0 _ rfl)
    | int b => exact iteT (k0 _ rfl)
    | lst _ _ => exact iteT (k0 _ rfl)
    | tup _ _ => exact iteT (k0 _ rfl)
    | dic _ _ => exact iteT (k0 _ rfl)
    | clo _ _ => exact iteT (k0 _ rfl)
    | str z =>
      refine iteF ?_
      refine ⟨_, rfl, z, rfl, Nat.le_trans (hz z rfl) (by decide), _, _, rfl, rfl, _, rfl, ?_⟩
      refine ite2 (fun h1 => ?_) (fun h1 => ?_)
      · refine ⟨_, _, rfl, rfl, _, rfl, ?_⟩
        by_cases h2 : (z.length : Int) ≤ 12
        · rw [decide_eq_true h2]
          refine iteF ?_
          refine ⟨_, rfl, z, rfl, t.1, fun H2 hT => k1 _ ?_ H2 hT⟩
          show _ = isLab z
          unfold isLab
          rw [h1, decide_eq_true h2]
          rfl
        · rw [decide_eq_false h2]
          refine iteT (k0 _ ?_)
          show _ = isLab z
          unfold isLab
          rw [decide_eq_false h2, Bool.and_false, Bool.false_and]
      · refine ⟨false, rfl, iteT (k0 _ ?_)⟩
        show _ = isLab z
        unfold isLab
        rw [Bool.eq_false_iff.mpr h1, Bool.false_and, Bool.false_and]
def nD (n : Nat) : PyData := .int (n : Nat)
def rowD (r : List Nat) : PyData := .tuple (r.map nD)
def rowsD (rs : List (List Nat)) : PyData := .tuple (rs.map rowD)
def ansD (r : List Bool) : PyData := .tuple (r.map .bool)
structure Ma where
  ls : List Str
  xs : List Str
  tn : Nat
  t0 : Nat
  tx : List (List Nat)
  tc : List (List Nat)
  an : List (List Bool)
  im : Nat
  st : List Nat
  ix : List (List Nat)
  ic : List (List Nat)
def topD (M : Ma) : PyData := .tuple [nD M.tn, nD M.t0, rowsD M.tx, rowsD M.tc, .tuple (M.an.map ansD)]
def innD (M : Ma) : PyData := .tuple [nD M.im, rowD M.st, rowsD M.ix, rowsD M.ic]
def maD (M : Ma) : PyData := .tuple [.tuple (M.ls.map .str), .tuple (M.xs.map .str), topD M, innD M]
def asc : List Str → Bool
  | a :: b :: r => decide (a.cps.toList < b.cps.toList) && asc (b :: r)
  | _ => true
def mapOk (r : List Nat) (len many : Nat) : Prop := r.length = len ∧ ∀ s ∈ r, s < many
def mapsOk (rs : List (List Nat)) (len many : Nat) : Prop := rs.length = len ∧ ∀ r ∈ rs, mapOk r many many
structure MaOk (M : Ma) : Prop where
  l6 : M.ls.length ≤ 6
  lab : M.ls.all isLab = true
  la : asc M.ls = true
  x4 : M.xs.length ≤ 4
  txt : ∀ z ∈ M.xs, z.length ≤ 65535
  xa : asc M.xs = true
  tn : 1 ≤ M.tn ∧ M.tn ≤ 200
  t0 : M.t0 < M.tn
  tx : mapsOk M.tx (M.xs.length + 1) M.tn
  tc : mapsOk M.tc M.im M.tn
  an : M.an.length = M.tn
  wl : ∃ m, 1 ≤ m ∧ m ≤ 8 ∧ ∀ r ∈ M.an, r.length = m
  im : 1 ≤ M.im ∧ M.im ≤ 200
  st : mapOk M.st (M.ls.length + 1) M.im
  ix : mapsOk M.ix (M.xs.length + 1) M.im
  ic : mapsOk M.ic M.im M.im
theorem mapB_row {r : List Nat} {len many : Nat} (h : mapOk r len many) : mapB (rowD r) (len : Nat) (many : Nat) = true := by
  obtain ⟨rfl, h⟩ := h
  have e : (r.map nD).all (stB (many : Nat)) = true := by
    rw [List.all_map, List.all_eq_true]
    intro s hs
    have := h s hs
    show (decide ((0 : Int) ≤ (s : Nat)) && decide (((s : Nat) : Int) < (many : Nat))) = true
    rw [decide_eq_true (by omega), decide_eq_true (by omega)]
    rfl
  unfold mapB rowB rowD
  simp only [isSq, itD, List.length_map, e, decide_true, Bool.and_self]
theorem mapsB_rows {rs : List (List Nat)} {len many : Nat} (h : mapsOk rs len many) : mapsB (rowsD rs) (len : Nat) (many : Nat) = true := by
  obtain ⟨rfl, h⟩ := h
  have e : ((rs.map rowD).all fun r => mapB r (many : Nat) (many : Nat)) = true := by
    rw [List.all_map, List.all_eq_true]
    intro s hs
    exact mapB_row (h s hs)
  unfold mapsB rowB rowsD
  simp only [isSq, itD, List.length_map, e, decide_true, Bool.and_self]
theorem ix_ma0 {M : Ma} {Q : PyData → Prop} : ixD (maD M) (.int 0) Q = Q (.tuple (M.ls.map .str)) := ix_0
theorem ix_ma1 {M : Ma} {Q : PyData → Prop} : ixD (maD M) (.int 1) Q = Q (.tuple (M.xs.map .str)) := ix_1
theorem ix_ma2 {M : Ma} {Q : PyData → Prop} : ixD (maD M) (.int 2) Q = Q (topD M) := ix_2
theorem ix_ma3 {M : Ma} {Q : PyData → Prop} : ixD (maD M) (.int 3) Q = Q (innD M) := ix_3
theorem ix_inn0 {M : Ma} {Q : PyData → Prop} : ixD (innD M) (.int 0) Q = Q (nD M.im) := ix_0
theorem ix_inn1 {M : Ma} {Q : PyData → Prop} : ixD (innD M) (.int 1) Q = Q (rowD M.st) := ix_1
theorem ix_inn2 {M : Ma} {Q : PyData → Prop} : ixD (innD M) (.int 2) Q = Q (rowsD M.ix) := ix_2
theorem ix_inn3 {M : Ma} {Q : PyData → Prop} : ixD (innD M) (.int 3) Q = Q (rowsD M.ic) := ix_3
theorem ix_top0 {M : Ma} {Q : PyData → Prop} : ixD (topD M) (.int 0) Q = Q (nD M.tn) := ix_0
theorem ix_top1 {M : Ma} {Q : PyData → Prop} : ixD (topD M) (.int 1) Q = Q (nD M.t0) := ix_1
theorem ix_top2 {M : Ma} {Q : PyData → Prop} : ixD (topD M) (.int 2) Q = Q (rowsD M.tx) := ix_2
theorem ix_top3 {M : Ma} {Q : PyData → Prop} : ixD (topD M) (.int 3) Q = Q (rowsD M.tc) := ix_3
theorem ix_top4 {M : Ma} {Q : PyData → Prop} : ixD (topD M) (.int 4) Q = Q (.tuple (M.an.map ansD)) := ix_4
end
end Lw
set_option Elab.async false
set_option linter.all false
set_option maxRecDepth 100000
set_option maxHeartbeats 1000000
set_option pp.deepTerms true
set_option pp.maxSteps 200000
namespace Lw
open PySem PySem.Spec PyProof PyProof.Rows L2 So Da Dl
local macro_rules | `(tactic| walk_at "z") => `(tactic| repeat (first | refine ⟨(by decide), ?_⟩ | refine ⟨(by omega), ?_⟩ | refine ⟨rfl, ?_⟩))
section
variable {Z : Zw}
theorem asc_at : ∀ {L : List Str} {i : Nat} {x y : Str}, asc L = true → L[i]? = some x → L[i + 1]? = some y → decide (x.cps.toList < y.cps.toList) = true
  | a :: b :: r, 0, x, y, h, h1, h2 => by
    unfold asc at h
    cases h1
    cases h2
    exact (Bool.and_eq_true_iff.mp h).1
  | a :: b :: r, i + 1, x, y, h, h1, h2 => by
    unfold asc at h
    exact asc_at (L := b :: r) (i := i) (Bool.and_eq_true_iff.mp h).2 (by simpa using h1) (by simpa using h2)
  | [a], i, x, y, _, h1, h2 => by simp at h2
  | [], i, x, y, _, h1, _ => by simp at h1
theorem map_const {ds : List PyData} {d : PyData} (n : Nat) (h : ds.length = n) : ds.map (fun _ => d) = List.replicate n d := by
  rw [← h, List.map_const']
theorem all_true {n : Nat} {k : PyData → Prop} (h : k (.bool true)) : allD (.list (List.replicate n (.bool true))) k := ⟨List.replicate n true, by rw [List.map_replicate], by
  have : (List.replicate n true).all id = true := by rw [List.all_eq_true]; intro x hx; rw [(List.mem_replicate.mp hx).2]; rfl
  rw [this]
  exact h⟩
theorem cut1 (ds : List PyData) : Dl.cutD ds (some 1) none = ds.drop 1 := by
  cases ds with
  | nil => rfl
  | cons d ds =>
    unfold Dl.cutD
    have e1 : HT.sIx (d :: ds).length 0 (some 1) = 1 := by
      show (if (1 : Int) < 0 then ((1 : Int) + ((d :: ds).length : Int)).toNat else min (1 : Int).toNat (d :: ds).length) = 1
      rw [if_neg (by decide), List.length_cons]
      show min 1 (ds.length + 1) = 1
      omega
    rw [e1]
    show ((d :: ds).drop 1).take ((d :: ds).length - 1) = _
    rw [List.take_of_length_le (by rw [List.length_drop]; omega)]
abbrev T_is_ascending : TD := T1 fun D Q _ => ∃ L : List Str, D = .tuple (L.map .str) ∧ L.length ≤ 100 ∧ asc L = true ∧ Q (.bool true)
def sV (L : List Str) : List V := L.map V.str
theorem sV_at {L : List Str} {i : Nat} {x : V} (h : (sV L)[i]? = some x) : ∃ z, L[i]? = some z ∧ x = .str z := by
  unfold sV at h
  rw [List.getElem?_map] at h
  cases e : L[i]? with
  | none =>
    rw [e] at h
    cases h
  | some y =>
    rw [e] at h
    exact ⟨y, rfl, (Option.some.inj h).symm⟩
theorem cutV1 (xs : List V) : cutV xs (some 1) none = xs.drop 1 := by
  cases xs with
  | nil => rfl
  | cons x r => simp [cutV, HT.sIx]
theorem cb1_of {r : List V → Hp → VK → Prop} {ta : TE} {σ : L2.St} {H : Hp} {Q : VK} (h : ta σ H fun x H1 => r [x] H1 Q) : tCB r (tCons ta tNil) σ H Q := h
abbrev s_is_ascending : Stmt := top 38
theorem sc_is_ascending : FnScope ["names", "one", "other"] ["names"] (defScope s_is_ascending) := ⟨rfl, rfl, rfl, by decide +kernel, rfl, by decide +kernel, by decide +kernel⟩
theorem ok_is_ascending {f : Addr} {fd : FuncData} (F : Fun Z.K "_is_ascending" "_is_ascending" s_is_ascending f fd) (T : Tz Z.K Z.mg) : FnD Z.Pg Z.w Z.K Z.mg Z.base CX0 1 f fd ["names"] (spT Z (T_is_ascending)) := by
  refine .of (F.ok sc_is_ascending (fun vs H Q E ⟨G, as, Q0, er, tb, R, hT, _⟩ => ?_) (fun cdv A' outer s H vs Q E hr ⟨G, as, Q0, er, tb, R, hT, hQ, _⟩ => ?_))
  · obtain ⟨D, rfl, _⟩ := t1_inv hT
    have := R.len
    rw [List.length_map] at this
    exact this
  · obtain ⟨D, rfl, L, rfl, hl, hasc, q⟩ := t1_inv hT
    obtain ⟨v, rfl⟩ := one_arg R
    have hD := R.dp (rep_dp1 R)
    obtain ⟨a, rfl, ha⟩ : ∃ a, v = .ref a ∧ SqT Z.K H a (sV L) := by
      cases hD with
      | tup sq da => exact ⟨_, rfl, by rw [dpa_strs da] at sq; exact sq⟩
    have k : ∀ v H', Sub H H' → v = V.bl true → Q v H' := fun v H' s1 e => by
      subst e
      exact hQ (.bool true) _ _ _ _ q (.sh .nil) (Ex.refl tb) (R.sup no_sh1 tb s1) (.bl true)
    refine ⟨_, pss_one (ps_ret (pe_callB (cr_all rfl) (by rfl) T.all (by decide +kernel) (pa_cons (pe_lc (own := [("one", 1), ("other", 2)]) (g := gTup Z.K 2 (gCons (gName 1) (gCons (gName 2) gNil))) (tt := tYes) rfl sc_is_ascending.nd
      (RZ.pi_zipA (by rfl) T.zip (pa_cons (pv 0) (pa_cons (pe_slice sl_tupA (pv 0) (po_some pe_int) po_none) pa_nil))) (blkOk_by (N := ["names", "one", "other"]) (sc := defScope s_is_ascending) (by decide +kernel))
      (fun _ _ _ _ _ => show PG _ _ (gTup Z.K 2 (gCons (gName 1) (gCons (gName 2) gNil))) from pg_tup rfl (pgs_cons (pg_name (i := 1) sc_is_ascending.nd rfl (Or.inl rfl)) (pgs_cons (pg_name (i := 2) sc_is_ascending.nd rfl (Or.inl rfl)) pgs_nil))) (fun _ _ _ _ _ => pts_nil)
      (fun _ _ _ _ _ => pe_cmpR op_lt_str (pv 1) (pv 2) (nomark _))) pa_nil))), ?_⟩
    have lL : (sV L).length = L.length := by unfold sV; rw [List.length_map]
    refine cb1_of ?_
    refine ⟨_, rfl, _, rfl, 1, rfl, ?_⟩
    -- one turn
    have turn : ∀ (H1 : Hp), Sub H H1 → ∀ (D : Addr), H1 D = none → ∀ (i : Nat) (x : V) (H2 H3 : Hp), i < min (sV L).length ((sV L).drop 1).length → (Sub H1 H2 ∧ H2 D = some (.lst ((List.replicate i true).map V.bl))) → YPair (fun i => (sV L)[i]?) (fun i => ((sV L).drop 1)[i]?) i H2 x H3 →
        gTup Z.K 2 (gCons (gName 1) (gCons (gName 2) gNil)) x (wipe (L2.start ["names", "one", "other"] [V.ref a]) [1, 2]) H3 fun σ2 H4 => wipe σ2 [1, 2] = wipe (L2.start ["names", "one", "other"] [V.ref a]) [1, 2] ∧ tYes σ2 H4 fun b H5 =>
          if b = true then tOp (fun x y H Q => ∃ i j, x = .str i ∧ y = .str j ∧ Q (.bl (decide (i.cps.toList < j.cps.toList))) H) (tVar 1) (tVar 2) σ2 H5 fun y H6 => ∃ acc, H6 D = some (.lst acc) ∧ acc.length < sizeLine ∧ (Sub H1 (upd H6 D (.lst (acc ++ [y]))) ∧ upd H6 D (.lst (acc ++ [y])) D = some (.lst ((List.replicate (i + 1) true).map V.bl)))
          else (Sub H1 H5 ∧ H5 D = some (.lst ((List.replicate (i + 1) true).map V.bl))) := by
      intro H1 s1 D hD i x H2 H3 hi ⟨s2, q1⟩ ⟨T1, y1, y2, e1, hT, e2, g1, g2⟩
      subst e1 e2
      obtain ⟨z1, hz1, rfl⟩ := sV_at (L := L) g1
      have g2' : ((sV L).drop 1)[i]? = some y2 := g2
      rw [List.getElem?_drop, Nat.add_comm] at g2'
      obtain ⟨z2, hz2, rfl⟩ := sV_at g2'
      have q2 : upd H2 T1 (.tup [V.str z1, V.str z2]) D = some (.lst ((List.replicate i true).map V.bl)) := by
        rw [upd_ne (ne_of_none q1 hT)]
        exact q1
      refine ⟨T1, _, rfl, .inl (.inl upd_same), rfl, _, _, rfl, _, _, rfl, rfl, rfl, _, rfl, _, rfl, _, _, rfl, rfl, _, q2, ?_, (s2.trans (Sub.new hT)).mut hD, ?_⟩
      · rw [List.length_map, List.length_replicate]
        exact Nat.lt_of_lt_of_le (by omega : i < 10000) (by decide)
      · rw [upd_same, asc_at hasc hz1 hz2, List.replicate_succ', List.map_append]
        rfl
    have fin : ∀ (H1 : Hp), Sub H H1 → ∀ (D : Addr) (n : Nat) (H2 : Hp), (Sub H1 H2 ∧ H2 D = some (.lst ((List.replicate n true).map V.bl))) → rAll Z.K [.ref D] H2 Q := by
      intro H1 s1 D n H2 ⟨s2, q1⟩
      refine ⟨D, _, rfl, SqL.of q1, ?_⟩
      have e : (List.replicate n true).all id = true := by
        rw [List.all_eq_true]
        intro x hx
        exact (List.mem_replicate.mp hx).2
      rw [e]
      exact k _ _ (s1.trans s2) rfl
    · refine ⟨a, _, rfl, ha, fun z => ?_, fun z p hp => ?_⟩
      · have e : (sV L).drop 1 = sV L := by
          cases L with
          | nil => rfl
          | cons x r =>
            exfalso
            have z1 := z.1
            simp [sV, HT.sIx] at z1
        have hb : SqT Z.K H a ((sV L).drop 1) := by rw [e]; exact ha
        refine ⟨a, a, sV L, (sV L).drop 1, rfl, .inr ⟨ha, hb, fun D hD => ?_⟩⟩
        refine lc_it (walk_zipT rfl) (fun i H2 => Sub H H2 ∧ H2 D = some (HO.lst ((List.replicate i true).map V.bl))) ⟨Sub.new hD, upd_same⟩ (fun i H2 _ p => ⟨p.1.tup ha, p.1.tup hb⟩) (fun i x H2 H3 hi p y => ?_) (fun H2 p => ?_)
        · exact turn _ (Sub.refl H) D hD i x H2 H3 hi p y
        · exact fin _ (Sub.refl H) D _ H2 p
      · have s1 : Sub H (upd H p (.tup (cutV (sV L) (some 1) none))) := Sub.new hp
        have hb : SqT Z.K (upd H p (HO.tup (cutV (sV L) (some 1) none))) p ((sV L).drop 1) := by rw [← cutV1]; exact .inl (.inl upd_same)
        refine ⟨a, p, sV L, (sV L).drop 1, rfl, .inr ⟨s1.tup ha, hb, fun D hD => ?_⟩⟩
        refine lc_it (walk_zipT rfl) (fun i H2 => Sub (upd H p (HO.tup (cutV (sV L) (some 1) none))) H2 ∧ H2 D = some (HO.lst ((List.replicate i true).map V.bl))) ⟨Sub.new hD, upd_same⟩ (fun i H2 _ p => ⟨p.1.tup (s1.tup ha), p.1.tup hb⟩) (fun i x H2 H3 hi p y => ?_) (fun H2 p => ?_)
        · exact turn _ (s1) D hD i x H2 H3 hi p y
        · exact fin _ (s1) D _ H2 p
abbrev T_is_state_count : TD := T1 fun D Q _ => ∃ n : Nat, D = nD n ∧ 1 ≤ n ∧ n ≤ 200 ∧ Q (.bool true)
abbrev s_is_state_count : Stmt := top 39
theorem sc_is_state_count : FnScope ["value"] ["value"] (defScope s_is_state_count) := ⟨rfl, rfl, rfl, by decide +kernel, rfl, by decide +kernel, by decide +kernel⟩
local macro_rules | `(tactic| walk_at "d") => `(tactic| simp only [↓dSeq, ↓dFor, ↓reprD, ↓dCallK, ↓dIfS, ↓dAndV, ↓dOrV, ↓dUn, ↓dOp, ↓dC, ↓dVar, ↓derefW, ↓deref, ↓known, ↓noOb, ↓nbO, ↓start0, ↓endsOf, ↓outA, ↓toB, ↓dAnd, ↓dOr, ↓dNot, ↓ofB, ↓dIf, ↓dChain, ↓dgName, ↓dgSeq, ↓dgCons, ↓dgNil, ↓dLc, ↓popW, ↓atOl, ↓isOl, ↓ownS, ↓frzD, ↓dCall, argsOf, argLc, obSlots, upS, upO, ↓noObs, ↓wipeD, List.map_cons, List.map_nil, List.length_cons, List.length_nil, Nat.sub_self, Nat.zero_add, Nat.reduceAdd, Nat.reduceSub, List.replicate, List.append_nil, List.cons_append, List.nil_append, List.getElem?_cons_zero, List.getElem?_cons_succ, List.getElem?_nil, List.set, List.head?, List.tail, Option.getD_some, Option.getD_none, List.nodup_nil, List.nodup_cons, List.not_mem_nil, List.mem_cons, List.mem_singleton, or_false, Nat.reduceEqDiff, true_and, and_true, Bool.not_true, Bool.not_false, if_true, Bool.false_eq_true, if_false, ite_true, ite_false, not_false_eq_true, reduceCtorEq, eqD_int, eqD_str, eqD_bl, eqD_tuple, eqD_list, eqD_tupleR, eqD_listR, eqD_non, neD_int, neD_str, neD_bl, neD_tuple, neD_list, neD_tupleR, neD_listR, neD_non, ↓isD, ↓notD, ix_0, ix_1, ix_2, ix_3, ix_4, ix_L0, ix_L1, ix_L2, itemsD_L, itemsD_T, tupleD_L, tupleD_T, listD_L, listD_T, lenD_L, lenD_T, lenD_S, slD_L, slD_T, addD_I, addD_S, addD_T, addD_L, subD_I, mulD_I, ltD_I, ltD_S, leD_I, gtD_I, geD_I, modD_I, fdivD_I, powD_I, intD_I, intD_B, negD_I, isND_N, isND_I, isND_S, isND_B, isND_T, isND_L, sq_T, sq_L, sq_N, sq_I, sq_S, sq_B, at_0, at_1, at_2, at_3, at_4, ↓isiD, pick, List.filterMap_cons_some, List.filterMap_nil, List.filterMap_cons, ↓ownC, ↓T1, ↓T2, ↓T3, ↓T4, ↓dHeard, ↓capsD, ↓slotsD, ↓lamW, lamSto, cpLc, ↓dHeardS, ↓dAsks, ↓asksW, ↓heardT, ↓Tbox, ↓Ttake, ↓intW, ix_ma0, ix_ma1, ix_ma2, ix_ma3, ix_inn0, ix_inn1, ix_inn2, ix_inn3, ix_top0, ix_top1, ix_top2, ix_top3, ix_top4])
theorem ok_is_state_count {f : Addr} {fd : FuncData} (F : Fun Z.K "is_state_count" "is_state_count" s_is_state_count f fd) (T : Tz Z.K Z.mg)
    {f_is_number : Addr} {fd_is_number : FuncData} (D_is_number : Df Z.K Z.mg "is_number" s_is_number ["value"] f_is_number fd_is_number) (G_is_number : FnD Z.Pg Z.w Z.K Z.mg Z.base CX0 1 f_is_number fd_is_number ["value"] (spT Z (T_is_number))) : FnD Z.Pg Z.w Z.K Z.mg Z.base CX0 2 f fd ["value"] (spT Z (T_is_state_count)) := by
  refine okD F sc_is_state_count (fun as Q er h => ?_) (fun cdv A outer s H E G0 ca hr hgd hca => (dss_one (ds_ret (de_and (de_call G_is_number hr hgd (by rfl) D_is_number.g D_is_number.F.kp D_is_number.b (drs_cons (dr_var 0) drs_nil)) (de_one (de_chain op_le od_le op_le od_le (dr_of de_int) (dr_var 0) (dr_of (de_gInt (i := 200) (by rfl) T.c_STATES_MOST)))))))) (fun ca as Q er h => ?_)
  · obtain ⟨_, rfl, _⟩ := t1_inv h
    rfl
  · obtain ⟨a, rfl, q⟩ := t1_inv h
    obtain ⟨n, rfl, h1, h2, q⟩ := q
    have e1 : numB (nD n) = true := by
      show decide ((0 : Int) ≤ ((n : Nat) : Int)) = true
      exact decide_eq_true (by omega)
    simp only [nD] at e1 q ⊢
    walk_at "d"
    rw [if_pos e1]
    rw [if_pos (decide_eq_true (show (1 : Int) ≤ (n : Nat) by omega)), decide_eq_true (show ((n : Nat) : Int) ≤ 200 by omega)]
    exact q
theorem rowB_len {ds : List PyData} {n : Nat} (h : ds.length = n) : rowB (.tuple ds) (n : Nat) = true := by
  unfold rowB
  simp only [isSq, itD, h, decide_true, Bool.and_self]
abbrev T_is_answer : TD := T2 fun D n Q _ => ∃ r m, D = ansD r ∧ n = nD m ∧ r.length = m ∧ m ≤ 8 ∧ Q (.bool true)
abbrev s_is_answer : Stmt := top 43
theorem sc_is_answer : FnScope ["value", "length", "word"] ["value", "length"] (defScope s_is_answer) := ⟨rfl, rfl, rfl, by decide +kernel, rfl, by decide +kernel, by decide +kernel⟩
theorem ok_is_answer {f : Addr} {fd : FuncData} (F : Fun Z.K "is_answer" "is_answer" s_is_answer f fd) (T : Tz Z.K Z.mg)
    {f_is_row_of : Addr} {fd_is_row_of : FuncData} (D_is_row_of : Df Z.K Z.mg "is_row_of" s_is_row_of ["value", "many"] f_is_row_of fd_is_row_of) (G_is_row_of : FnD Z.Pg Z.w Z.K Z.mg Z.base CX0 2 f_is_row_of fd_is_row_of ["value", "many"] (spT Z (T_is_row_of))) : FnD Z.Pg Z.w Z.K Z.mg Z.base CX0 3 f fd ["value", "length"] (spT Z (T_is_answer)) := by
  refine okD F sc_is_answer (fun as Q er h => ?_) (fun cdv A outer s H E G0 ca hr hgd hca => (dss_one (ds_ret (de_and (de_call G_is_row_of hr hgd (by rfl) D_is_row_of.g D_is_row_of.F.kp D_is_row_of.b (drs_cons (dr_var 0) (drs_cons (dr_var 1) drs_nil))) (de_one (de_callB (cr_all rfl) cd_all (by rfl) T.all (by decide +kernel) (dr_of (de_of_df (df_lc (own := [("word", 2)]) rfl sc_is_answer.nd (di_seq (de_var 0)) (blkOk_by (own := [("word", 2)]) (N := ["value", "length", "word"]) (sc := defScope s_is_answer) (by decide +kernel)) (fun _ _ _ _ _ => (dg_name (i := 2) sc_is_answer.nd rfl (Or.inl rfl))) (fun _ _ _ _ _ => dts_nil) (fun _ _ _ _ _ => (de_isi (T := "bool") (kf := blB) kitf_bool (by rfl) T.isi (by rfl) T.bool (by decide +kernel) (by decide) (by decide) (dr_var 2)))))))))))) (fun ca as Q er h => ?_)
  · obtain ⟨_, _, rfl, _⟩ := t2_inv h
    rfl
  · obtain ⟨a, b, rfl, q⟩ := t2_inv h
    obtain ⟨r, m, rfl, rfl, h1, h2, q⟩ := q
    simp only [ansD, nD] at q ⊢
    walk_at "d"
    rw [if_pos (rowB_len (by rw [List.length_map]; exact h1))]
    refine lcW_map (fun _ => .bool true) (by rw [List.length_map]; omega) (fun d hd R hR => ?_) ?_
    · obtain ⟨b, _, rfl⟩ := List.mem_map.mp hd
      walk_at "d"
      exact hR
    · rw [map_const _ rfl]
      exact all_true q
abbrev T_as_tuples : TD := T1 fun D Q _ => ∃ ds, D = .tuple ds ∧ ds.length ≤ 1000 ∧ (∀ d ∈ ds, ∃ es, d = .tuple es) ∧ Q D
abbrev s_as_tuples : Stmt := top 46
theorem sc_as_tuples : FnScope ["rows", "row"] ["rows"] (defScope s_as_tuples) := ⟨rfl, rfl, rfl, by decide +kernel, rfl, by decide +kernel, by decide +kernel⟩
theorem ok_as_tuples {f : Addr} {fd : FuncData} (F : Fun Z.K "as_tuples" "as_tuples" s_as_tuples f fd) (T : Tz Z.K Z.mg) : FnD Z.Pg Z.w Z.K Z.mg Z.base CX0 1 f fd ["rows"] (spT Z (T_as_tuples)) := by
  refine okD F sc_as_tuples (fun as Q er h => ?_) (fun cdv A outer s H E G0 ca hr hgd hca => (dss_one (ds_ret (de_callTy call_tupleF cd_tuple (by rfl) T.tuple (by decide +kernel) (dr_of (de_of_df (df_lc (own := [("row", 1)]) rfl sc_as_tuples.nd (di_seq (de_var 0)) (blkOk_by (own := [("row", 1)]) (N := ["rows", "row"]) (sc := defScope s_as_tuples) (by decide +kernel)) (fun _ _ _ _ _ => (dg_name (i := 1) sc_as_tuples.nd rfl (Or.inl rfl))) (fun _ _ _ _ _ => dts_nil) (fun _ _ _ _ _ => (de_callTy call_tupleF cd_tuple (by rfl) T.tuple (by decide +kernel) (dr_var 1)))))))))) (fun ca as Q er h => ?_)
  · obtain ⟨_, rfl, _⟩ := t1_inv h
    rfl
  · obtain ⟨a, rfl, q⟩ := t1_inv h
    obtain ⟨ds, rfl, hl, hd, q⟩ := q
    walk_at "d"
    refine lcW_map (fun d => d) (by omega) (fun d hd' R hR => ?_) ?_
    · obtain ⟨es, rfl⟩ := hd d hd'
      walk_at "d"
      exact hR
    · rw [List.map_id']
      exact q
abbrev T_kind_of : TD := T2 fun D V Q _ => ∃ (L : List Str) (z : Str), D = .tuple (L.map .str) ∧ V = .str z ∧ Q (nD (L.idxOf z))
abbrev s_kind_of : Stmt := top 54
theorem sc_kind_of : FnScope ["names", "value", "place", "name"] ["names", "value"] (defScope s_kind_of) := ⟨rfl, rfl, rfl, by decide +kernel, rfl, by decide +kernel, by decide +kernel⟩
theorem ok_kind_of {f : Addr} {fd : FuncData} (F : Fun Z.K "kind_of" "kind_of" s_kind_of f fd) (T : Tz Z.K Z.mg) : FnD Z.Pg Z.w Z.K Z.mg Z.base CX0 1 f fd ["names", "value"] (spT Z (T_kind_of)) := by
  refine okD F sc_kind_of (fun as Q er h => ?_) (fun cdv A outer s H E G0 ca hr hgd hca => (dss_cons (ds_for PassesOwn.never rfl (di_enum (by rfl) T.enumerate (de_var 0)) (dg_seq (m := 2) rfl (dgs_cons (dg_name (i := 2) sc_kind_of.nd rfl (Or.inl rfl)) (dgs_cons (dg_name (i := 3) sc_kind_of.nd rfl (Or.inl rfl)) dgs_nil)))
        (dss_one (ds_if (dt_cmp (op_eqA hr.units) od_eq (dr_var 3) (dr_var 1) (nomark _))
          (dss_one (ds_ret (de_var 2)))
          dss_nil)))
      (dss_one (ds_ret (de_callB call_lenA cd_len (by rfl) T.len (by decide +kernel) (dr_var 0)))))) (fun ca as Q er h => ?_)
  · obtain ⟨_, _, rfl, _⟩ := t2_inv h
    rfl
  · obtain ⟨a, b, rfl, q⟩ := t2_inv h
    obtain ⟨L, z, rfl, rfl, q⟩ := q
    walk_at "d"
    refine forW_ind (fun ds ρ => ∃ (s2 s3 : Lc) (i : Nat), ρ = [.sh (.tuple (L.map .str)), .sh (.str z), s2, s3] ∧ nbO (some s2) ∧ nbO (some s3) ∧ ds = (enumD (L.map .str)).drop i ∧ L.idxOf z = i + (L.drop i).idxOf z) ?_ ?_ _ _ ⟨.un, .un, 0, rfl, trivial, trivial, rfl, by rw [Nat.zero_add]; rfl⟩
    · rintro ρ ⟨s2, s3, i, rfl, _, _, e, e2⟩
      walk_at "d"
      have hl : L.length ≤ i := by
        have := congrArg List.length e
        unfold enumD at this
        rw [List.length_drop, List.length_mapIdx, List.length_map, List.length_nil] at this
        omega
      rw [List.drop_of_length_le hl] at e2
      have h3 : L.idxOf z = L.length := by
        have := List.idxOf_le_length (a := z) (l := L)
        rw [e2, List.idxOf_nil] at this ⊢
        omega
      rw [h3] at q
      rw [List.length_map]
      exact q
    · rintro d ds ρ ⟨s2, s3, i, rfl, h2, h3, e, e2⟩ ih
      have hi : i < (enumD (L.map .str)).length := by
        rcases Nat.lt_or_ge i (enumD (L.map .str)).length with h | h
        · exact h
        · rw [List.drop_of_length_le h] at e
          cases e
      rw [List.drop_eq_getElem_cons hi] at e
      obtain ⟨rfl, rfl⟩ := List.cons.inj e
      have hiL : i < L.length := by
        unfold enumD at hi
        rw [List.length_mapIdx, List.length_map] at hi
        exact hi
      have ed : (enumD (L.map .str))[i] = .tuple [.int (i : Nat), .str L[i]] := by
        refine Option.some.inj ((List.getElem?_eq_getElem hi).symm.trans ?_)
        unfold enumD
        rw [List.getElem?_mapIdx, List.getElem?_map, List.getElem?_eq_getElem hiL]
        rfl
      rw [ed]
      walk_at "d"
      refine ⟨h2, h3, ?_⟩
      rw [List.drop_eq_getElem_cons hiL, List.idxOf_cons] at e2
      by_cases hz : L[i] = z
      · rw [if_pos (decide_eq_true hz)]
        rw [show (L[i] == z) = true by rw [hz]; exact beq_self_eq_true z] at e2
        have e2 : L.idxOf z = i + 0 := e2
        rw [Nat.add_zero] at e2
        rw [e2] at q
        exact q
      · rw [if_neg (fun y => hz (of_decide_eq_true y))]
        rw [show (L[i] == z) = false by rw [beq_eq_false_iff_ne]; exact hz] at e2
        have e2 : L.idxOf z = i + ((L.drop (i + 1)).idxOf z + 1) := e2
        exact ih _ ⟨_, _, i + 1, rfl, trivial, trivial, rfl, by omega⟩
end
end Lw
set_option Elab.async false
set_option linter.all false
set_option maxRecDepth 100000
set_option maxHeartbeats 1000000
set_option pp.deepTerms true
set_option pp.maxSteps 200000
namespace Lw
open PySem PySem.Spec PyProof PyProof.Rows L2 So Da Dl
local macro_rules | `(tactic| walk_at "z") => `(tactic| repeat (first | refine ⟨(by decide), ?_⟩ | refine ⟨(by omega), ?_⟩ | refine ⟨rfl, ?_⟩))
section
variable {Z : Zw}
def lsD (L : List Str) : PyData := .tuple (L.map .str)
theorem lab_len {z : Str} (h : isLab z = true) : z.length ≤ 12 := by
  unfold isLab at h
  simp only [Bool.and_eq_true, decide_eq_true_eq] at h
  omega
theorem sq_tup {ds : List PyData} : isSq (.tuple ds) = true := rfl
abbrev T_are_labels : TD := T1 fun D Q _ => ∃ M : Ma, D = lsD M.ls ∧ MaOk M ∧ Q (.bool true)
abbrev s_are_labels : Stmt := top 36
theorem sc_are_labels : FnScope ["value", "name"] ["value"] (defScope s_are_labels) := ⟨rfl, rfl, rfl, by decide +kernel, rfl, by decide +kernel, by decide +kernel⟩
local macro_rules | `(tactic| walk_at "d") => `(tactic| simp only [↓dSeq, ↓dFor, ↓reprD, ↓dCallK, ↓dIfS, ↓dAndV, ↓dOrV, ↓dUn, ↓dOp, ↓dC, ↓dVar, ↓derefW, ↓deref, ↓known, ↓noOb, ↓nbO, ↓start0, ↓endsOf, ↓outA, ↓toB, ↓dAnd, ↓dOr, ↓dNot, ↓ofB, ↓dIf, ↓dChain, ↓dgName, ↓dgSeq, ↓dgCons, ↓dgNil, ↓dLc, ↓popW, ↓atOl, ↓isOl, ↓ownS, ↓frzD, ↓dCall, argsOf, argLc, obSlots, upS, upO, ↓noObs, ↓wipeD, List.map_cons, List.map_nil, List.length_cons, List.length_nil, Nat.sub_self, Nat.zero_add, Nat.reduceAdd, Nat.reduceSub, List.replicate, List.append_nil, List.cons_append, List.nil_append, List.getElem?_cons_zero, List.getElem?_cons_succ, List.getElem?_nil, List.set, List.head?, List.tail, Option.getD_some, Option.getD_none, List.nodup_nil, List.nodup_cons, List.not_mem_nil, List.mem_cons, List.mem_singleton, or_false, Nat.reduceEqDiff, true_and, and_true, Bool.not_true, Bool.not_false, if_true, Bool.false_eq_true, if_false, ite_true, ite_false, not_false_eq_true, reduceCtorEq, eqD_int, eqD_str, eqD_bl, eqD_tuple, eqD_list, eqD_tupleR, eqD_listR, eqD_non, neD_int, neD_str, neD_bl, neD_tuple, neD_list, neD_tupleR, neD_listR, neD_non, ↓isD, ↓notD, ix_0, ix_1, ix_2, ix_3, ix_4, ix_L0, ix_L1, ix_L2, itemsD_L, itemsD_T, tupleD_L, tupleD_T, listD_L, listD_T, lenD_L, lenD_T, lenD_S, slD_L, slD_T, addD_I, addD_S, addD_T, addD_L, subD_I, mulD_I, ltD_I, ltD_S, leD_I, gtD_I, geD_I, modD_I, fdivD_I, powD_I, intD_I, intD_B, negD_I, isND_N, isND_I, isND_S, isND_B, isND_T, isND_L, sq_T, sq_L, sq_N, sq_I, sq_S, sq_B, at_0, at_1, at_2, at_3, at_4, ↓isiD, pick, List.filterMap_cons_some, List.filterMap_nil, List.filterMap_cons, ↓ownC, ↓T1, ↓T2, ↓T3, ↓T4, ↓dHeard, ↓capsD, ↓slotsD, ↓lamW, lamSto, cpLc, ↓dHeardS, ↓dAsks, ↓asksW, ↓heardT, ↓Tbox, ↓Ttake, ↓intW, ix_ma0, ix_ma1, ix_ma2, ix_ma3, ix_inn0, ix_inn1, ix_inn2, ix_inn3, ix_top0, ix_top1, ix_top2, ix_top3, ix_top4])
theorem ok_are_labels {f : Addr} {fd : FuncData} (F : Fun Z.K "are_labels" "are_labels" s_are_labels f fd) (T : Tz Z.K Z.mg)
    {f_is_sequence : Addr} {fd_is_sequence : FuncData} (D_is_sequence : Df Z.K Z.mg "is_sequence" s_is_sequence ["value"] f_is_sequence fd_is_sequence) (G_is_sequence : FnD Z.Pg Z.w Z.K Z.mg Z.base CX0 1 f_is_sequence fd_is_sequence ["value"] (spT Z (T_is_sequence)))
    {f_is_label : Addr} {fd_is_label : FuncData} (D_is_label : Df Z.K Z.mg "is_label" s_is_label ["value"] f_is_label fd_is_label) (G_is_label : FnD Z.Pg Z.w Z.K Z.mg Z.base CX0 1 f_is_label fd_is_label ["value"] (spT Z (T_is_label)))
    {f_is_ascending : Addr} {fd_is_ascending : FuncData} (D_is_ascending : Df Z.K Z.mg "_is_ascending" s_is_ascending ["names"] f_is_ascending fd_is_ascending) (G_is_ascending : FnD Z.Pg Z.w Z.K Z.mg Z.base CX0 1 f_is_ascending fd_is_ascending ["names"] (spT Z (T_is_ascending))) : FnD Z.Pg Z.w Z.K Z.mg Z.base CX0 2 f fd ["value"] (spT Z (T_are_labels)) := by
  refine okD F sc_are_labels (fun as Q er h => ?_) (fun cdv A outer s H E G0 ca hr hgd hca => (dss_cons (ds_if (DW.dt (dw_or (dt_not (dt_val (de_call G_is_sequence hr hgd (by rfl) D_is_sequence.g D_is_sequence.F.kp D_is_sequence.b (drs_cons (dr_var 0) drs_nil)))) (dw_or1 (dt_cmp op_gt od_gt (dr_of (de_callB call_lenA cd_len (by rfl) T.len (by decide +kernel) (dr_var 0))) (dr_of (de_gInt (i := 6) (by rfl) T.c_LABELS_MOST)) (nomark _)))))
        (dss_one (ds_ret de_bl))
        dss_nil)
      (dss_one (ds_ret (de_and (de_callB (cr_all rfl) cd_all (by rfl) T.all (by decide +kernel) (dr_of (de_of_df (df_lc (own := [("name", 1)]) rfl sc_are_labels.nd (di_seq (de_var 0)) (blkOk_by (own := [("name", 1)]) (N := ["value", "name"]) (sc := defScope s_are_labels) (by decide +kernel)) (fun _ _ _ _ _ => (dg_name (i := 1) sc_are_labels.nd rfl (Or.inl rfl))) (fun _ _ _ _ _ => dts_nil) (fun _ _ _ _ _ => (de_call G_is_label hr hgd (by rfl) D_is_label.g D_is_label.F.kp D_is_label.b (drs_cons (dr_var 1) drs_nil))))))) (de_one (de_call G_is_ascending hr hgd (by rfl) D_is_ascending.g D_is_ascending.F.kp D_is_ascending.b (drs_cons (dr_var 0) drs_nil)))))))) (fun ca as Q er h => ?_)
  · obtain ⟨_, rfl, _⟩ := t1_inv h
    rfl
  · obtain ⟨a, rfl, q⟩ := t1_inv h
    obtain ⟨M, rfl, ok, q⟩ := q
    simp only [lsD] at q ⊢
    walk_at "d"
    have e0 : decide (6 < ((M.ls.map PyData.str).length : Int)) = false := decide_eq_false (by rw [List.length_map]; have := ok.l6; omega)
    simp only [sq_tup, e0, Bool.not_true, Bool.false_eq_true, if_false]
    refine lcW_map (fun _ => .bool true) (by rw [List.length_map]; have := ok.l6; omega) (fun d hd R hR => ?_) ?_
    · obtain ⟨z, hz, rfl⟩ := List.mem_map.mp hd
      have hl := List.all_eq_true.mp ok.lab z hz
      walk_at "d"
      refine ⟨fun y e => by cases e; have := lab_len hl; omega, ?_⟩
      have e : labD (.str z) = true := hl
      rw [e]
      exact hR
    · rw [map_const _ rfl]
      refine all_true ?_
      walk_at "d"
      exact ⟨M.ls, rfl, by have := ok.l6; omega, ok.la, q⟩
abbrev T_are_texts : TD := T1 fun D Q _ => ∃ M : Ma, D = lsD M.xs ∧ MaOk M ∧ Q (.bool true)
abbrev s_are_texts : Stmt := top 37
theorem sc_are_texts : FnScope ["value", "name"] ["value"] (defScope s_are_texts) := ⟨rfl, rfl, rfl, by decide +kernel, rfl, by decide +kernel, by decide +kernel⟩
theorem ok_are_texts {f : Addr} {fd : FuncData} (F : Fun Z.K "are_texts" "are_texts" s_are_texts f fd) (T : Tz Z.K Z.mg)
    {f_is_sequence : Addr} {fd_is_sequence : FuncData} (D_is_sequence : Df Z.K Z.mg "is_sequence" s_is_sequence ["value"] f_is_sequence fd_is_sequence) (G_is_sequence : FnD Z.Pg Z.w Z.K Z.mg Z.base CX0 1 f_is_sequence fd_is_sequence ["value"] (spT Z (T_is_sequence)))
    {f_is_text : Addr} {fd_is_text : FuncData} (D_is_text : Df Z.K Z.mg "is_text" s_is_text ["value"] f_is_text fd_is_text) (G_is_text : FnD Z.Pg Z.w Z.K Z.mg Z.base CX0 1 f_is_text fd_is_text ["value"] (spT Z (T_is_text)))
    {f_is_ascending : Addr} {fd_is_ascending : FuncData} (D_is_ascending : Df Z.K Z.mg "_is_ascending" s_is_ascending ["names"] f_is_ascending fd_is_ascending) (G_is_ascending : FnD Z.Pg Z.w Z.K Z.mg Z.base CX0 1 f_is_ascending fd_is_ascending ["names"] (spT Z (T_is_ascending))) : FnD Z.Pg Z.w Z.K Z.mg Z.base CX0 2 f fd ["value"] (spT Z (T_are_texts)) := by
  refine okD F sc_are_texts (fun as Q er h => ?_) (fun cdv A outer s H E G0 ca hr hgd hca => (dss_cons (ds_if (DW.dt (dw_or (dt_not (dt_val (de_call G_is_sequence hr hgd (by rfl) D_is_sequence.g D_is_sequence.F.kp D_is_sequence.b (drs_cons (dr_var 0) drs_nil)))) (dw_or1 (dt_cmp op_gt od_gt (dr_of (de_callB call_lenA cd_len (by rfl) T.len (by decide +kernel) (dr_var 0))) (dr_of (de_gInt (i := 4) (by rfl) T.c_TEXTS_MOST)) (nomark _)))))
        (dss_one (ds_ret de_bl))
        dss_nil)
      (dss_one (ds_ret (de_and (de_callB (cr_all rfl) cd_all (by rfl) T.all (by decide +kernel) (dr_of (de_of_df (df_lc (own := [("name", 1)]) rfl sc_are_texts.nd (di_seq (de_var 0)) (blkOk_by (own := [("name", 1)]) (N := ["value", "name"]) (sc := defScope s_are_texts) (by decide +kernel)) (fun _ _ _ _ _ => (dg_name (i := 1) sc_are_texts.nd rfl (Or.inl rfl))) (fun _ _ _ _ _ => dts_nil) (fun _ _ _ _ _ => (de_call G_is_text hr hgd (by rfl) D_is_text.g D_is_text.F.kp D_is_text.b (drs_cons (dr_var 1) drs_nil))))))) (de_one (de_call G_is_ascending hr hgd (by rfl) D_is_ascending.g D_is_ascending.F.kp D_is_ascending.b (drs_cons (dr_var 0) drs_nil)))))))) (fun ca as Q er h => ?_)
  · obtain ⟨_, rfl, _⟩ := t1_inv h
    rfl
  · obtain ⟨a, rfl, q⟩ := t1_inv h
    obtain ⟨M, rfl, ok, q⟩ := q
    simp only [lsD] at q ⊢
    walk_at "d"
    have e0 : decide (4 < ((M.xs.map PyData.str).length : Int)) = false := decide_eq_false (by rw [List.length_map]; have := ok.x4; omega)
    simp only [sq_tup, e0, Bool.not_true, Bool.false_eq_true, if_false]
    refine lcW_map (fun _ => .bool true) (by rw [List.length_map]; have := ok.x4; omega) (fun d hd R hR => ?_) ?_
    · obtain ⟨z, hz, rfl⟩ := List.mem_map.mp hd
      have hl := ok.txt z hz
      walk_at "d"
      refine ⟨fun y e => by cases e; exact Nat.le_trans hl (by decide), ?_⟩
      have e : txtB (.str z) = true := decide_eq_true (show ((z.length : Nat) : Int) ≤ 65535 by omega)
      rw [e]
      exact hR
    · rw [map_const _ rfl]
      refine all_true ?_
      walk_at "d"
      exact ⟨M.xs, rfl, by have := ok.x4; omega, ok.xa, q⟩
def ansAll (M : Ma) : PyData := .tuple (M.an.map ansD)
abbrev T_are_answers : TD := T2 fun D m Q _ => ∃ M : Ma, D = ansAll M ∧ m = nD M.tn ∧ MaOk M ∧ Q (.bool true)
abbrev s_are_answers : Stmt := top 42
theorem sc_are_answers : FnScope ["value", "many", "one"] ["value", "many"] (defScope s_are_answers) := ⟨rfl, rfl, rfl, by decide +kernel, rfl, by decide +kernel, by decide +kernel⟩
theorem ok_are_answers {f : Addr} {fd : FuncData} (F : Fun Z.K "are_answers" "are_answers" s_are_answers f fd) (T : Tz Z.K Z.mg)
    {f_is_row_of : Addr} {fd_is_row_of : FuncData} (D_is_row_of : Df Z.K Z.mg "is_row_of" s_is_row_of ["value", "many"] f_is_row_of fd_is_row_of) (G_is_row_of : FnD Z.Pg Z.w Z.K Z.mg Z.base CX0 3 f_is_row_of fd_is_row_of ["value", "many"] (spT Z (T_is_row_of)))
    {f_is_sequence : Addr} {fd_is_sequence : FuncData} (D_is_sequence : Df Z.K Z.mg "is_sequence" s_is_sequence ["value"] f_is_sequence fd_is_sequence) (G_is_sequence : FnD Z.Pg Z.w Z.K Z.mg Z.base CX0 3 f_is_sequence fd_is_sequence ["value"] (spT Z (T_is_sequence)))
    {f_is_answer : Addr} {fd_is_answer : FuncData} (D_is_answer : Df Z.K Z.mg "is_answer" s_is_answer ["value", "length"] f_is_answer fd_is_answer) (G_is_answer : FnD Z.Pg Z.w Z.K Z.mg Z.base CX0 3 f_is_answer fd_is_answer ["value", "length"] (spT Z (T_is_answer))) : FnD Z.Pg Z.w Z.K Z.mg Z.base CX0 4 f fd ["value", "many"] (spT Z (T_are_answers)) := by
  refine okD F sc_are_answers (fun as Q er h => ?_) (fun cdv A outer s H E G0 ca hr hgd hca => (dss_cons (ds_if (DW.dt (dw_or (dt_not (dt_val (de_call G_is_row_of hr hgd (by rfl) D_is_row_of.g D_is_row_of.F.kp D_is_row_of.b (drs_cons (dr_var 0) (drs_cons (dr_var 1) drs_nil))))) (dw_or (dt_not (dt_val (de_call G_is_sequence hr hgd (by rfl) D_is_sequence.g D_is_sequence.F.kp D_is_sequence.b (drs_cons (dr_of (de_ix (dr_var 0) (dr_of de_int))) drs_nil)))) (dw_or1 (dt_not (dt_chain op_le od_le op_le od_le (dr_of de_int) (dr_of (de_callB call_lenA cd_len (by rfl) T.len (by decide +kernel) (dr_of (de_ix (dr_var 0) (dr_of de_int))))) (dr_of (de_gInt (i := 8) (by rfl) T.c_WORDS_MOST))))))))
        (dss_one (ds_ret de_bl))
        dss_nil)
      (dss_one (ds_ret (de_callB (cr_all rfl) cd_all (by rfl) T.all (by decide +kernel) (dr_of (de_of_df (df_lc (own := [("one", 2)]) rfl sc_are_answers.nd (di_seq (de_var 0)) (blkOk_by (own := [("one", 2)]) (N := ["value", "many", "one"]) (sc := defScope s_are_answers) (by decide +kernel)) (fun _ _ _ _ _ => (dg_name (i := 2) sc_are_answers.nd rfl (Or.inl rfl))) (fun _ _ _ _ _ => dts_nil) (fun _ _ _ _ _ => (de_call G_is_answer hr hgd (by rfl) D_is_answer.g D_is_answer.F.kp D_is_answer.b (drs_cons (dr_var 2) (drs_cons (dr_of (de_callB call_lenA cd_len (by rfl) T.len (by decide +kernel) (dr_of (de_ix (dr_var 0) (dr_of de_int))))) drs_nil)))))))))))) (fun ca as Q er h => ?_)
  · obtain ⟨_, _, rfl, _⟩ := t2_inv h
    rfl
  · obtain ⟨a, b, rfl, q⟩ := t2_inv h
    obtain ⟨M, rfl, rfl, ok, q⟩ := q
    simp only [ansAll, nD] at q ⊢
    obtain ⟨wl, w1, w8, hw⟩ := ok.wl
    have la := ok.an
    obtain ⟨r, rs, e⟩ : ∃ r rs, M.an = r :: rs := by
      cases e : M.an with
      | nil => rw [e, List.length_nil] at la; have := ok.tn; omega
      | cons r rs => exact ⟨r, rs, rfl⟩
    have hr : r.length = wl := hw r (by rw [e]; exact List.mem_cons_self)
    have hix : atI (M.an.map ansD) 0 = some (ansD r) := by
      rw [e]
      exact atI_nat (j := 0) rfl
    have e1 : rowB (.tuple (M.an.map ansD)) (M.tn : Nat) = true := rowB_len (by rw [List.length_map]; exact la)
    have e2 : decide ((1 : Int) ≤ (r.length : Nat)) = true := decide_eq_true (by omega)
    have e3 : decide (((r.length : Nat) : Int) ≤ 8) = true := decide_eq_true (by omega)
    walk_at "d"
    simp only [e1, ixD, hix, ansD, sq_tup, lenD_T, leD_I, itemsD_T, List.length_map, e2, e3, if_true, Bool.not_true, Bool.false_eq_true, if_false]
    refine lcW_map (fun _ => .bool true) (by rw [List.length_map]; have := ok.tn; omega) (fun d hd R hR => ?_) ?_
    · obtain ⟨s, hs, rfl⟩ := List.mem_map.mp hd
      walk_at "d"
      simp only [ixD, hix, ansD, lenD_T, List.length_map]
      exact ⟨s, s.length, rfl, by simp only [nD]; rw [hw s hs, hr], rfl, by rw [hw s hs]; exact w8, hR⟩
    · rw [map_const _ rfl]
      exact all_true q
abbrev T_are_inners : TD := T3 fun D l x Q _ => ∃ M : Ma, D = innD M ∧ l = lsD M.ls ∧ x = lsD M.xs ∧ MaOk M ∧ Q (.bool true)
abbrev s_are_inners : Stmt := top 44
theorem sc_are_inners : FnScope ["value", "labels", "texts", "many", "starts", "by_text", "children"] ["value", "labels", "texts"] (defScope s_are_inners) := ⟨rfl, rfl, rfl, by decide +kernel, rfl, by decide +kernel, by decide +kernel⟩
theorem ok_are_inners {f : Addr} {fd : FuncData} (F : Fun Z.K "are_inners" "are_inners" s_are_inners f fd) (T : Tz Z.K Z.mg)
    {f_is_row_of : Addr} {fd_is_row_of : FuncData} (D_is_row_of : Df Z.K Z.mg "is_row_of" s_is_row_of ["value", "many"] f_is_row_of fd_is_row_of) (G_is_row_of : FnD Z.Pg Z.w Z.K Z.mg Z.base CX0 4 f_is_row_of fd_is_row_of ["value", "many"] (spT Z (T_is_row_of)))
    {f_is_state_count : Addr} {fd_is_state_count : FuncData} (D_is_state_count : Df Z.K Z.mg "is_state_count" s_is_state_count ["value"] f_is_state_count fd_is_state_count) (G_is_state_count : FnD Z.Pg Z.w Z.K Z.mg Z.base CX0 4 f_is_state_count fd_is_state_count ["value"] (spT Z (T_is_state_count)))
    {f_is_map : Addr} {fd_is_map : FuncData} (D_is_map : Df Z.K Z.mg "is_map" s_is_map ["value", "length", "many"] f_is_map fd_is_map) (G_is_map : FnD Z.Pg Z.w Z.K Z.mg Z.base CX0 4 f_is_map fd_is_map ["value", "length", "many"] (spT Z (T_is_map)))
    {f_are_maps : Addr} {fd_are_maps : FuncData} (D_are_maps : Df Z.K Z.mg "are_maps" s_are_maps ["value", "length", "many"] f_are_maps fd_are_maps) (G_are_maps : FnD Z.Pg Z.w Z.K Z.mg Z.base CX0 4 f_are_maps fd_are_maps ["value", "length", "many"] (spT Z (T_are_maps))) : FnD Z.Pg Z.w Z.K Z.mg Z.base CX0 5 f fd ["value", "labels", "texts"] (spT Z (T_are_inners)) := by
  refine okD F sc_are_inners (fun as Q er h => ?_) (fun cdv A outer s H E G0 ca hr hgd hca => (dss_cons (ds_if (dt_not (dt_val (de_call G_is_row_of hr hgd (by rfl) D_is_row_of.g D_is_row_of.F.kp D_is_row_of.b (drs_cons (dr_var 0) (drs_cons (dr_of de_int) drs_nil)))))
        (dss_one (ds_ret de_bl))
        dss_nil)
      (dss_cons (ds_asg (de_var 0) (dg_seq (m := 4) rfl (dgs_cons (dg_name (i := 3) sc_are_inners.nd rfl (Or.inl rfl)) (dgs_cons (dg_name (i := 4) sc_are_inners.nd rfl (Or.inl rfl)) (dgs_cons (dg_name (i := 5) sc_are_inners.nd rfl (Or.inl rfl)) (dgs_cons (dg_name (i := 6) sc_are_inners.nd rfl (Or.inl rfl)) dgs_nil))))))
      (dss_cons (ds_if (DW.dt (dw_or (dt_not (dt_val (de_call G_is_state_count hr hgd (by rfl) D_is_state_count.g D_is_state_count.F.kp D_is_state_count.b (drs_cons (dr_var 3) drs_nil)))) (dw_or1 (dt_not (dt_val (de_call G_is_map hr hgd (by rfl) D_is_map.g D_is_map.F.kp D_is_map.b (drs_cons (dr_var 4) (drs_cons (dr_of (de_op op_addA od_add (dr_of (de_callB call_lenA cd_len (by rfl) T.len (by decide +kernel) (dr_var 1))) (dr_of de_int))) (drs_cons (dr_var 3) drs_nil)))))))))
        (dss_one (ds_ret de_bl))
        dss_nil)
      (dss_one (ds_ret (de_and (de_call G_are_maps hr hgd (by rfl) D_are_maps.g D_are_maps.F.kp D_are_maps.b (drs_cons (dr_var 5) (drs_cons (dr_of (de_op op_addA od_add (dr_of (de_callB call_lenA cd_len (by rfl) T.len (by decide +kernel) (dr_var 2))) (dr_of de_int))) (drs_cons (dr_var 3) drs_nil)))) (de_one (de_call G_are_maps hr hgd (by rfl) D_are_maps.g D_are_maps.F.kp D_are_maps.b (drs_cons (dr_var 6) (drs_cons (dr_var 3) (drs_cons (dr_var 3) drs_nil)))))))))))) (fun ca as Q er h => ?_)
  · obtain ⟨_, _, _, rfl, _⟩ := t3_inv h
    rfl
  · obtain ⟨a, b, c, rfl, q⟩ := t3_inv h
    obtain ⟨M, rfl, rfl, rfl, ok, q⟩ := q
    simp only [innD, lsD] at q ⊢
    have e1 : rowB (.tuple [nD M.im, rowD M.st, rowsD M.ix, rowsD M.ic]) 4 = true := rowB_len (n := 4) (by rfl)
    have e2 : mapB (rowD M.st) ((M.ls.length : Int) + 1) (M.im : Nat) = true := mapB_row ok.st
    have e3 : mapsB (rowsD M.ix) ((M.xs.length : Int) + 1) (M.im : Nat) = true := mapsB_rows ok.ix
    have e4 : mapsB (rowsD M.ic) (M.im : Nat) (M.im : Nat) = true := mapsB_rows ok.ic
    walk_at "d"
    simp only [e1, Bool.not_true, Bool.false_eq_true, if_false]
    refine ⟨M.im, rfl, ok.im.1, ok.im.2, ?_⟩
    simp only [nD, intW, List.length_map, e2, e3, e4, Bool.not_true, Bool.false_eq_true, if_false, if_true]
    exact q
abbrev T_are_tops : TD := T3 fun D x m Q _ => ∃ M : Ma, D = topD M ∧ x = lsD M.xs ∧ m = nD M.im ∧ MaOk M ∧ Q (.bool true)
abbrev s_are_tops : Stmt := top 45
theorem sc_are_tops : FnScope ["value", "texts", "inner_many", "many", "start", "by_text", "children", "answers"] ["value", "texts", "inner_many"] (defScope s_are_tops) := ⟨rfl, rfl, rfl, by decide +kernel, rfl, by decide +kernel, by decide +kernel⟩
theorem ok_are_tops {f : Addr} {fd : FuncData} (F : Fun Z.K "are_tops" "are_tops" s_are_tops f fd) (T : Tz Z.K Z.mg)
    {f_is_row_of : Addr} {fd_is_row_of : FuncData} (D_is_row_of : Df Z.K Z.mg "is_row_of" s_is_row_of ["value", "many"] f_is_row_of fd_is_row_of) (G_is_row_of : FnD Z.Pg Z.w Z.K Z.mg Z.base CX0 4 f_is_row_of fd_is_row_of ["value", "many"] (spT Z (T_is_row_of)))
    {f_is_state_count : Addr} {fd_is_state_count : FuncData} (D_is_state_count : Df Z.K Z.mg "is_state_count" s_is_state_count ["value"] f_is_state_count fd_is_state_count) (G_is_state_count : FnD Z.Pg Z.w Z.K Z.mg Z.base CX0 4 f_is_state_count fd_is_state_count ["value"] (spT Z (T_is_state_count)))
    {f_is_number_below : Addr} {fd_is_number_below : FuncData} (D_is_number_below : Df Z.K Z.mg "is_number_below" s_is_number_below ["value", "bound"] f_is_number_below fd_is_number_below) (G_is_number_below : FnD Z.Pg Z.w Z.K Z.mg Z.base CX0 4 f_is_number_below fd_is_number_below ["value", "bound"] (spT Z (T_is_number_below)))
    {f_are_maps : Addr} {fd_are_maps : FuncData} (D_are_maps : Df Z.K Z.mg "are_maps" s_are_maps ["value", "length", "many"] f_are_maps fd_are_maps) (G_are_maps : FnD Z.Pg Z.w Z.K Z.mg Z.base CX0 4 f_are_maps fd_are_maps ["value", "length", "many"] (spT Z (T_are_maps)))
    {f_are_answers : Addr} {fd_are_answers : FuncData} (D_are_answers : Df Z.K Z.mg "are_answers" s_are_answers ["value", "many"] f_are_answers fd_are_answers) (G_are_answers : FnD Z.Pg Z.w Z.K Z.mg Z.base CX0 4 f_are_answers fd_are_answers ["value", "many"] (spT Z (T_are_answers))) : FnD Z.Pg Z.w Z.K Z.mg Z.base CX0 5 f fd ["value", "texts", "inner_many"] (spT Z (T_are_tops)) := by
  refine okD F sc_are_tops (fun as Q er h => ?_) (fun cdv A outer s H E G0 ca hr hgd hca => (dss_cons (ds_if (dt_not (dt_val (de_call G_is_row_of hr hgd (by rfl) D_is_row_of.g D_is_row_of.F.kp D_is_row_of.b (drs_cons (dr_var 0) (drs_cons (dr_of de_int) drs_nil)))))
        (dss_one (ds_ret de_bl))
        dss_nil)
      (dss_cons (ds_asg (de_var 0) (dg_seq (m := 5) rfl (dgs_cons (dg_name (i := 3) sc_are_tops.nd rfl (Or.inl rfl)) (dgs_cons (dg_name (i := 4) sc_are_tops.nd rfl (Or.inl rfl)) (dgs_cons (dg_name (i := 5) sc_are_tops.nd rfl (Or.inl rfl)) (dgs_cons (dg_name (i := 6) sc_are_tops.nd rfl (Or.inl rfl)) (dgs_cons (dg_name (i := 7) sc_are_tops.nd rfl (Or.inl rfl)) dgs_nil)))))))
      (dss_cons (ds_if (DW.dt (dw_or (dt_not (dt_val (de_call G_is_state_count hr hgd (by rfl) D_is_state_count.g D_is_state_count.F.kp D_is_state_count.b (drs_cons (dr_var 3) drs_nil)))) (dw_or1 (dt_not (dt_val (de_call G_is_number_below hr hgd (by rfl) D_is_number_below.g D_is_number_below.F.kp D_is_number_below.b (drs_cons (dr_var 4) (drs_cons (dr_var 3) drs_nil))))))))
        (dss_one (ds_ret de_bl))
        dss_nil)
      (dss_cons (ds_if (DW.dt (dw_or (dt_not (dt_val (de_call G_are_maps hr hgd (by rfl) D_are_maps.g D_are_maps.F.kp D_are_maps.b (drs_cons (dr_var 5) (drs_cons (dr_of (de_op op_addA od_add (dr_of (de_callB call_lenA cd_len (by rfl) T.len (by decide +kernel) (dr_var 1))) (dr_of de_int))) (drs_cons (dr_var 3) drs_nil)))))) (dw_or1 (dt_not (dt_val (de_call G_are_maps hr hgd (by rfl) D_are_maps.g D_are_maps.F.kp D_are_maps.b (drs_cons (dr_var 6) (drs_cons (dr_var 2) (drs_cons (dr_var 3) drs_nil)))))))))
        (dss_one (ds_ret de_bl))
        dss_nil)
      (dss_one (ds_ret (de_call G_are_answers hr hgd (by rfl) D_are_answers.g D_are_answers.F.kp D_are_answers.b (drs_cons (dr_var 7) (drs_cons (dr_var 3) drs_nil)))))))))) (fun ca as Q er h => ?_)
  · obtain ⟨_, _, _, rfl, _⟩ := t3_inv h
    rfl
  · obtain ⟨a, b, c, rfl, q⟩ := t3_inv h
    obtain ⟨M, rfl, rfl, rfl, ok, q⟩ := q
    simp only [topD, lsD] at q ⊢
    have e1 : rowB (.tuple [nD M.tn, nD M.t0, rowsD M.tx, rowsD M.tc, .tuple (M.an.map ansD)]) 5 = true := rowB_len (n := 5) (by rfl)
    have e2 : belB (nD M.t0) (M.tn : Nat) = true := by
      show (decide ((0 : Int) ≤ (M.t0 : Nat)) && decide (((M.t0 : Nat) : Int) < (M.tn : Nat))) = true
      rw [decide_eq_true (by omega), decide_eq_true (by have := ok.t0; omega)]
      rfl
    have e3 : mapsB (rowsD M.tx) ((M.xs.length : Int) + 1) (M.tn : Nat) = true := mapsB_rows ok.tx
    have e4 : mapsB (rowsD M.tc) (M.im : Nat) (M.tn : Nat) = true := mapsB_rows ok.tc
    have e2' : belB (.int (M.t0 : Nat)) (M.tn : Nat) = true := e2
    walk_at "d"
    simp only [e1, Bool.not_true, Bool.false_eq_true, if_false]
    refine ⟨M.tn, rfl, ok.tn.1, ok.tn.2, ?_⟩
    simp only [nD, intW, List.length_map, e2', e3, e4, Bool.not_true, Bool.false_eq_true, if_false, if_true]
    exact ⟨M, rfl, rfl, ok, q⟩
theorem rows_tup {rs : List (List Nat)} : ∀ d ∈ rs.map rowD, ∃ es, d = .tuple es := fun d hd => by
  obtain ⟨r, _, rfl⟩ := List.mem_map.mp hd
  exact ⟨_, rfl⟩
end
end Lw
set_option Elab.async false
set_option linter.all false
set_option maxRecDepth 100000
set_option maxHeartbeats 1000000
set_option pp.deepTerms true
set_option pp.maxSteps 200000
namespace Lw
open PySem PySem.Spec PyProof PyProof.Rows L2 So Da Dl
local macro_rules | `(tactic| walk_at "z") => `(tactic| repeat (first | refine ⟨(by decide), ?_⟩ | refine ⟨(by omega), ?_⟩ | refine ⟨rfl, ?_⟩))
section
variable {Z : Zw}
inductive Sg where
  | op (l : Str)
  | cl
  | tx (z : Str)
def sgD : Sg → PyData
  | .op l => .tuple [.str "open", .str l]
  | .cl => .tuple [.str "close"]
  | .tx z => .tuple [.str "text", .str z]
def Sg.ok : Sg → Prop
  | .op l => isLab l = true
  | .cl => True
  | .tx z => z.length ≤ 65535
theorem s1 : decide (("open" : Str) = "close") = false := by decide +kernel
theorem s2 : decide (("text" : Str) = "close") = false := by decide +kernel
theorem s3 : decide (("text" : Str) = "open") = false := by decide +kernel
theorem s4 : decide (("close" : Str) = "open") = false := by decide +kernel
theorem s5 : decide (("close" : Str) = "text") = false := by decide +kernel
theorem s6 : decide (("open" : Str) = "text") = false := by decide +kernel
theorem at1 {a : PyData} : atI [a] 0 = some a := rfl
theorem sq_lst {l : List PyData} : isSq (.list l) = true := rfl
def fauD (D : PyData) : Option Int := if isSq D = false then some (-1) else match itD D with
  | [] => some (-1)
  | [a] => if isS a "close" = true then none else some (-1)
  | [a, b] => if isS a "open" = true then (if labD b = true then none else some 1) else if isS a "text" = true then (if txtB b = true then none else some 1) else some (-1)
  | _ => some (-1)
def oiD : Option Int → PyData
  | none => .none
  | some i => .int i
theorem so_c : PyData.strOk "close" = true := by decide +kernel
theorem so_o : PyData.strOk "open" = true := by decide +kernel
theorem so_t : PyData.strOk "text" = true := by decide +kernel
abbrev T_sign_fault : TD := T1 fun D Q _ => OkD D ∧ Q (oiD (fauD D))
abbrev s_sign_fault : Stmt := top 19
theorem sc_sign_fault : FnScope ["value"] ["value"] (defScope s_sign_fault) := ⟨rfl, rfl, rfl, by decide +kernel, rfl, by decide +kernel, by decide +kernel⟩
local macro_rules | `(tactic| walk_at "d") => `(tactic| simp only [↓dSeq, ↓dFor, ↓reprD, ↓dCallK, ↓dIfS, ↓dAndV, ↓dOrV, ↓dUn, ↓dOp, ↓dC, ↓dVar, ↓derefW, ↓deref, ↓known, ↓noOb, ↓nbO, ↓start0, ↓endsOf, ↓outA, ↓toB, ↓dAnd, ↓dOr, ↓dNot, ↓ofB, ↓dIf, ↓dChain, ↓dgName, ↓dgSeq, ↓dgCons, ↓dgNil, ↓dLc, ↓popW, ↓atOl, ↓isOl, ↓ownS, ↓frzD, ↓dCall, argsOf, argLc, obSlots, upS, upO, ↓noObs, ↓wipeD, List.map_cons, List.map_nil, List.length_cons, List.length_nil, Nat.sub_self, Nat.zero_add, Nat.reduceAdd, Nat.reduceSub, List.replicate, List.append_nil, List.cons_append, List.nil_append, List.getElem?_cons_zero, List.getElem?_cons_succ, List.getElem?_nil, List.set, List.head?, List.tail, Option.getD_some, Option.getD_none, List.nodup_nil, List.nodup_cons, List.not_mem_nil, List.mem_cons, List.mem_singleton, or_false, Nat.reduceEqDiff, true_and, and_true, Bool.not_true, Bool.not_false, if_true, Bool.false_eq_true, if_false, ite_true, ite_false, not_false_eq_true, reduceCtorEq, eqD_int, eqD_str, eqD_bl, eqD_tuple, eqD_list, eqD_tupleR, eqD_listR, eqD_non, neD_int, neD_str, neD_bl, neD_tuple, neD_list, neD_tupleR, neD_listR, neD_non, ↓isD, ↓notD, ix_0, ix_1, ix_2, ix_3, ix_4, ix_L0, ix_L1, ix_L2, itemsD_L, itemsD_T, tupleD_L, tupleD_T, listD_L, listD_T, lenD_L, lenD_T, lenD_S, slD_L, slD_T, addD_I, addD_S, addD_T, addD_L, subD_I, mulD_I, ltD_I, ltD_S, leD_I, gtD_I, geD_I, modD_I, fdivD_I, powD_I, intD_I, intD_B, negD_I, isND_N, isND_I, isND_S, isND_B, isND_T, isND_L, sq_T, sq_L, sq_N, sq_I, sq_S, sq_B, at_0, at_1, at_2, at_3, at_4, ↓isiD, pick, List.filterMap_cons_some, List.filterMap_nil, List.filterMap_cons, ↓ownC, ↓T1, ↓T2, ↓T3, ↓T4, ↓dHeard, ↓capsD, ↓slotsD, ↓lamW, lamSto, cpLc, ↓dHeardS, ↓dAsks, ↓asksW, ↓heardT, ↓Tbox, ↓Ttake, ↓intW, ix_ma0, ix_ma1, ix_ma2, ix_ma3, ix_inn0, ix_inn1, ix_inn2, ix_inn3, ix_top0, ix_top1, ix_top2, ix_top3, ix_top4])
theorem ok_sign_fault {f : Addr} {fd : FuncData} (F : Fun Z.K "_sign_fault" "_sign_fault" s_sign_fault f fd) (T : Tz Z.K Z.mg)
    {f_is_sequence : Addr} {fd_is_sequence : FuncData} (D_is_sequence : Df Z.K Z.mg "is_sequence" s_is_sequence ["value"] f_is_sequence fd_is_sequence) (G_is_sequence : FnD Z.Pg Z.w Z.K Z.mg Z.base CX0 1 f_is_sequence fd_is_sequence ["value"] (spT Z (T_is_sequence)))
    {f_is_label : Addr} {fd_is_label : FuncData} (D_is_label : Df Z.K Z.mg "is_label" s_is_label ["value"] f_is_label fd_is_label) (G_is_label : FnD Z.Pg Z.w Z.K Z.mg Z.base CX0 1 f_is_label fd_is_label ["value"] (spT Z (T_is_label)))
    {f_is_text : Addr} {fd_is_text : FuncData} (D_is_text : Df Z.K Z.mg "is_text" s_is_text ["value"] f_is_text fd_is_text) (G_is_text : FnD Z.Pg Z.w Z.K Z.mg Z.base CX0 1 f_is_text fd_is_text ["value"] (spT Z (T_is_text))) : FnD Z.Pg Z.w Z.K Z.mg Z.base CX0 2 f fd ["value"] (spT Z (T_sign_fault)) := by
  refine okD F sc_sign_fault (fun as Q er h => ?_) (fun cdv A outer s H E G0 ca hr hgd hca => (dss_cons (ds_if (DW.dt (dw_or (dt_not (dt_val (de_call G_is_sequence hr hgd (by rfl) D_is_sequence.g D_is_sequence.F.kp D_is_sequence.b (drs_cons (dr_var 0) drs_nil)))) (dw_or1 (dt_cmp (op_eqA hr.units) od_eq (dr_of (de_callB call_lenA cd_len (by rfl) T.len (by decide +kernel) (dr_var 0))) (dr_of de_int) (nomark _)))))
        (dss_one (ds_ret (de_neg de_int)))
        dss_nil)
      (dss_cons (ds_if (DW.dt (dw_and (dt_cmp (op_eqA hr.units) od_eq (dr_of (de_ix (dr_var 0) (dr_of de_int))) (dr_of de_str) (nomark _)) (dw_and1 (dt_cmp (op_eqA hr.units) od_eq (dr_of (de_callB call_lenA cd_len (by rfl) T.len (by decide +kernel) (dr_var 0))) (dr_of de_int) (nomark _)))))
        (dss_one (ds_ret de_non))
        dss_nil)
      (dss_cons (ds_if (dt_cmp (op_neA hr.units) od_ne (dr_of (de_callB call_lenA cd_len (by rfl) T.len (by decide +kernel) (dr_var 0))) (dr_of de_int) (nomark _))
        (dss_one (ds_ret (de_neg de_int)))
        dss_nil)
      (dss_cons (ds_if (dt_cmp (op_eqA hr.units) od_eq (dr_of (de_ix (dr_var 0) (dr_of de_int))) (dr_of de_str) (nomark _))
        (dss_one (ds_ret (de_if (dt_val (de_call G_is_label hr hgd (by rfl) D_is_label.g D_is_label.F.kp D_is_label.b (drs_cons (dr_of (de_ix (dr_var 0) (dr_of de_int))) drs_nil))) de_non de_int)))
        dss_nil)
      (dss_cons (ds_if (dt_cmp (op_eqA hr.units) od_eq (dr_of (de_ix (dr_var 0) (dr_of de_int))) (dr_of de_str) (nomark _))
        (dss_one (ds_ret (de_if (dt_val (de_call G_is_text hr hgd (by rfl) D_is_text.g D_is_text.F.kp D_is_text.b (drs_cons (dr_of (de_ix (dr_var 0) (dr_of de_int))) drs_nil))) de_non de_int)))
        dss_nil)
      (dss_one (ds_ret (de_neg de_int))))))))) (fun ca as Q er h => ?_)
  · obtain ⟨_, rfl, _⟩ := t1_inv h
    rfl
  · obtain ⟨a, rfl, q⟩ := t1_inv h
    obtain ⟨ok, q⟩ := q
    cases a with
    | dict _ => exact nomatch ok.fit
    | list xs =>
      match xs, ok, q with
      | [], ok, q =>
        walk_at "d"
        simp [fauD, oiD, sq_lst] at q ⊢
        exact q
      | [x], ok, q =>
        walk_at "d"
        have ox := okD_it ok x List.mem_cons_self
        rw [if_neg (by decide)]
        refine eqD_S ox.sh so_c ?_
        cases e : isS x "close" <;> (simp [e, fauD, oiD, sq_lst, itD] at q ⊢; exact q)
      | [x, y], ok, q =>
        walk_at "d"
        have ox := okD_it ok x List.mem_cons_self
        have oy := okD_it ok y (List.mem_cons_of_mem _ List.mem_cons_self)
        have ys : ∀ z, y = .str z → z.length ≤ 100000 := fun z e => by
          rw [e] at oy
          exact okD_str oy
        have last : eqD x (.str "open") fun z => match z with
            | .bool b => if b = true then (∀ z, y = .str z → z.length ≤ 100000) ∧ (if labD y = true then Q .none [.sh (.list [x, y])] else Q (.int 1) [.sh (.list [x, y])])
              else eqD x (.str "text") fun z => match z with
                | .bool b => if b = true then (∀ z, y = .str z → z.length ≤ sizeLine) ∧ (if txtB y = true then Q .none [.sh (.list [x, y])] else Q (.int 1) [.sh (.list [x, y])]) else Q (.int (-1)) [.sh (.list [x, y])]
                | _ => False
            | _ => False := by
          refine eqD_S ox.sh so_o ?_
          cases e : isS x "open" with
          | true =>
            refine ⟨ys, ?_⟩
            cases e2 : labD y <;> (simp [e, e2, fauD, oiD, sq_lst, itD] at q ⊢; exact q)
          | false =>
            dsimp only
            rw [if_neg (by decide)]
            refine eqD_S ox.sh so_t ?_
            cases e3 : isS x "text" with
            | true =>
              refine ⟨fun z h => Nat.le_trans (ys z h) (by decide), ?_⟩
              cases e2 : txtB y <;> (simp [e, e2, e3, fauD, oiD, sq_lst, itD] at q ⊢; exact q)
            | false =>
              simp [e, e3, fauD, oiD, sq_lst, itD] at q ⊢
              exact q
        rw [if_neg (by decide)]
        refine eqD_S ox.sh so_c ?_
        cases e : isS x "close" with
        | true =>
          dsimp only
          rw [if_pos rfl, if_neg (by decide), if_neg (by decide)]
          exact last
        | false =>
          dsimp only
          rw [if_neg (by decide), if_neg (by decide)]
          exact last
      | x :: y :: z :: l, ok, q =>
        walk_at "d"
        have ox := okD_it ok x List.mem_cons_self
        rw [if_neg (by simp; omega)]
        refine eqD_S ox.sh so_c ?_
        have e2 : ¬ (((l.length + 1 + 1 + 1 : Nat) : Int) = 2) := by omega
        have e1 : ¬ (((l.length + 1 + 1 + 1 : Nat) : Int) = 1) := by omega
        simp only [fauD, oiD, sq_lst, itD] at q
        cases e : isS x "close" with
        | true =>
          dsimp only
          rw [if_pos rfl, if_neg (by simpa using e1), if_pos (by simpa using e2)]
          exact q
        | false =>
          dsimp only
          rw [if_neg (by decide), if_pos (by simpa using e2)]
          exact q
    | tuple xs =>
      match xs, ok, q with
      | [], ok, q =>
        walk_at "d"
        simp [fauD, oiD, sq_tup] at q ⊢
        exact q
      | [x], ok, q =>
        walk_at "d"
        have ox := okD_it ok x List.mem_cons_self
        rw [if_neg (by decide)]
        refine eqD_S ox.sh so_c ?_
        cases e : isS x "close" <;> (simp [e, fauD, oiD, sq_tup, itD] at q ⊢; exact q)
      | [x, y], ok, q =>
        walk_at "d"
        have ox := okD_it ok x List.mem_cons_self
        have oy := okD_it ok y (List.mem_cons_of_mem _ List.mem_cons_self)
        have ys : ∀ z, y = .str z → z.length ≤ 100000 := fun z e => by
          rw [e] at oy
          exact okD_str oy
        have last : eqD x (.str "open") fun z => match z with
            | .bool b => if b = true then (∀ z, y = .str z → z.length ≤ 100000) ∧ (if labD y = true then Q .none [.sh (.tuple [x, y])] else Q (.int 1) [.sh (.tuple [x, y])])
              else eqD x (.str "text") fun z => match z with
                | .bool b => if b = true then (∀ z, y = .str z → z.length ≤ sizeLine) ∧ (if txtB y = true then Q .none [.sh (.tuple [x, y])] else Q (.int 1) [.sh (.tuple [x, y])]) else Q (.int (-1)) [.sh (.tuple [x, y])]
                | _ => False
            | _ => False := by
          refine eqD_S ox.sh so_o ?_
          cases e : isS x "open" with
          | true =>
            refine ⟨ys, ?_⟩
            cases e2 : labD y <;> (simp [e, e2, fauD, oiD, sq_tup, itD] at q ⊢; exact q)
          | false =>
            dsimp only
            rw [if_neg (by decide)]
            refine eqD_S ox.sh so_t ?_
            cases e3 : isS x "text" with
            | true =>
              refine ⟨fun z h => Nat.le_trans (ys z h) (by decide), ?_⟩
              cases e2 : txtB y <;> (simp [e, e2, e3, fauD, oiD, sq_tup, itD] at q ⊢; exact q)
            | false =>
              simp [e, e3, fauD, oiD, sq_tup, itD] at q ⊢
              exact q
        rw [if_neg (by decide)]
        refine eqD_S ox.sh so_c ?_
        cases e : isS x "close" with
        | true =>
          dsimp only
          rw [if_pos rfl, if_neg (by decide), if_neg (by decide)]
          exact last
        | false =>
          dsimp only
          rw [if_neg (by decide), if_neg (by decide)]
          exact last
      | x :: y :: z :: l, ok, q =>
        walk_at "d"
        have ox := okD_it ok x List.mem_cons_self
        rw [if_neg (by simp; omega)]
        refine eqD_S ox.sh so_c ?_
        have e2 : ¬ (((l.length + 1 + 1 + 1 : Nat) : Int) = 2) := by omega
        have e1 : ¬ (((l.length + 1 + 1 + 1 : Nat) : Int) = 1) := by omega
        simp only [fauD, oiD, sq_tup, itD] at q
        cases e : isS x "close" with
        | true =>
          dsimp only
          rw [if_pos rfl, if_neg (by simpa using e1), if_pos (by simpa using e2)]
          exact q
        | false =>
          dsimp only
          rw [if_neg (by decide), if_pos (by simpa using e2)]
          exact q
    | _ =>
      walk_at "d"
      simp [fauD, oiD, isSq] at q ⊢
      exact q
def sgnB (D : PyData) : Bool := (fauD D).isNone
abbrev T_is_sign : TD := T1 fun D Q _ => OkD D ∧ Q (.bool (sgnB D))
abbrev s_is_sign : Stmt := top 20
theorem sc_is_sign : FnScope ["value"] ["value"] (defScope s_is_sign) := ⟨rfl, rfl, rfl, by decide +kernel, rfl, by decide +kernel, by decide +kernel⟩
theorem ok_is_sign {f : Addr} {fd : FuncData} (F : Fun Z.K "is_sign" "is_sign" s_is_sign f fd) (T : Tz Z.K Z.mg)
    {f_sign_fault : Addr} {fd_sign_fault : FuncData} (D_sign_fault : Df Z.K Z.mg "_sign_fault" s_sign_fault ["value"] f_sign_fault fd_sign_fault) (G_sign_fault : FnD Z.Pg Z.w Z.K Z.mg Z.base CX0 2 f_sign_fault fd_sign_fault ["value"] (spT Z (T_sign_fault))) : FnD Z.Pg Z.w Z.K Z.mg Z.base CX0 3 f fd ["value"] (spT Z (T_is_sign)) := by
  refine okD F sc_is_sign (fun as Q er h => ?_) (fun cdv A outer s H E G0 ca hr hgd hca => (dss_one (ds_ret (de_cmp op_isN od_is (dr_of (de_call G_sign_fault hr hgd (by rfl) D_sign_fault.g D_sign_fault.F.kp D_sign_fault.b (drs_cons (dr_var 0) drs_nil))) (dr_of de_non) (nomark _))))) (fun ca as Q er h => ?_)
  · obtain ⟨_, rfl, _⟩ := t1_inv h
    rfl
  · obtain ⟨a, rfl, q⟩ := t1_inv h
    obtain ⟨ok, q⟩ := q
    walk_at "d"
    refine ⟨ok, ?_⟩
    unfold sgnB at q
    cases e : fauD a <;> (rw [e] at q; exact q)
def sgL : Sg → PyData
  | .op l => .list [.str "open", .str l]
  | .cl => .list [.str "close"]
  | .tx z => .list [.str "text", .str z]
def sgOf (D : PyData) : Sg := match itD D with
  | [.str _, .str l] => if isS ((itD D).getD 0 .none) "open" = true then .op l else .tx l
  | _ => .cl
theorem iS_oo : isS (.str "open") "open" = true := by decide +kernel
theorem iS_to : isS (.str "text") "open" = false := by decide +kernel
/-- a value that passes is a sign -/
theorem sgn_inv {d : PyData} (h : sgnB d = true) : (sgOf d).ok ∧ .tuple (itD d) = sgD (sgOf d) := by
  have e : fauD d = none := Option.isNone_iff_eq_none.mp h
  have hs : isSq d = true := by
    cases q : isSq d with
    | true => rfl
    | false => rw [fauD, if_pos q] at e; cases e
  rw [fauD, if_neg (by rw [hs]; decide)] at e
  unfold sgOf
  generalize hl : itD d = l at e ⊢
  match l, e with
  | [], e => cases e
  | [a], e =>
    dsimp only at e
    split at e
    · rename_i q
      rw [isS_iff.mp q]
      exact ⟨trivial, rfl⟩
    · cases e
  | [a, b], e =>
    dsimp only at e
    split at e
    · rename_i q
      split at e
      · rename_i q2
        cases b with
        | str l =>
          rw [isS_iff.mp q]
          dsimp only
          rw [if_pos (by exact iS_oo)]
          exact ⟨q2, rfl⟩
        | _ => exact nomatch q2
      · cases e
    · rename_i q0
      split at e
      · rename_i q
        split at e
        · rename_i q2
          cases b with
          | str z =>
            rw [isS_iff.mp q]
            dsimp only
            rw [if_neg (by show ¬ isS (.str "text") "open" = true; rw [iS_to]; decide)]
            refine ⟨?_, rfl⟩
            show z.length ≤ 65535
            have q2 := of_decide_eq_true q2
            omega
          | _ => exact nomatch q2
        · cases e
      · cases e
  | _ :: _ :: _ :: _, e => cases e
theorem sgn_sq {d : PyData} (h : sgnB d = true) : isSq d = true := by
  have e : fauD d = none := Option.isNone_iff_eq_none.mp h
  cases q : isSq d with
  | true => rfl
  | false => rw [fauD, if_pos q] at e; cases e
theorem all_mapB {g : PyData → Bool} {ds : List PyData} {k : PyData → Prop} (h : k (.bool (ds.all g))) : allD (.list (ds.map fun d => .bool (g d))) k := ⟨ds.map g, by rw [List.map_map]; rfl, by
  rw [List.all_map]
  exact h⟩
def sgsB (V : PyData) : Bool := isSq V && (itD V).all sgnB
def sgsOf (V : PyData) : List Sg := (itD V).map sgOf
theorem sgs_inv {V : PyData} (h : sgsB V = true) : (∀ s ∈ sgsOf V, s.ok) ∧ (itD V).map (fun d => .tuple (itD d)) = (sgsOf V).map sgD ∧ (sgsOf V).length = (itD V).length := by
  have h2 := (Bool.and_eq_true_iff.mp h).2
  rw [List.all_eq_true] at h2
  unfold sgsOf
  refine ⟨fun s m => ?_, ?_, List.length_map ..⟩
  · obtain ⟨d, md, rfl⟩ := List.mem_map.mp m
    exact (sgn_inv (h2 d md)).1
  · rw [List.map_map]
    exact List.map_congr_left fun d md => (sgn_inv (h2 d md)).2
abbrev T_signs_in (R : Addr) : TD := T1 fun V Q er => OkD V ∧ if sgsB V = true then Q (.tuple ((sgsOf V).map sgD)) else er (R, V)
abbrev T_check_sign (B : Addr) : TD := T1 fun V Q er => OkD V ∧ (fauD V = none → Q (.tuple (itD V))) ∧ ∀ i, fauD V = some i → er (B, .int i)
theorem enum_next {l : List PyData} {i : Nat} {d : PyData} {ds : List PyData} (e : d :: ds = (enumD l).drop i) : ∃ h : i < l.length, d = .tuple [.int (i : Nat), l[i]] ∧ ds = (enumD l).drop (i + 1) := by
  have hl : (enumD l).length = l.length := by unfold enumD; rw [List.length_mapIdx]
  have hi : i < l.length := by
    rcases Nat.lt_or_ge i l.length with h | h
    · exact h
    · rw [List.drop_of_length_le (by omega)] at e
      cases e
  rw [List.drop_eq_getElem_cons (by omega)] at e
  obtain ⟨h1, h2⟩ := List.cons.inj e
  refine ⟨hi, ?_, h2⟩
  rw [h1]
  unfold enumD
  rw [List.getElem_mapIdx]
theorem enum_end {l : List PyData} {i : Nat} (e : [] = (enumD l).drop i) : l.length ≤ i := by
  have := congrArg List.length e
  unfold enumD at this
  rw [List.length_drop, List.length_mapIdx, List.length_nil] at this
  omega
end
end Lw
set_option Elab.async false
set_option linter.all false
set_option maxRecDepth 100000
set_option maxHeartbeats 1000000
set_option pp.deepTerms true
set_option pp.maxSteps 200000
namespace Lw
open PySem PySem.Spec PyProof PyProof.Rows L2 So Da Dl
local macro_rules | `(tactic| walk_at "z") => `(tactic| repeat (first | refine ⟨(by decide), ?_⟩ | refine ⟨(by omega), ?_⟩ | refine ⟨rfl, ?_⟩))
section
variable {Z : Zw}
/-- what is no machine, and where -/
def BadMa (D : PyData) (i : Int) : Prop := rowB D 4 = false ∧ i = -1
def maL (M : Ma) : PyData := .list [.tuple (M.ls.map .str), .tuple (M.xs.map .str), topD M, innD M]
/-- a machine, handed on as it is, or as a list of its parts -/
def MaIs (D : PyData) (M : Ma) : Prop := D = maD M ∨ D = maL M
def MaIn (C : Addr) (D : PyData) (k : Ma → Prop) (er : EK) : Prop := (∃ M : Ma, MaIs D M ∧ MaOk M ∧ k M) ∨ ∃ i, BadMa D i ∧ er (C, .int i)
abbrev T_check_machine (B : Addr) : TD := T1 fun D Q er => MaIn B D (fun M => Q (maD M)) er
abbrev s_check_machine : Stmt := top 53
theorem sc_check_machine : FnScope ["value", "labels", "texts", "tops", "inners", "top", "inner"] ["value"] (defScope s_check_machine) := ⟨rfl, rfl, rfl, by decide +kernel, rfl, by decide +kernel, by decide +kernel⟩
local macro_rules | `(tactic| walk_at "d") => `(tactic| simp only [↓dSeq, ↓dFor, ↓reprD, ↓dCallK, ↓dIfS, ↓dAndV, ↓dOrV, ↓dUn, ↓dOp, ↓dC, ↓dVar, ↓derefW, ↓deref, ↓known, ↓noOb, ↓nbO, ↓start0, ↓endsOf, ↓outA, ↓toB, ↓dAnd, ↓dOr, ↓dNot, ↓ofB, ↓dIf, ↓dChain, ↓dgName, ↓dgSeq, ↓dgCons, ↓dgNil, ↓dLc, ↓popW, ↓atOl, ↓isOl, ↓ownS, ↓frzD, ↓dCall, argsOf, argLc, obSlots, upS, upO, ↓noObs, ↓wipeD, List.map_cons, List.map_nil, List.length_cons, List.length_nil, Nat.sub_self, Nat.zero_add, Nat.reduceAdd, Nat.reduceSub, List.replicate, List.append_nil, List.cons_append, List.nil_append, List.getElem?_cons_zero, List.getElem?_cons_succ, List.getElem?_nil, List.set, List.head?, List.tail, Option.getD_some, Option.getD_none, List.nodup_nil, List.nodup_cons, List.not_mem_nil, List.mem_cons, List.mem_singleton, or_false, Nat.reduceEqDiff, true_and, and_true, Bool.not_true, Bool.not_false, if_true, Bool.false_eq_true, if_false, ite_true, ite_false, not_false_eq_true, reduceCtorEq, eqD_int, eqD_str, eqD_bl, eqD_tuple, eqD_list, eqD_tupleR, eqD_listR, eqD_non, neD_int, neD_str, neD_bl, neD_tuple, neD_list, neD_tupleR, neD_listR, neD_non, ↓isD, ↓notD, ix_0, ix_1, ix_2, ix_3, ix_4, ix_L0, ix_L1, ix_L2, itemsD_L, itemsD_T, tupleD_L, tupleD_T, listD_L, listD_T, lenD_L, lenD_T, lenD_S, slD_L, slD_T, addD_I, addD_S, addD_T, addD_L, subD_I, mulD_I, ltD_I, ltD_S, leD_I, gtD_I, geD_I, modD_I, fdivD_I, powD_I, intD_I, intD_B, negD_I, isND_N, isND_I, isND_S, isND_B, isND_T, isND_L, sq_T, sq_L, sq_N, sq_I, sq_S, sq_B, at_0, at_1, at_2, at_3, at_4, ↓isiD, pick, List.filterMap_cons_some, List.filterMap_nil, List.filterMap_cons, ↓ownC, ↓T1, ↓T2, ↓T3, ↓T4, ↓dHeard, ↓capsD, ↓slotsD, ↓lamW, lamSto, cpLc, ↓dHeardS, ↓dAsks, ↓asksW, ↓heardT, ↓Tbox, ↓Ttake, ↓intW, ix_ma0, ix_ma1, ix_ma2, ix_ma3, ix_inn0, ix_inn1, ix_inn2, ix_inn3, ix_top0, ix_top1, ix_top2, ix_top3, ix_top4])
theorem ok_check_machine {f : Addr} {fd : FuncData} (F : Fun Z.K "check_machine" "check_machine" s_check_machine f fd) (T : Tz Z.K Z.mg) {C_BadMachine : Addr}
    {f_is_row_of : Addr} {fd_is_row_of : FuncData} (D_is_row_of : Df Z.K Z.mg "is_row_of" s_is_row_of ["value", "many"] f_is_row_of fd_is_row_of) (G_is_row_of : FnD Z.Pg Z.w Z.K Z.mg Z.base CX0 5 f_is_row_of fd_is_row_of ["value", "many"] (spT Z (T_is_row_of)))
    {f_are_labels : Addr} {fd_are_labels : FuncData} (D_are_labels : Df Z.K Z.mg "are_labels" s_are_labels ["value"] f_are_labels fd_are_labels) (G_are_labels : FnD Z.Pg Z.w Z.K Z.mg Z.base CX0 5 f_are_labels fd_are_labels ["value"] (spT Z (T_are_labels)))
    {f_are_texts : Addr} {fd_are_texts : FuncData} (D_are_texts : Df Z.K Z.mg "are_texts" s_are_texts ["value"] f_are_texts fd_are_texts) (G_are_texts : FnD Z.Pg Z.w Z.K Z.mg Z.base CX0 5 f_are_texts fd_are_texts ["value"] (spT Z (T_are_texts)))
    {f_are_inners : Addr} {fd_are_inners : FuncData} (D_are_inners : Df Z.K Z.mg "are_inners" s_are_inners ["value", "labels", "texts"] f_are_inners fd_are_inners) (G_are_inners : FnD Z.Pg Z.w Z.K Z.mg Z.base CX0 5 f_are_inners fd_are_inners ["value", "labels", "texts"] (spT Z (T_are_inners)))
    {f_are_tops : Addr} {fd_are_tops : FuncData} (D_are_tops : Df Z.K Z.mg "are_tops" s_are_tops ["value", "texts", "inner_many"] f_are_tops fd_are_tops) (G_are_tops : FnD Z.Pg Z.w Z.K Z.mg Z.base CX0 5 f_are_tops fd_are_tops ["value", "texts", "inner_many"] (spT Z (T_are_tops)))
    {f_as_tuples : Addr} {fd_as_tuples : FuncData} (D_as_tuples : Df Z.K Z.mg "as_tuples" s_as_tuples ["rows"] f_as_tuples fd_as_tuples) (G_as_tuples : FnD Z.Pg Z.w Z.K Z.mg Z.base CX0 5 f_as_tuples fd_as_tuples ["rows"] (spT Z (T_as_tuples)))
    (A_BadMachine : Z.T.an C_BadMachine = "at") {fI_BadMachine : Addr} {fdI_BadMachine : FuncData} (B_BadMachine : Er Z.K Z.mg "BadMachine" "BadMachine.__init__" "at" c_BadMachine C_BadMachine fI_BadMachine fdI_BadMachine) (I_BadMachine : FnOk Z.Pg Z.w Z.K Z.mg Z.base CX0 4 fI_BadMachine fdI_BadMachine ["self", "at"] (spIni C_BadMachine "at")) : FnD Z.Pg Z.w Z.K Z.mg Z.base (L2.CX Z.Pg Z.w) 6 f fd ["value"] (spT Z (T_check_machine C_BadMachine)) := by
  refine okDX F sc_check_machine (fun as Q er h => ?_) (fun cdv A outer s H E G0 er ca hE hr hgd hca => (dss_cons (ds_if (dt_not (dt_val (de_call G_is_row_of hr hgd (by rfl) D_is_row_of.g D_is_row_of.F.kp D_is_row_of.b (drs_cons (dr_var 0) (drs_cons (dr_of de_int) drs_nil)))))
        (dss_one (ds_raise A_BadMachine hE (ps_raise rfl (takes_of rfl rfl rfl rfl) (pmk_oex B_BadMachine.T B_BadMachine.ini B_BadMachine.ty I_BadMachine hr B_BadMachine.b .nil pass0 (by rfl) B_BadMachine.g (pa_cons (de_neg de_int) pa_nil)))))
        dss_nil)
      (dss_cons (ds_asg (de_var 0) (dg_seq (m := 4) rfl (dgs_cons (dg_name (i := 1) sc_check_machine.nd rfl (Or.inl rfl)) (dgs_cons (dg_name (i := 2) sc_check_machine.nd rfl (Or.inl rfl)) (dgs_cons (dg_name (i := 3) sc_check_machine.nd rfl (Or.inl rfl)) (dgs_cons (dg_name (i := 4) sc_check_machine.nd rfl (Or.inl rfl)) dgs_nil))))))
      (dss_cons (ds_if (dt_not (dt_val (de_call G_are_labels hr hgd (by rfl) D_are_labels.g D_are_labels.F.kp D_are_labels.b (drs_cons (dr_var 1) drs_nil))))
        (dss_one (ds_raise A_BadMachine hE (ps_raise rfl (takes_of rfl rfl rfl rfl) (pmk_oex B_BadMachine.T B_BadMachine.ini B_BadMachine.ty I_BadMachine hr B_BadMachine.b .nil pass0 (by rfl) B_BadMachine.g (pa_cons de_int pa_nil)))))
        dss_nil)
      (dss_cons (ds_if (dt_not (dt_val (de_call G_are_texts hr hgd (by rfl) D_are_texts.g D_are_texts.F.kp D_are_texts.b (drs_cons (dr_var 2) drs_nil))))
        (dss_one (ds_raise A_BadMachine hE (ps_raise rfl (takes_of rfl rfl rfl rfl) (pmk_oex B_BadMachine.T B_BadMachine.ini B_BadMachine.ty I_BadMachine hr B_BadMachine.b .nil pass0 (by rfl) B_BadMachine.g (pa_cons de_int pa_nil)))))
        dss_nil)
      (dss_cons (ds_if (dt_not (dt_val (de_call G_are_inners hr hgd (by rfl) D_are_inners.g D_are_inners.F.kp D_are_inners.b (drs_cons (dr_var 4) (drs_cons (dr_var 1) (drs_cons (dr_var 2) drs_nil))))))
        (dss_one (ds_raise A_BadMachine hE (ps_raise rfl (takes_of rfl rfl rfl rfl) (pmk_oex B_BadMachine.T B_BadMachine.ini B_BadMachine.ty I_BadMachine hr B_BadMachine.b .nil pass0 (by rfl) B_BadMachine.g (pa_cons de_int pa_nil)))))
        dss_nil)
      (dss_cons (ds_if (dt_not (dt_val (de_call G_are_tops hr hgd (by rfl) D_are_tops.g D_are_tops.F.kp D_are_tops.b (drs_cons (dr_var 3) (drs_cons (dr_var 2) (drs_cons (dr_of (de_ix (dr_var 4) (dr_of de_int))) drs_nil))))))
        (dss_one (ds_raise A_BadMachine hE (ps_raise rfl (takes_of rfl rfl rfl rfl) (pmk_oex B_BadMachine.T B_BadMachine.ini B_BadMachine.ty I_BadMachine hr B_BadMachine.b .nil pass0 (by rfl) B_BadMachine.g (pa_cons de_int pa_nil)))))
        dss_nil)
      (dss_cons (ds_set (i := 5) sc_check_machine.nd rfl (Or.inl rfl) (de_tup (da_cons (de_ix (dr_var 3) (dr_of de_int)) (da_cons (de_ix (dr_var 3) (dr_of de_int)) (da_cons (de_call G_as_tuples hr hgd (by rfl) D_as_tuples.g D_as_tuples.F.kp D_as_tuples.b (drs_cons (dr_of (de_ix (dr_var 3) (dr_of de_int))) drs_nil)) (da_cons (de_call G_as_tuples hr hgd (by rfl) D_as_tuples.g D_as_tuples.F.kp D_as_tuples.b (drs_cons (dr_of (de_ix (dr_var 3) (dr_of de_int))) drs_nil)) (da_cons (de_call G_as_tuples hr hgd (by rfl) D_as_tuples.g D_as_tuples.F.kp D_as_tuples.b (drs_cons (dr_of (de_ix (dr_var 3) (dr_of de_int))) drs_nil)) da_nil)))))))
      (dss_cons (ds_set (i := 6) sc_check_machine.nd rfl (Or.inl rfl) (de_tup (da_cons (de_ix (dr_var 4) (dr_of de_int)) (da_cons (de_callTy call_tupleF cd_tuple (by rfl) T.tuple (by decide +kernel) (dr_of (de_ix (dr_var 4) (dr_of de_int)))) (da_cons (de_call G_as_tuples hr hgd (by rfl) D_as_tuples.g D_as_tuples.F.kp D_as_tuples.b (drs_cons (dr_of (de_ix (dr_var 4) (dr_of de_int))) drs_nil)) (da_cons (de_call G_as_tuples hr hgd (by rfl) D_as_tuples.g D_as_tuples.F.kp D_as_tuples.b (drs_cons (dr_of (de_ix (dr_var 4) (dr_of de_int))) drs_nil)) da_nil))))))
      (dss_one (ds_ret (de_tup (da_cons (de_callTy call_tupleF cd_tuple (by rfl) T.tuple (by decide +kernel) (dr_var 1)) (da_cons (de_callTy call_tupleF cd_tuple (by rfl) T.tuple (by decide +kernel) (dr_var 2)) (da_cons (de_var 5) (da_cons (de_var 6) da_nil)))))))))))))))) (fun ca as Q er h => ?_)
  · obtain ⟨_, rfl, _⟩ := t1_inv h
    rfl
  · obtain ⟨a, rfl, q⟩ := t1_inv h
    rcases q with ⟨M, im, ok, q⟩ | ⟨i, ⟨hb, rfl⟩, q⟩
    case inr =>
      walk_at "d"
      rw [hb, if_pos (by decide)]
      exact q
    have n1 := ok.tn
    have n2 := ok.im
    have n3 := ok.x4
    have n4 := ok.tx.1
    have n5 := ok.tc.1
    have n6 := ok.ix.1
    have n7 := ok.ic.1
    have n8 := ok.an
    have s5 : (5 : Nat) ≤ sizeLine := by decide
    have s4 : (4 : Nat) ≤ sizeLine := by decide
    have at' : ∀ {r : List (List Nat)}, r.length ≤ 300 → (r.map rowD).length ≤ 1000 := fun h => by rw [List.length_map]; omega
    rcases im with rfl | rfl
    · have e1 : rowB (.tuple [.tuple (M.ls.map .str), .tuple (M.xs.map .str), topD M, innD M]) 4 = true := rowB_len (n := 4) (by rfl)
      simp only [topD, innD, rowD] at e1
      simp only [maD, topD, innD, rowD] at q ⊢
      walk_at "d"
      simp only [e1, Bool.not_true, Bool.false_eq_true, if_false]
      refine ⟨M, rfl, ok, M, rfl, ok, M, rfl, rfl, rfl, ok, M, rfl, rfl, rfl, ok, _, rfl, at' (by omega), rows_tup, _, rfl, at' (by omega), rows_tup, _, rfl, ?_, fun d hd => ?_, s5, _, rfl, at' (by omega), rows_tup, _, rfl, at' (by omega), rows_tup, s4, s4, q⟩
      · rw [List.length_map]
        omega
      · obtain ⟨r, _, rfl⟩ := List.mem_map.mp hd
        exact ⟨_, rfl⟩
    · have e1 : rowB (.list [.tuple (M.ls.map .str), .tuple (M.xs.map .str), topD M, innD M]) 4 = true := rfl
      simp only [topD, innD, rowD] at e1
      simp only [maD, maL, topD, innD, rowD] at q ⊢
      walk_at "d"
      simp only [e1, Bool.not_true, Bool.false_eq_true, if_false]
      refine ⟨M, rfl, ok, M, rfl, ok, M, rfl, rfl, rfl, ok, M, rfl, rfl, rfl, ok, _, rfl, at' (by omega), rows_tup, _, rfl, at' (by omega), rows_tup, _, rfl, ?_, fun d hd => ?_, s5, _, rfl, at' (by omega), rows_tup, _, rfl, at' (by omega), rows_tup, s4, s4, q⟩
      · rw [List.length_map]
        omega
      · obtain ⟨r, _, rfl⟩ := List.mem_map.mp hd
        exact ⟨_, rfl⟩
end
end Lw
set_option Elab.async false
set_option linter.all false
set_option maxRecDepth 100000
set_option maxHeartbeats 1000000
set_option pp.deepTerms true
set_option pp.maxSteps 200000
namespace Lw
open PySem PySem.Spec PyProof PyProof.Rows L2 So Da Dl
local macro_rules | `(tactic| walk_at "z") => `(tactic| repeat (first | refine ⟨(by decide), ?_⟩ | refine ⟨(by omega), ?_⟩ | refine ⟨rfl, ?_⟩))
section
variable {Z : Zw}
abbrev Pr := List Nat × List Nat
structure Pc where
  cs : List Pr
  os : List Nat
def prD (p : Pr) : PyData := .tuple [rowD p.1, rowD p.2]
def pcD (p : Pc) : PyData := .tuple [.tuple (p.cs.map prD), .tuple (p.os.map nD)]
def same (M : Ma) : Pr := (List.range M.im, List.range M.tn)
def nothing (M : Ma) : Pc := ⟨[same M], []⟩
def ofSg (M : Ma) : Sg → Pc
  | .op l => ⟨[same M], [M.st.getD (M.ls.idxOf l) 0]⟩
  | .tx z => ⟨[(M.ix.getD (M.xs.idxOf z) [], M.tx.getD (M.xs.idxOf z) [])], []⟩
  | .cl => ⟨[same M, same M], []⟩
def comp (p q : Pr) : Pr := (p.1.map fun s => q.1.getD s 0, p.2.map fun s => q.2.getD s 0)
def lead (x : Pc) (p : Pr) : Pc := match x.os.getLast? with
  | some o => ⟨x.cs, x.os.dropLast ++ [p.1.getD o 0]⟩
  | none => match x.cs.getLast? with
    | some c => ⟨x.cs.dropLast ++ [comp c p], []⟩
    | none => x
def closeL (M : Ma) (x : Pc) (p : Pr) : Pc := match x.os.getLast? with
  | none => ⟨x.cs ++ [p], []⟩
  | some ch => lead (lead ⟨x.cs, x.os.dropLast⟩ (M.ic.getD ch [], M.tc.getD ch [])) p
def runC (M : Ma) (x : Pc) : List Pr → Pc
  | [] => x
  | p :: ps => ps.foldl (closeL M) (lead x p)
def put (M : Ma) (x y : Pc) : Pc := ⟨(runC M x y.cs).cs, (runC M x y.cs).os ++ y.os⟩
structure PrOk (M : Ma) (p : Pr) : Prop where
  i : mapOk p.1 M.im M.im
  t : mapOk p.2 M.tn M.tn
structure PcOk (M : Ma) (x : Pc) : Prop where
  ne : x.cs ≠ []
  c : ∀ p ∈ x.cs, PrOk M p
  o : ∀ s ∈ x.os, s < M.im
theorem getD_mem {r : List Nat} {s d : Nat} (h : s < r.length) : r.getD s d ∈ r := by
  rw [List.getD_eq_getElem?_getD, List.getElem?_eq_getElem h]
  exact List.getElem_mem h
theorem getD_rows {rs : List (List Nat)} {n m k : Nat} (h : mapsOk rs n m) (hk : k < n) : mapOk (rs.getD k []) m m := by
  rw [List.getD_eq_getElem?_getD, List.getElem?_eq_getElem (by rw [h.1]; exact hk)]
  exact h.2 _ (List.getElem_mem _)
theorem snoc {α : Type} (l : List α) : l = [] ∨ ∃ l' a, l = l' ++ [a] := (List.eq_nil_or_concat l).imp id fun ⟨l', a, e⟩ => ⟨l', a, by rw [e, List.concat_eq_append]⟩
end
end Lw
set_option Elab.async false
set_option linter.all false
set_option maxRecDepth 100000
set_option maxHeartbeats 1000000
set_option pp.deepTerms true
set_option pp.maxSteps 200000
namespace Lw
open PySem PySem.Spec PyProof PyProof.Rows L2 So Da Dl
local macro_rules | `(tactic| walk_at "z") => `(tactic| repeat (first | refine ⟨(by decide), ?_⟩ | refine ⟨(by omega), ?_⟩ | refine ⟨rfl, ?_⟩))
section
variable {Z : Zw}
abbrev T_same : TD := T1 fun D Q _ => ∃ M, D = maD M ∧ MaOk M ∧ Q (prD (same M))
abbrev T_nothing : TD := T1 fun D Q _ => ∃ M, D = maD M ∧ MaOk M ∧ Q (pcD (nothing M))
theorem at_rows {rs : List (List Nat)} {k : Nat} (h : k < rs.length) : atI (rs.map rowD) (k : Int) = some (rowD (rs.getD k [])) := by
  refine atI_nat ?_
  rw [List.getElem?_map, List.getElem?_eq_getElem h, List.getD_eq_getElem?_getD, List.getElem?_eq_getElem h]
  rfl
theorem at_row {r : List Nat} {k : Nat} (h : k < r.length) : atI (r.map nD) (k : Int) = some (nD (r.getD k 0)) := by
  refine atI_nat ?_
  rw [List.getElem?_map, List.getElem?_eq_getElem h, List.getD_eq_getElem?_getD, List.getElem?_eq_getElem h]
  rfl
theorem ix_rows {rs : List (List Nat)} {k : Nat} {Q : PyData → Prop} (h : k < rs.length) : ixD (rowsD rs) (nD k) Q = Q (rowD (rs.getD k [])) := by
  unfold rowsD nD ixD
  simp only [at_rows h]
theorem ix_row {r : List Nat} {k : Nat} {Q : PyData → Prop} (h : k < r.length) : ixD (rowD r) (nD k) Q = Q (nD (r.getD k 0)) := by
  have e := at_row h
  unfold rowD ixD
  simp only [nD] at e ⊢
  simp only [e]
abbrev T_of_sign : TD := T2 fun D S Q _ => ∃ M s, D = maD M ∧ MaOk M ∧ S = sgD s ∧ Q (pcD (ofSg M s))
end
end Lw
set_option Elab.async false
set_option linter.all false
set_option maxRecDepth 100000
set_option maxHeartbeats 1000000
set_option pp.deepTerms true
set_option pp.maxSteps 200000
namespace Lw
open PySem PySem.Spec PyProof PyProof.Rows L2 So Da Dl
local macro_rules | `(tactic| walk_at "z") => `(tactic| repeat (first | refine ⟨(by decide), ?_⟩ | refine ⟨(by omega), ?_⟩ | refine ⟨rfl, ?_⟩))
section
variable {Z : Zw}
def T_lead_on : TD := fun as Q _ => match as with
  | [.ob a (.lst cs), .ob b (.lst os), .sh p] => ∃ M x pr, cs = x.cs.map prD ∧ os = x.os.map nD ∧ p = prD pr ∧ PcOk M x ∧ PrOk M pr ∧ M.im ≤ 200 ∧ M.tn ≤ 200 ∧ Q .none [.ob a (.lst ((lead x pr).cs.map prD)), .ob b (.lst ((lead x pr).os.map nD)), .sh p]
  | _ => False
end
end Lw
set_option Elab.async false
set_option linter.all false
set_option maxRecDepth 100000
set_option maxHeartbeats 1000000
set_option pp.deepTerms true
set_option pp.maxSteps 200000
namespace Lw
open PySem PySem.Spec PyProof PyProof.Rows L2 So Da Dl
local macro_rules | `(tactic| walk_at "z") => `(tactic| repeat (first | refine ⟨(by decide), ?_⟩ | refine ⟨(by omega), ?_⟩ | refine ⟨rfl, ?_⟩))
section
variable {Z : Zw}
abbrev T_put_together : TD := T3 fun D X Y Q _ => ∃ M x y, D = maD M ∧ MaOk M ∧ X = pcD x ∧ Y = pcD y ∧ PcOk M x ∧ PcOk M y ∧ x.cs.length + y.cs.length ≤ 10000 ∧ x.os.length + y.os.length ≤ 10000 ∧ Q (pcD (put M x y))
end
end Lw
set_option Elab.async false
set_option linter.all false
set_option maxRecDepth 100000
set_option maxHeartbeats 1000000
set_option pp.deepTerms true
set_option pp.maxSteps 200000
namespace Lw
open PySem PySem.Spec PyProof PyProof.Rows L2 So Da Dl
local macro_rules | `(tactic| walk_at "z") => `(tactic| repeat (first | refine ⟨(by decide), ?_⟩ | refine ⟨(by omega), ?_⟩ | refine ⟨rfl, ?_⟩))
section
variable {Z : Zw}
def pairB (M : Ma) (D : PyData) : Bool := rowB D 2 && match itD D with
  | [a, b] => mapB a (M.im : Nat) (M.im : Nat) && mapB b (M.tn : Nat) (M.tn : Nat)
  | _ => false
def pieceB (M : Ma) (D : PyData) : Bool := rowB D 2 && match itD D with
  | [a, b] => isSq a && isSq b && !decide (((itD a).length : Int) = 0) && (itD a).all (pairB M) && (itD b).all fun s => belB s (M.im : Nat)
  | _ => false
abbrev T_is_pair : TD := T2 fun D V Q _ => ∃ M, D = maD M ∧ Q (.bool (pairB M V))
theorem all_map {g : PyData → Bool} {ds : List PyData} {k : PyData → Prop} (h : k (.bool (ds.all g))) : allD (.list (ds.map fun d => .bool (g d))) k := ⟨ds.map g, by rw [List.map_map]; rfl, by
  rw [List.all_map]
  exact h⟩
def lenOk (V : PyData) : Prop := ∀ a ∈ itD V, (itD a).length ≤ 100000
abbrev T_is_piece : TD := T2 fun D V Q _ => ∃ M, D = maD M ∧ lenOk V ∧ Q (.bool (pieceB M V))
def pcL (p : Pc) : PyData := .list [.list (p.cs.map prD), .list (p.os.map nD)]
def Isp (V : PyData) (x : Pc) : Prop := V = pcD x ∨ V = pcL x
abbrev T_piece_as_tuples : TD := T1 fun V Q _ => ∃ x, Isp V x ∧ x.cs.length ≤ 100000 ∧ Q (pcD x)
end
end Lw
set_option Elab.async false
set_option linter.all false
set_option maxRecDepth 100000
set_option maxHeartbeats 1000000
set_option pp.deepTerms true
set_option pp.maxSteps 200000
namespace Lw
open PySem PySem.Spec PyProof PyProof.Rows L2 So Da Dl
local macro_rules | `(tactic| walk_at "z") => `(tactic| repeat (first | refine ⟨(by decide), ?_⟩ | refine ⟨(by omega), ?_⟩ | refine ⟨rfl, ?_⟩))
section
variable {Z : Zw}
def PieceIn (M : Ma) (V : PyData) (k : Pc → Prop) (e : Prop) : Prop := (∃ x, Isp V x ∧ PcOk M x ∧ x.cs.length ≤ 5000 ∧ x.os.length ≤ 5000 ∧ k x) ∨ (pieceB M V = false ∧ lenOk V ∧ e)
abbrev T_piece_in (C : Addr) : TD := T2 fun D V Q er => ∃ M, D = maD M ∧ PieceIn M V (fun x => Q (pcD x)) (er (C, V))
abbrev T_no_piece (B : Addr) : TD := T1 fun D Q er => MaIn B D (fun M => Q (pcD (nothing M))) er
abbrev T_joined (E C : Addr) : TD := T3 fun D A B Q er => MaIn E D (fun M => PieceIn M A (fun x => PieceIn M B (fun y => Q (pcD (put M x y))) (er (C, B))) (er (C, A))) er
def pcOf (M : Ma) (ss : List Sg) : Pc := ss.foldl (fun x s => put M x (ofSg M s)) (nothing M)
abbrev T_piece_of (B R : Addr) : TD := T2 fun D S Q er => OkD S ∧ (itD S).length ≤ 1000 ∧ MaIn B D (fun M => if sgsB S = true then Q (pcD (pcOf M (sgsOf S))) else er (R, S)) er
end
end Lw
set_option Elab.async false
set_option linter.all false
set_option maxRecDepth 100000
set_option maxHeartbeats 1000000
set_option pp.deepTerms true
set_option pp.maxSteps 200000
namespace Lw
open PySem PySem.Spec PyProof PyProof.Rows L2 So Da Dl
local macro_rules | `(tactic| walk_at "z") => `(tactic| repeat (first | refine ⟨(by decide), ?_⟩ | refine ⟨(by omega), ?_⟩ | refine ⟨rfl, ?_⟩))
section
variable {Z : Zw}
/-- a pair acts on the innermost state -/
def appP (p : Pr) (st : List Nat) : List Nat := match st.getLast? with
  | some s => st.dropLast ++ [(if 1 < st.length then p.1 else p.2).getD s 0]
  | none => []
/-- a stack: the top state first -/
structure StOk (M : Ma) (st : List Nat) : Prop where
  hd : ∀ t, st.head? = some t → t < M.tn
  tl : ∀ s ∈ st.tail, s < M.im
  ne : st ≠ []
def stepped (M : Ma) (st : List Nat) : Sg → Option (List Nat)
  | .op l => some (st ++ [M.st.getD (M.ls.idxOf l) 0])
  | .tx z => match st.getLast? with
    | none => none
    | some x => some (st.dropLast ++ [((if st.length = 1 then M.tx else M.ix).getD (M.xs.idxOf z) []).getD x 0])
  | .cl => match st.dropLast.getLast?, st.getLast? with
    | some y, some x => some (st.dropLast.dropLast ++ [((if st.length = 2 then M.tc else M.ic).getD x []).getD y 0])
    | _, _ => none
theorem st_last {M : Ma} {r : List Nat} {x : Nat} (h : StOk M (r ++ [x])) : (r = [] ∧ x < M.tn) ∨ (r ≠ [] ∧ x < M.im ∧ StOk M r) := by
  cases r with
  | nil => exact .inl ⟨rfl, h.hd x rfl⟩
  | cons t r =>
    refine .inr ⟨(fun z => nomatch z), h.tl x (by simp), ⟨fun u e => h.hd u e, fun s hs => h.tl s ?_, (fun z => nomatch z)⟩⟩
    simp only [List.tail_cons, List.cons_append] at hs ⊢
    exact List.mem_append_left _ hs
theorem st_snoc {M : Ma} {r : List Nat} {x : Nat} (h : (r = [] ∧ x < M.tn) ∨ (StOk M r ∧ x < M.im)) : StOk M (r ++ [x]) := by
  rcases h with ⟨rfl, h⟩ | ⟨h, hx⟩
  · exact ⟨fun t e => by cases e; exact h, (fun s m => nomatch m), (fun z => nomatch z)⟩
  · cases r with
    | nil => exact absurd rfl h.ne
    | cons t r =>
      refine ⟨fun u e => h.hd u e, fun s m => ?_, (fun z => nomatch z)⟩
      rcases List.mem_append.mp m with m | m
      · exact h.tl s m
      · rw [List.mem_singleton.mp m]
        exact hx
theorem stepped_ok {M : Ma} (ok : MaOk M) {st st' : List Nat} {s : Sg} (h : StOk M st) (e : stepped M st s = some st') : StOk M st' ∧ st'.length ≤ st.length + 1 := by
  have l1 := ok.ix.1
  have l2 := ok.tx.1
  cases s with
  | op l =>
    cases e
    refine ⟨st_snoc (.inr ⟨h, ok.st.2 _ (getD_mem ?_)⟩), by simp⟩
    rw [ok.st.1]
    have := List.idxOf_le_length (a := l) (l := M.ls)
    omega
  | tx z =>
    obtain q | ⟨r, x, rfl⟩ := snoc st
    · exact absurd q h.ne
    have hx := List.idxOf_le_length (a := z) (l := M.xs)
    simp only [stepped, List.getLast?_concat, List.dropLast_concat, Option.some.injEq] at e
    subst e
    refine ⟨st_snoc ?_, by simp⟩
    rcases st_last h with ⟨rfl, hxx⟩ | ⟨hr, hxx, h2⟩
    · refine .inl ⟨rfl, ?_⟩
      have m := getD_rows (k := M.xs.idxOf z) ok.tx (by omega)
      exact m.2 _ (getD_mem (by rw [m.1]; exact hxx))
    · refine .inr ⟨h2, ?_⟩
      have m := getD_rows (k := M.xs.idxOf z) ok.ix (by omega)
      have ne : (r ++ [x]).length ≠ 1 := fun e => hr (List.eq_nil_of_length_eq_zero (by rw [List.length_append, List.length_singleton] at e; omega))
      rw [if_neg ne]
      exact m.2 _ (getD_mem (by rw [m.1]; exact hxx))
  | cl =>
    obtain q | ⟨r, x, rfl⟩ := snoc st
    · exact absurd q h.ne
    obtain rfl | ⟨r, y, rfl⟩ := snoc r
    · cases e
    simp only [stepped, List.getLast?_concat, List.dropLast_concat, Option.some.injEq] at e
    subst e
    rcases st_last h with ⟨e, _⟩ | ⟨_, hx, sk2⟩
    · simp at e
    refine ⟨st_snoc ?_, by simp⟩
    rcases st_last sk2 with ⟨rfl, hy⟩ | ⟨hr, hy, h2⟩
    · refine .inl ⟨rfl, ?_⟩
      have m := getD_rows (k := x) ok.tc hx
      exact m.2 _ (getD_mem (by rw [m.1]; exact hy))
    · refine .inr ⟨h2, ?_⟩
      have m := getD_rows (k := x) ok.ic hx
      have ne : (r ++ [y] ++ [x]).length ≠ 2 := fun e => hr (List.eq_nil_of_length_eq_zero (by simp only [List.length_append, List.length_singleton] at e; omega))
      rw [if_neg ne]
      exact m.2 _ (getD_mem (by rw [m.1]; exact hy))
/-- a piece acts on a stack -/
def ledGo (M : Ma) : Bool → List Nat → List Pr → Option (List Nat)
  | _, st, [] => some st
  | true, st, p :: ps => ledGo M false (appP p st) ps
  | false, st, p :: ps => (stepped M st .cl).bind fun s => ledGo M false (appP p s) ps
def led (M : Ma) (st : List Nat) (x : Pc) : Option (List Nat) := (ledGo M true st x.cs).map (· ++ x.os)
theorem stepped_cl {M : Ma} {r : List Nat} {y x : Nat} : stepped M (r ++ [y] ++ [x]) .cl = some (r ++ [((if r.length = 0 then M.tc else M.ic).getD x []).getD y 0]) := by
  simp only [stepped, List.getLast?_concat, List.dropLast_concat, Option.some.injEq]
  by_cases h : r.length = 0
  · rw [if_pos h, if_pos (by simp only [List.length_append, List.length_singleton]; omega)]
  · rw [if_neg h, if_neg (by simp only [List.length_append, List.length_singleton]; omega)]
def stkB (M : Ma) (V : PyData) : Bool := isSq V && match itD V with
  | [] => false
  | x :: xs => belB x (M.tn : Nat) && xs.all fun y => belB y (M.im : Nat)
theorem bel_nat {d : PyData} {n : Nat} (h : belB d (n : Nat) = true) : ∃ k : Nat, d = nD k ∧ k < n := by
  cases d with
  | int i =>
    have h : (decide (0 ≤ i) && decide (i < (n : Nat))) = true := h
    rw [Bool.and_eq_true] at h
    have h1 := of_decide_eq_true h.1
    have h2 := of_decide_eq_true h.2
    exact ⟨i.toNat, congrArg PyData.int (by omega), by omega⟩
  | _ => exact nomatch h
theorem bel_ok {n k : Nat} (h : k < n) : belB (nD k) (n : Nat) = true := by
  show (decide ((0 : Int) ≤ (k : Nat)) && decide (((k : Nat) : Int) < (n : Nat))) = true
  rw [decide_eq_true (by omega), decide_eq_true (by omega)]
  rfl
theorem all_bel {n : Nat} : ∀ {ds : List PyData}, (ds.all fun y => belB y (n : Nat)) = true → ∃ ks : List Nat, ds = ks.map nD ∧ ∀ k ∈ ks, k < n
  | [], _ => ⟨[], rfl, fun _ m => nomatch m⟩
  | d :: ds, h => by
    rw [List.all_cons, Bool.and_eq_true] at h
    obtain ⟨k, rfl, hk⟩ := bel_nat h.1
    obtain ⟨ks, rfl, hks⟩ := all_bel h.2
    exact ⟨k :: ks, rfl, fun j m => (List.mem_cons.mp m).elim (fun e => e ▸ hk) (hks j)⟩
theorem stk_inv {M : Ma} {V : PyData} (h : stkB M V = true) : ∃ st : List Nat, itD V = st.map nD ∧ StOk M st := by
  unfold stkB at h
  rw [Bool.and_eq_true] at h
  have h2 := h.2
  split at h2
  · cases h2
  · rename_i x xs e
    rw [Bool.and_eq_true] at h2
    obtain ⟨k, rfl, hk⟩ := bel_nat h2.1
    obtain ⟨ks, rfl, hks⟩ := all_bel h2.2
    exact ⟨k :: ks, e, fun t z => by cases z; exact hk, hks, fun z => nomatch z⟩
theorem stk_ok {M : Ma} {st : List Nat} (h : StOk M st) : stkB M (.tuple (st.map nD)) = true ∧ stkB M (.list (st.map nD)) = true := by
  have e : ∀ V, isSq V = true → itD V = st.map nD → stkB M V = true := fun V hs e => by
    unfold stkB
    rw [hs, e]
    cases st with
    | nil => exact absurd rfl h.ne
    | cons t r =>
      show (true && (belB (nD t) (M.tn : Nat) && (r.map nD).all fun y => belB y (M.im : Nat))) = true
      rw [bel_ok (h.hd t rfl), List.all_map]
      simp only [Bool.true_and]
      rw [List.all_eq_true]
      exact fun s m => bel_ok (h.tl s m)
  exact ⟨e _ rfl rfl, e _ rfl rfl⟩
abbrev T_stack_in (R : Addr) : TD := T2 fun D V Q er => ∃ M, D = maD M ∧ OkD V ∧ if stkB M V = true then Q (.tuple (itD V)) else er (R, V)
abbrev s_stack_in : Stmt := top 68
theorem sc_stack_in : FnScope ["machine", "value", "state"] ["machine", "value"] (defScope s_stack_in) := ⟨rfl, rfl, rfl, by decide +kernel, rfl, by decide +kernel, by decide +kernel⟩
local macro_rules | `(tactic| walk_at "d") => `(tactic| simp only [↓dSeq, ↓dFor, ↓reprD, ↓dCallK, ↓dIfS, ↓dAndV, ↓dOrV, ↓dUn, ↓dOp, ↓dC, ↓dVar, ↓derefW, ↓deref, ↓known, ↓noOb, ↓nbO, ↓start0, ↓endsOf, ↓outA, ↓toB, ↓dAnd, ↓dOr, ↓dNot, ↓ofB, ↓dIf, ↓dChain, ↓dgName, ↓dgSeq, ↓dgCons, ↓dgNil, ↓dLc, ↓popW, ↓atOl, ↓isOl, ↓ownS, ↓frzD, ↓dCall, argsOf, argLc, obSlots, upS, upO, ↓noObs, ↓wipeD, List.map_cons, List.map_nil, List.length_cons, List.length_nil, Nat.sub_self, Nat.zero_add, Nat.reduceAdd, Nat.reduceSub, List.replicate, List.append_nil, List.cons_append, List.nil_append, List.getElem?_cons_zero, List.getElem?_cons_succ, List.getElem?_nil, List.set, List.head?, List.tail, Option.getD_some, Option.getD_none, List.nodup_nil, List.nodup_cons, List.not_mem_nil, List.mem_cons, List.mem_singleton, or_false, Nat.reduceEqDiff, true_and, and_true, Bool.not_true, Bool.not_false, if_true, Bool.false_eq_true, if_false, ite_true, ite_false, not_false_eq_true, reduceCtorEq, eqD_int, eqD_str, eqD_bl, eqD_tuple, eqD_list, eqD_tupleR, eqD_listR, eqD_non, neD_int, neD_str, neD_bl, neD_tuple, neD_list, neD_tupleR, neD_listR, neD_non, ↓isD, ↓notD, ix_0, ix_1, ix_2, ix_3, ix_4, ix_L0, ix_L1, ix_L2, itemsD_L, itemsD_T, tupleD_L, tupleD_T, listD_L, listD_T, lenD_L, lenD_T, lenD_S, slD_L, slD_T, addD_I, addD_S, addD_T, addD_L, subD_I, mulD_I, ltD_I, ltD_S, leD_I, gtD_I, geD_I, modD_I, fdivD_I, powD_I, intD_I, intD_B, negD_I, isND_N, isND_I, isND_S, isND_B, isND_T, isND_L, sq_T, sq_L, sq_N, sq_I, sq_S, sq_B, at_0, at_1, at_2, at_3, at_4, ↓isiD, pick, List.filterMap_cons_some, List.filterMap_nil, List.filterMap_cons, ↓ownC, ↓T1, ↓T2, ↓T3, ↓T4, ↓dHeard, ↓capsD, ↓slotsD, ↓lamW, lamSto, cpLc, ↓dHeardS, ↓dAsks, ↓asksW, ↓heardT, ↓Tbox, ↓Ttake, ↓intW, ix_ma0, ix_ma1, ix_ma2, ix_ma3, ix_inn0, ix_inn1, ix_inn2, ix_inn3, ix_top0, ix_top1, ix_top2, ix_top3, ix_top4, ↓T_lead_on])
theorem ok_stack_in {f : Addr} {fd : FuncData} (F : Fun Z.K "stack_in" "stack_in" s_stack_in f fd) (T : Tz Z.K Z.mg) {C_Refused : Addr}
    {f_is_sequence : Addr} {fd_is_sequence : FuncData} (D_is_sequence : Df Z.K Z.mg "is_sequence" s_is_sequence ["value"] f_is_sequence fd_is_sequence) (G_is_sequence : FnD Z.Pg Z.w Z.K Z.mg Z.base CX0 2 f_is_sequence fd_is_sequence ["value"] (spT Z (T_is_sequence)))
    {f_is_number_below : Addr} {fd_is_number_below : FuncData} (D_is_number_below : Df Z.K Z.mg "is_number_below" s_is_number_below ["value", "bound"] f_is_number_below fd_is_number_below) (G_is_number_below : FnD Z.Pg Z.w Z.K Z.mg Z.base CX0 2 f_is_number_below fd_is_number_below ["value", "bound"] (spT Z (T_is_number_below)))
    (A_Refused : Z.T.an C_Refused = "at") {fI_Refused : Addr} {fdI_Refused : FuncData} (B_Refused : Er Z.K Z.mg "Refused" "Refused.__init__" "at" c_Refused C_Refused fI_Refused fdI_Refused) (I_Refused : FnOk Z.Pg Z.w Z.K Z.mg Z.base CX0 1 fI_Refused fdI_Refused ["self", "at"] (spIni C_Refused "at")) : FnD Z.Pg Z.w Z.K Z.mg Z.base (L2.CX Z.Pg Z.w) 3 f fd ["machine", "value"] (spT Z (T_stack_in C_Refused)) := by
  refine okDX F sc_stack_in (fun as Q er h => ?_) (fun cdv A outer s H E G0 er ca hE hr hgd hca => (dss_cons (ds_if (DW.dt (dw_or (dt_not (dt_val (de_call G_is_sequence hr hgd (by rfl) D_is_sequence.g D_is_sequence.F.kp D_is_sequence.b (drs_cons (dr_var 1) drs_nil)))) (dw_or (dt_cmp (op_eqA hr.units) od_eq (dr_of (de_callB call_lenA cd_len (by rfl) T.len (by decide +kernel) (dr_var 1))) (dr_of de_int) (nomark _)) (dw_or1 (dt_not (dt_val (de_call G_is_number_below hr hgd (by rfl) D_is_number_below.g D_is_number_below.F.kp D_is_number_below.b (drs_cons (dr_of (de_ix (dr_var 1) (dr_of de_int))) (drs_cons (dr_of (de_ix (dr_of (de_ix (dr_var 0) (dr_of de_int))) (dr_of de_int))) drs_nil)))))))))
        (dss_one (ds_raise A_Refused hE (ps_raise rfl (takes_of rfl rfl rfl rfl) (pmk_oex B_Refused.T B_Refused.ini B_Refused.ty I_Refused hr B_Refused.b .nil pass0 (by rfl) B_Refused.g (pa_cons (de_var 1) pa_nil)))))
        dss_nil)
      (dss_cons (ds_if (dt_not (dt_val (de_callB (cr_all rfl) cd_all (by rfl) T.all (by decide +kernel) (dr_of (de_of_df (df_lc (own := [("state", 2)]) rfl sc_stack_in.nd (di_seq (de_slice (dr_var 1) (do_some de_int) do_none)) (blkOk_by (own := [("state", 2)]) (N := ["machine", "value", "state"]) (sc := defScope s_stack_in) (by decide +kernel)) (fun _ _ _ _ _ => (dg_name (i := 2) sc_stack_in.nd rfl (Or.inl rfl))) (fun _ _ _ _ _ => dts_nil) (fun _ _ _ _ _ => (de_call G_is_number_below hr hgd (by rfl) D_is_number_below.g D_is_number_below.F.kp D_is_number_below.b (drs_cons (dr_var 2) (drs_cons (dr_of (de_ix (dr_of (de_ix (dr_var 0) (dr_of de_int))) (dr_of de_int))) drs_nil))))))))))
        (dss_one (ds_raise A_Refused hE (ps_raise rfl (takes_of rfl rfl rfl rfl) (pmk_oex B_Refused.T B_Refused.ini B_Refused.ty I_Refused hr B_Refused.b .nil pass0 (by rfl) B_Refused.g (pa_cons (de_var 1) pa_nil)))))
        dss_nil)
      (dss_one (ds_ret (de_callTy call_tupleF cd_tuple (by rfl) T.tuple (by decide +kernel) (dr_var 1))))))) (fun ca as Q er h => ?_)
  · obtain ⟨_, _, rfl, _⟩ := t2_inv h
    rfl
  · obtain ⟨a, b, rfl, q⟩ := t2_inv h
    obtain ⟨M, rfl, okV, q⟩ := q
    walk_at "d"
    cases hs : isSq b with
    | false =>
      rw [if_neg (by unfold stkB; rw [hs]; simp)] at q
      exact q
    | true =>
      rw [if_neg (by decide)]
      refine hnD hs ?_
      walk_at "d"
      cases hl : itD b with
      | nil =>
        rw [if_neg (by unfold stkB; rw [hs, hl]; simp)] at q
        exact q
      | cons x xs =>
        rw [if_neg (by simp; omega)]
        refine hxD (i := 0) hs (by rw [hl]; rfl) ?_
        simp only [nD]
        cases hx : belB x (M.tn : Nat) with
        | false =>
          rw [if_neg (by unfold stkB; rw [hs, hl]; simp [hx])] at q
          exact q
        | true =>
          rw [if_neg (by decide)]
          refine hsD hs fun E e1 e2 _ => hiD e1 ?_
          have len := okD_len okV
          have sl : (itD b).length < sizeLine := Nat.lt_of_le_of_lt len (by decide)
          rw [e2, hl, cut1, List.drop_one, List.tail_cons]
          rw [hl, List.length_cons] at len
          refine lcW_map (fun d => .bool (belB d (M.im : Nat))) (by omega) (fun d hd R hR => ?_) ?_
          · walk_at "d"
            exact hR
          · refine all_mapB ?_
            cases ha : xs.all fun y => belB y (M.im : Nat) with
            | false =>
              rw [if_neg (by unfold stkB; rw [hs, hl]; simp only; rw [ha]; simp)] at q
              exact q
            | true =>
              rw [if_pos (by unfold stkB; rw [hs, hl]; simp only; rw [hx, ha]; rfl)] at q
              dsimp only
              rw [if_neg (by decide)]
              exact htD hs q
abbrev T_led_by : TD := T3 fun D S X Q _ => ∃ M st x r, D = maD M ∧ MaOk M ∧ S = .tuple (st.map nD) ∧ StOk M st ∧ st.length ≤ 100000 ∧ X = pcD x ∧ PcOk M x ∧ x.cs.length ≤ 100000 ∧ x.os.length ≤ 100000 ∧ led M st x = some r ∧ Q (rowD r)
abbrev T_check_piece (B R : Addr) : TD := T2 fun D V Q er => MaIn B D (fun M => PieceIn M V (fun x => Q (pcD x)) (er (R, V))) er
abbrev T_sign_piece (B S : Addr) : TD := T2 fun D V Q er => OkD V ∧ MaIn B D (fun M => (fauD V = none → Q (pcD (ofSg M (sgOf V)))) ∧ ∀ i, fauD V = some i → er (S, .int i)) er
abbrev T_act (B R : Addr) : TD := T3 fun D V P Q er => OkD V ∧ MaIn B D (fun M => if stkB M V = true then PieceIn M P (fun x => ∀ st, itD V = st.map nD → StOk M st → (st.length < x.cs.length ∧ er (R, P)) ∨ (x.cs.length ≤ st.length ∧ ∃ r, led M st x = some r ∧ Q (rowD r))) (er (R, P)) else er (R, V)) er
end
end Lw
set_option Elab.async false
set_option linter.all false
set_option maxRecDepth 100000
set_option maxHeartbeats 1000000
set_option pp.deepTerms true
set_option pp.maxSteps 200000
namespace Lw
open PySem PySem.Spec PyProof PyProof.Rows L2 So Da Dl
local macro_rules | `(tactic| walk_at "z") => `(tactic| repeat (first | refine ⟨(by decide), ?_⟩ | refine ⟨(by omega), ?_⟩ | refine ⟨rfl, ?_⟩))
section
variable {Z : Zw}
def stpD (d : PyData) : Int := match sgOf d with
  | .op _ => 1
  | .cl => -1
  | .tx _ => 0
def lvl : List PyData → Nat → Int → Sum Nat Int
  | [], _, l => .inr l
  | d :: r, i, l => if sgnB d = false then .inl i else if l + stpD d < 0 then .inl i else lvl r (i + 1) (l + stpD d)
def LvIn (S : Addr) (V : PyData) (a : Int) (k : Int → Prop) (er : EK) : Prop := (isSq V = false ∧ er (S, .int (-1))) ∨ (isSq V = true ∧ ((∃ i : Nat, lvl (itD V) 0 a = .inl i ∧ er (S, .int (i : Nat))) ∨ ∃ l, lvl (itD V) 0 a = .inr l ∧ k l))
theorem stp_of {d : PyData} (h : sgnB d = true) : (isS ((itD d).getD 0 .none) "open" = true ∧ stpD d = 1) ∨ (isS ((itD d).getD 0 .none) "open" = false ∧ isS ((itD d).getD 0 .none) "close" = true ∧ stpD d = -1) ∨ (isS ((itD d).getD 0 .none) "open" = false ∧ isS ((itD d).getD 0 .none) "close" = false ∧ stpD d = 0) := by
  obtain ⟨_, e⟩ := sgn_inv h
  have e2 : itD d = itD (sgD (sgOf d)) := by rw [← e]; rfl
  rw [e2]
  unfold stpD
  generalize sgOf d = s
  cases s with
  | op l => exact .inl ⟨by show isS (.str "open") "open" = true; decide +kernel, rfl⟩
  | cl => exact .inr (.inl ⟨by show isS (.str "close") "open" = false; decide +kernel, by show isS (.str "close") "close" = true; decide +kernel, rfl⟩)
  | tx z => exact .inr (.inr ⟨by show isS (.str "text") "open" = false; decide +kernel, by show isS (.str "text") "close" = false; decide +kernel, rfl⟩)
theorem sgn_at0 {d : PyData} (h : sgnB d = true) : (itD d)[0]? = some ((itD d).getD 0 .none) := by
  obtain ⟨_, e⟩ := sgn_inv h
  have e2 : itD d = itD (sgD (sgOf d)) := by rw [← e]; rfl
  rw [e2]
  generalize sgOf d = s
  cases s <;> rfl
abbrev T_step_of : TD := T1 fun D Q _ => OkD D ∧ sgnB D = true ∧ Q (.int (stpD D))
abbrev s_step_of : Stmt := top 23
theorem sc_step_of : FnScope ["sign"] ["sign"] (defScope s_step_of) := ⟨rfl, rfl, rfl, by decide +kernel, rfl, by decide +kernel, by decide +kernel⟩
local macro_rules | `(tactic| walk_at "d") => `(tactic| simp only [↓dSeq, ↓dFor, ↓reprD, ↓dCallK, ↓dIfS, ↓dAndV, ↓dOrV, ↓dUn, ↓dOp, ↓dC, ↓dVar, ↓derefW, ↓deref, ↓known, ↓noOb, ↓nbO, ↓start0, ↓endsOf, ↓outA, ↓toB, ↓dAnd, ↓dOr, ↓dNot, ↓ofB, ↓dIf, ↓dChain, ↓dgName, ↓dgSeq, ↓dgCons, ↓dgNil, ↓dLc, ↓popW, ↓atOl, ↓isOl, ↓ownS, ↓frzD, ↓dCall, argsOf, argLc, obSlots, upS, upO, ↓noObs, ↓wipeD, List.map_cons, List.map_nil, List.length_cons, List.length_nil, Nat.sub_self, Nat.zero_add, Nat.reduceAdd, Nat.reduceSub, List.replicate, List.append_nil, List.cons_append, List.nil_append, List.getElem?_cons_zero, List.getElem?_cons_succ, List.getElem?_nil, List.set, List.head?, List.tail, Option.getD_some, Option.getD_none, List.nodup_nil, List.nodup_cons, List.not_mem_nil, List.mem_cons, List.mem_singleton, or_false, Nat.reduceEqDiff, true_and, and_true, Bool.not_true, Bool.not_false, if_true, Bool.false_eq_true, if_false, ite_true, ite_false, not_false_eq_true, reduceCtorEq, eqD_int, eqD_str, eqD_bl, eqD_tuple, eqD_list, eqD_tupleR, eqD_listR, eqD_non, neD_int, neD_str, neD_bl, neD_tuple, neD_list, neD_tupleR, neD_listR, neD_non, ↓isD, ↓notD, ix_0, ix_1, ix_2, ix_3, ix_4, ix_L0, ix_L1, ix_L2, itemsD_L, itemsD_T, tupleD_L, tupleD_T, listD_L, listD_T, lenD_L, lenD_T, lenD_S, slD_L, slD_T, addD_I, addD_S, addD_T, addD_L, subD_I, mulD_I, ltD_I, ltD_S, leD_I, gtD_I, geD_I, modD_I, fdivD_I, powD_I, intD_I, intD_B, negD_I, isND_N, isND_I, isND_S, isND_B, isND_T, isND_L, sq_T, sq_L, sq_N, sq_I, sq_S, sq_B, at_0, at_1, at_2, at_3, at_4, ↓isiD, pick, List.filterMap_cons_some, List.filterMap_nil, List.filterMap_cons, ↓ownC, ↓T1, ↓T2, ↓T3, ↓T4, ↓dHeard, ↓capsD, ↓slotsD, ↓lamW, lamSto, cpLc, ↓dHeardS, ↓dAsks, ↓asksW, ↓heardT, ↓Tbox, ↓Ttake, ↓intW, ix_ma0, ix_ma1, ix_ma2, ix_ma3, ix_inn0, ix_inn1, ix_inn2, ix_inn3, ix_top0, ix_top1, ix_top2, ix_top3, ix_top4, ↓T_lead_on])
theorem ok_step_of {f : Addr} {fd : FuncData} (F : Fun Z.K "_step_of" "_step_of" s_step_of f fd) (T : Tz Z.K Z.mg) : FnD Z.Pg Z.w Z.K Z.mg Z.base CX0 1 f fd ["sign"] (spT Z (T_step_of)) := by
  refine okD F sc_step_of (fun as Q er h => ?_) (fun cdv A outer s H E G0 ca hr hgd hca => (dss_cons (ds_if (dt_cmp (op_eqA hr.units) od_eq (dr_of (de_ix (dr_var 0) (dr_of de_int))) (dr_of de_str) (nomark _))
        (dss_one (ds_ret de_int))
        dss_nil)
      (dss_one (ds_ret (de_if (dt_cmp (op_eqA hr.units) od_eq (dr_of (de_ix (dr_var 0) (dr_of de_int))) (dr_of de_str) (nomark _)) (de_neg de_int) de_int))))) (fun ca as Q er h => ?_)
  · obtain ⟨_, rfl, _⟩ := t1_inv h
    rfl
  · obtain ⟨a, rfl, q⟩ := t1_inv h
    walk_at "d"
    obtain ⟨ok, hs, q⟩ := q
    have h0 := sgn_at0 hs
    have o0 := okD_it ok _ (List.mem_of_getElem? h0)
    have so1 : PyData.strOk "open" = true := by decide +kernel
    have so2 : PyData.strOk "close" = true := by decide +kernel
    refine hxD (i := 0) (sgn_sq hs) h0 (eqD_S o0.sh so1 ?_)
    rcases stp_of hs with ⟨a, b⟩ | ⟨a, b, c⟩ | ⟨a, b, c⟩
    · rw [b] at q
      rw [a]
      exact q
    · rw [c] at q
      rw [a]
      dsimp only
      rw [if_neg (by decide)]
      refine hxD (i := 0) (sgn_sq hs) h0 (eqD_S o0.sh so2 ?_)
      rw [b]
      exact q
    · rw [c] at q
      rw [a]
      dsimp only
      rw [if_neg (by decide)]
      refine hxD (i := 0) (sgn_sq hs) h0 (eqD_S o0.sh so2 ?_)
      rw [b]
      exact q
abbrev T_read_levels (S : Addr) : TD := T2 fun V n Q er => OkD V ∧ ∃ a : Int, n = .int a ∧ LvIn S V a (fun l => Q (.tuple [.tuple ((sgsOf V).map sgD), .int l])) er
abbrev s_read_levels : Stmt := top 22
theorem sc_read_levels : FnScope ["value", "ahead", "signs", "level", "at", "sign"] ["value", "ahead"] (defScope s_read_levels) := ⟨rfl, rfl, rfl, by decide +kernel, rfl, by decide +kernel, by decide +kernel⟩
theorem ok_read_levels {f : Addr} {fd : FuncData} (F : Fun Z.K "read_levels" "read_levels" s_read_levels f fd) (T : Tz Z.K Z.mg) {C_BadStream : Addr}
    {f_is_sequence : Addr} {fd_is_sequence : FuncData} (D_is_sequence : Df Z.K Z.mg "is_sequence" s_is_sequence ["value"] f_is_sequence fd_is_sequence) (G_is_sequence : FnD Z.Pg Z.w Z.K Z.mg Z.base CX0 3 f_is_sequence fd_is_sequence ["value"] (spT Z (T_is_sequence)))
    {f_is_sign : Addr} {fd_is_sign : FuncData} (D_is_sign : Df Z.K Z.mg "is_sign" s_is_sign ["value"] f_is_sign fd_is_sign) (G_is_sign : FnD Z.Pg Z.w Z.K Z.mg Z.base CX0 3 f_is_sign fd_is_sign ["value"] (spT Z (T_is_sign)))
    {f_step_of : Addr} {fd_step_of : FuncData} (D_step_of : Df Z.K Z.mg "_step_of" s_step_of ["sign"] f_step_of fd_step_of) (G_step_of : FnD Z.Pg Z.w Z.K Z.mg Z.base CX0 3 f_step_of fd_step_of ["sign"] (spT Z (T_step_of)))
    (A_BadStream : Z.T.an C_BadStream = "at") {fI_BadStream : Addr} {fdI_BadStream : FuncData} (B_BadStream : Er Z.K Z.mg "BadStream" "BadStream.__init__" "at" c_BadStream C_BadStream fI_BadStream fdI_BadStream) (I_BadStream : FnOk Z.Pg Z.w Z.K Z.mg Z.base CX0 2 fI_BadStream fdI_BadStream ["self", "at"] (spIni C_BadStream "at")) : FnD Z.Pg Z.w Z.K Z.mg Z.base (L2.CX Z.Pg Z.w) 4 f fd ["value", "ahead"] (spT Z (T_read_levels C_BadStream)) := by
  refine okDX F sc_read_levels (fun as Q er h => ?_) (fun cdv A outer s H E G0 er ca hE hr hgd hca => (dss_cons (ds_if (dt_not (dt_val (de_call G_is_sequence hr hgd (by rfl) D_is_sequence.g D_is_sequence.F.kp D_is_sequence.b (drs_cons (dr_var 0) drs_nil))))
        (dss_one (ds_raise A_BadStream hE (ps_raise rfl (takes_of rfl rfl rfl rfl) (pmk_oex B_BadStream.T B_BadStream.ini B_BadStream.ty I_BadStream hr B_BadStream.b .nil pass0 (by rfl) B_BadStream.g (pa_cons (de_neg de_int) pa_nil)))))
        dss_nil)
      (dss_cons (ds_own (i := 2) sc_read_levels.nd rfl (Or.inl rfl) (df_lst da_nil))
      (dss_cons (ds_set (i := 3) sc_read_levels.nd rfl (Or.inl rfl) (de_var 1))
      (dss_cons (ds_for (passes_of rfl) rfl (di_enum (by rfl) T.enumerate (de_var 0)) (dg_seq (m := 2) rfl (dgs_cons (dg_name (i := 4) sc_read_levels.nd rfl (Or.inl rfl)) (dgs_cons (dg_name (i := 5) sc_read_levels.nd rfl (Or.inl rfl)) dgs_nil)))
        (dss_cons (ds_if (dt_not (dt_val (de_call G_is_sign hr hgd (by rfl) D_is_sign.g D_is_sign.F.kp D_is_sign.b (drs_cons (dr_var 5) drs_nil))))
          (dss_one (ds_raise A_BadStream hE (ps_raise rfl (takes_of rfl rfl rfl rfl) (pmk_oex B_BadStream.T B_BadStream.ini B_BadStream.ty I_BadStream hr B_BadStream.b .nil pass0 (by rfl) B_BadStream.g (pa_cons (de_var 4) pa_nil)))))
          dss_nil)
        (dss_cons (ds_aug (ps_aug (i := 3) sc_read_levels.nd rfl (Or.inl rfl) (de_call G_step_of hr hgd (by rfl) D_step_of.g D_step_of.F.kp D_step_of.b (drs_cons (dr_var 5) drs_nil)) ip_add))
        (dss_cons (ds_if (dt_cmp op_ltA od_lt (dr_var 3) (dr_of de_int) (nomark _))
          (dss_one (ds_raise A_BadStream hE (ps_raise rfl (takes_of rfl rfl rfl rfl) (pmk_oex B_BadStream.T B_BadStream.ini B_BadStream.ty I_BadStream hr B_BadStream.b .nil pass0 (by rfl) B_BadStream.g (pa_cons (de_var 4) pa_nil)))))
          dss_nil)
        (dss_one (ds_app (ps_expr (pe_bm PySem.F.plainAttrs_list PySem.F.slot_list_append PySem.F.type_list_append mt_append (pv 2) (pa_cons (de_callTy call_tupleF cd_tuple (by rfl) T.tuple (by decide +kernel) (dr_var 5)) pa_nil)))))))))
      (dss_one (ds_ret (de_tup (da_cons (de_callTy call_tupleF cd_tuple (by rfl) T.tuple (by decide +kernel) (dr_var 2)) (da_cons (de_var 3) da_nil)))))))))) (fun ca as Q er h => ?_)
  · obtain ⟨_, _, rfl, _⟩ := t2_inv h
    rfl
  · obtain ⟨a, b, rfl, q⟩ := t2_inv h
    walk_at "d"
    obtain ⟨ok, l0, rfl, ⟨hs, q⟩ | ⟨hs, q⟩⟩ := q
    · rw [hs, if_pos (by decide)]
      exact q
    · rw [hs, if_neg (by decide)]
      have len := okD_len ok
      refine ⟨by decide, by decide, fun p => hiD hs ?_⟩
      obtain ⟨xs, ex⟩ : ∃ xs, xs = itD a := ⟨_, rfl⟩
      rw [← ex] at q len ⊢
      obtain ⟨LV, eLV⟩ : ∃ LV, lvl xs 0 l0 = LV := ⟨_, rfl⟩
      rw [eLV] at q
      have oks : ∀ d ∈ xs, OkD d := fun d m => okD_it ok d (ex ▸ m)
      refine forW_go (fun ds ρ => ∃ (i : Nat) (l : Int) (s4 s5 : Lc), ds = (enumD xs).drop i ∧ i ≤ xs.length ∧ lvl (xs.drop i) i l = LV ∧ (xs.take i).all sgnB = true ∧ nbO (some s4) ∧ nbO (some s5) ∧ ρ = [.sh a, .sh (.int l0), .ob p (.lst ((xs.take i).map fun d => .tuple (itD d))), .sh (.int l), s4, s5]) ?_ ?_ _ _ ⟨0, l0, .un, .un, rfl, Nat.zero_le _, eLV, rfl, trivial, trivial, rfl⟩
      · rintro ρ ⟨i, l, s4, s5, e1, li, e2, e3, h4, h5, rfl⟩
        have hi := enum_end e1
        rw [List.drop_of_length_le hi] at e2
        rw [List.take_of_length_le hi] at e3 ⊢
        rcases q with ⟨j, e, _⟩ | ⟨l', e, q⟩
        · rw [e] at e2
          cases e2
        · rw [e] at e2
          cases e2
          walk_at "d"
          have := (sgs_inv (V := a) (by unfold sgsB; rw [hs, ← ex, e3]; rfl)).2.1
          rw [← ex] at this
          rw [this]
          exact ⟨by decide, q⟩
      · rintro K d ds ρ ⟨i, l, s4, s5, e1, li, e2, e3, h4, h5, rfl⟩ ih
        obtain ⟨hi, rfl, rfl⟩ := enum_next e1
        have od := oks _ (List.getElem_mem hi)
        rw [List.drop_eq_getElem_cons hi] at e2
        unfold lvl at e2
        have et : xs.take (i + 1) = xs.take i ++ [xs[i]] := by rw [List.take_add_one, List.getElem?_eq_getElem hi]; rfl
        walk_at "d"
        refine ⟨h4, h5, od, ?_⟩
        cases hb : sgnB xs[i] with
        | false =>
          rw [if_pos hb] at e2
          rw [if_pos (by decide)]
          rcases q with ⟨j, e, q⟩ | ⟨l', e, q⟩
          · rw [e] at e2
            cases e2
            exact q
          · rw [e] at e2
            cases e2
        | true =>
          rw [if_neg (by rw [hb]; decide)] at e2
          rw [if_neg (by decide)]
          refine ⟨od, rfl, ?_⟩
          by_cases hl : l + stpD xs[i] < 0
          · rw [if_pos hl] at e2
            rw [if_pos (decide_eq_true hl)]
            rcases q with ⟨j, e, q⟩ | ⟨l', e, q⟩
            · rw [e] at e2
              cases e2
              exact q
            · rw [e] at e2
              cases e2
          · rw [if_neg hl] at e2
            rw [if_neg (by simpa using hl)]
            have sz : xs.length < sizeLine := Nat.lt_of_le_of_lt len (by decide)
            refine htD (sgn_sq hb) ⟨by rw [List.length_map, List.length_take]; omega, ?_⟩
            have := ih _ ⟨i + 1, l + stpD xs[i], .sh (.int (i : Nat)), .sh xs[i], rfl, hi, e2, by rw [et, List.all_append, e3]; simp [hb], trivial, trivial, rfl⟩
            rw [et, List.map_append] at this
            exact this
end
end Lw
set_option Elab.async false
set_option linter.all false
set_option maxRecDepth 100000
set_option maxHeartbeats 1000000
set_option pp.deepTerms true
set_option pp.maxSteps 200000
namespace Lw
open PySem PySem.Spec PyProof PyProof.Rows L2 So Da Dl
local macro_rules | `(tactic| walk_at "z") => `(tactic| repeat (first | refine ⟨(by decide), ?_⟩ | refine ⟨(by omega), ?_⟩ | refine ⟨rfl, ?_⟩))
section
variable {Z : Zw}
def SgT (V : PyData) : PyData := .tuple ((sgsOf V).map sgD)
abbrev T_read_whole (S : Addr) : TD := T2 fun V n Q er => OkD V ∧ ∃ a : Int, n = .int a ∧ LvIn S V a (fun l => (0 < l ∧ er (S, .int ((itD V).length : Nat))) ∨ (l ≤ 0 ∧ Q (SgT V))) er
theorem lv_imp {S : Addr} {V : PyData} {a : Int} {k k' : Int → Prop} {er : EK} (h : LvIn S V a k er) (i : isSq V = true → ∀ l, lvl (itD V) 0 a = .inr l → k l → k' l) : LvIn S V a k' er := by
  rcases h with h | ⟨hs, h | ⟨l, e, h⟩⟩
  · exact .inl h
  · exact .inr ⟨hs, .inl h⟩
  · exact .inr ⟨hs, .inr ⟨l, e, i hs l e h⟩⟩
theorem sgsOf_len (V : PyData) : (sgsOf V).length = (itD V).length := List.length_map ..
abbrev s_read_whole : Stmt := top 24
theorem sc_read_whole : FnScope ["value", "ahead", "signs", "level"] ["value", "ahead"] (defScope s_read_whole) := ⟨rfl, rfl, rfl, by decide +kernel, rfl, by decide +kernel, by decide +kernel⟩
local macro_rules | `(tactic| walk_at "d") => `(tactic| simp only [↓dSeq, ↓dFor, ↓reprD, ↓dCallK, ↓dIfS, ↓dAndV, ↓dOrV, ↓dUn, ↓dOp, ↓dC, ↓dVar, ↓derefW, ↓deref, ↓known, ↓noOb, ↓nbO, ↓start0, ↓endsOf, ↓outA, ↓toB, ↓dAnd, ↓dOr, ↓dNot, ↓ofB, ↓dIf, ↓dChain, ↓dgName, ↓dgSeq, ↓dgCons, ↓dgNil, ↓dLc, ↓popW, ↓atOl, ↓isOl, ↓ownS, ↓frzD, ↓dCall, argsOf, argLc, obSlots, upS, upO, ↓noObs, ↓wipeD, List.map_cons, List.map_nil, List.length_cons, List.length_nil, Nat.sub_self, Nat.zero_add, Nat.reduceAdd, Nat.reduceSub, List.replicate, List.append_nil, List.cons_append, List.nil_append, List.getElem?_cons_zero, List.getElem?_cons_succ, List.getElem?_nil, List.set, List.head?, List.tail, Option.getD_some, Option.getD_none, List.nodup_nil, List.nodup_cons, List.not_mem_nil, List.mem_cons, List.mem_singleton, or_false, Nat.reduceEqDiff, true_and, and_true, Bool.not_true, Bool.not_false, if_true, Bool.false_eq_true, if_false, ite_true, ite_false, not_false_eq_true, reduceCtorEq, eqD_int, eqD_str, eqD_bl, eqD_tuple, eqD_list, eqD_tupleR, eqD_listR, eqD_non, neD_int, neD_str, neD_bl, neD_tuple, neD_list, neD_tupleR, neD_listR, neD_non, ↓isD, ↓notD, ix_0, ix_1, ix_2, ix_3, ix_4, ix_L0, ix_L1, ix_L2, itemsD_L, itemsD_T, tupleD_L, tupleD_T, listD_L, listD_T, lenD_L, lenD_T, lenD_S, slD_L, slD_T, addD_I, addD_S, addD_T, addD_L, subD_I, mulD_I, ltD_I, ltD_S, leD_I, gtD_I, geD_I, modD_I, fdivD_I, powD_I, intD_I, intD_B, negD_I, isND_N, isND_I, isND_S, isND_B, isND_T, isND_L, sq_T, sq_L, sq_N, sq_I, sq_S, sq_B, at_0, at_1, at_2, at_3, at_4, ↓isiD, pick, List.filterMap_cons_some, List.filterMap_nil, List.filterMap_cons, ↓ownC, ↓T1, ↓T2, ↓T3, ↓T4, ↓dHeard, ↓capsD, ↓slotsD, ↓lamW, lamSto, cpLc, ↓dHeardS, ↓dAsks, ↓asksW, ↓heardT, ↓Tbox, ↓Ttake, ↓intW, ix_ma0, ix_ma1, ix_ma2, ix_ma3, ix_inn0, ix_inn1, ix_inn2, ix_inn3, ix_top0, ix_top1, ix_top2, ix_top3, ix_top4, ↓T_lead_on])
theorem ok_read_whole {f : Addr} {fd : FuncData} (F : Fun Z.K "_read_whole" "_read_whole" s_read_whole f fd) (T : Tz Z.K Z.mg) {C_BadStream : Addr}
    {f_read_levels : Addr} {fd_read_levels : FuncData} (D_read_levels : Df Z.K Z.mg "read_levels" s_read_levels ["value", "ahead"] f_read_levels fd_read_levels) (G_read_levels : FnD Z.Pg Z.w Z.K Z.mg Z.base (L2.CX Z.Pg Z.w) 4 f_read_levels fd_read_levels ["value", "ahead"] (spT Z (T_read_levels C_BadStream)))
    (A_BadStream : Z.T.an C_BadStream = "at") {fI_BadStream : Addr} {fdI_BadStream : FuncData} (B_BadStream : Er Z.K Z.mg "BadStream" "BadStream.__init__" "at" c_BadStream C_BadStream fI_BadStream fdI_BadStream) (I_BadStream : FnOk Z.Pg Z.w Z.K Z.mg Z.base CX0 3 fI_BadStream fdI_BadStream ["self", "at"] (spIni C_BadStream "at")) : FnD Z.Pg Z.w Z.K Z.mg Z.base (L2.CX Z.Pg Z.w) 5 f fd ["value", "ahead"] (spT Z (T_read_whole C_BadStream)) := by
  refine okDX F sc_read_whole (fun as Q er h => ?_) (fun cdv A outer s H E G0 er ca hE hr hgd hca => (dss_cons (ds_asg (de_callX hE (passes_call (takes_of rfl rfl rfl rfl) fun _ _ _ _ h => h) G_read_levels hr hgd (by rfl) D_read_levels.g D_read_levels.F.kp D_read_levels.b (drs_cons (dr_var 0) (drs_cons (dr_var 1) drs_nil))) (dg_seq (m := 2) rfl (dgs_cons (dg_name (i := 2) sc_read_whole.nd rfl (Or.inl rfl)) (dgs_cons (dg_name (i := 3) sc_read_whole.nd rfl (Or.inl rfl)) dgs_nil))))
      (dss_cons (ds_if (dt_cmp op_gt od_gt (dr_var 3) (dr_of de_int) (nomark _))
        (dss_one (ds_raise A_BadStream hE (ps_raise rfl (takes_of rfl rfl rfl rfl) (pmk_oex B_BadStream.T B_BadStream.ini B_BadStream.ty I_BadStream hr B_BadStream.b .nil pass0 (by rfl) B_BadStream.g (pa_cons (de_callB call_lenA cd_len (by rfl) T.len (by decide +kernel) (dr_var 2)) pa_nil)))))
        dss_nil)
      (dss_one (ds_ret (de_var 2)))))) (fun ca as Q er h => ?_)
  · obtain ⟨_, _, rfl, _⟩ := t2_inv h
    rfl
  · obtain ⟨a, b, rfl, q⟩ := t2_inv h
    walk_at "d"
    obtain ⟨ok, l0, rfl, q⟩ := q
    refine ⟨ok, l0, rfl, lv_imp q fun hs l e h => ?_⟩
    rcases h with ⟨h, q⟩ | ⟨h, q⟩
    · rw [if_pos (decide_eq_true h), List.length_map, sgsOf_len]
      exact q
    · rw [if_neg (by simpa using h)]
      exact q
abbrev T_check_prefix (S : Addr) : TD := T1 fun V Q er => OkD V ∧ LvIn S V 0 (fun _ => Q (SgT V)) er
abbrev T_check_stream (S : Addr) : TD := T1 fun V Q er => OkD V ∧ LvIn S V 0 (fun l => (0 < l ∧ er (S, .int ((itD V).length : Nat))) ∨ (l ≤ 0 ∧ Q (SgT V))) er
end
end Lw
set_option Elab.async false
set_option linter.all false
set_option maxRecDepth 100000
set_option maxHeartbeats 1000000
set_option pp.deepTerms true
set_option pp.maxSteps 200000
namespace Lw
open PySem PySem.Spec PyProof PyProof.Rows L2 So Da Dl
local macro_rules | `(tactic| walk_at "z") => `(tactic| repeat (first | refine ⟨(by decide), ?_⟩ | refine ⟨(by omega), ?_⟩ | refine ⟨rfl, ?_⟩))
section
variable {Z : Zw}
abbrev T_check_ending (S R : Addr) : TD := T2 fun n V Q er => OkD V ∧ ∃ a : Nat, n = nD a ∧ LvIn S V (a : Nat) (fun l => (0 < l ∧ er (S, .int ((itD V).length : Nat))) ∨ (l ≤ 0 ∧ Q (SgT V))) er
abbrev s_check_ending : Stmt := top 25
theorem sc_check_ending : FnScope ["depth", "value"] ["depth", "value"] (defScope s_check_ending) := ⟨rfl, rfl, rfl, by decide +kernel, rfl, by decide +kernel, by decide +kernel⟩
local macro_rules | `(tactic| walk_at "d") => `(tactic| simp only [↓dSeq, ↓dFor, ↓reprD, ↓dCallK, ↓dIfS, ↓dAndV, ↓dOrV, ↓dUn, ↓dOp, ↓dC, ↓dVar, ↓derefW, ↓deref, ↓known, ↓noOb, ↓nbO, ↓start0, ↓endsOf, ↓outA, ↓toB, ↓dAnd, ↓dOr, ↓dNot, ↓ofB, ↓dIf, ↓dChain, ↓dgName, ↓dgSeq, ↓dgCons, ↓dgNil, ↓dLc, ↓popW, ↓atOl, ↓isOl, ↓ownS, ↓frzD, ↓dCall, argsOf, argLc, obSlots, upS, upO, ↓noObs, ↓wipeD, List.map_cons, List.map_nil, List.length_cons, List.length_nil, Nat.sub_self, Nat.zero_add, Nat.reduceAdd, Nat.reduceSub, List.replicate, List.append_nil, List.cons_append, List.nil_append, List.getElem?_cons_zero, List.getElem?_cons_succ, List.getElem?_nil, List.set, List.head?, List.tail, Option.getD_some, Option.getD_none, List.nodup_nil, List.nodup_cons, List.not_mem_nil, List.mem_cons, List.mem_singleton, or_false, Nat.reduceEqDiff, true_and, and_true, Bool.not_true, Bool.not_false, if_true, Bool.false_eq_true, if_false, ite_true, ite_false, not_false_eq_true, reduceCtorEq, eqD_int, eqD_str, eqD_bl, eqD_tuple, eqD_list, eqD_tupleR, eqD_listR, eqD_non, neD_int, neD_str, neD_bl, neD_tuple, neD_list, neD_tupleR, neD_listR, neD_non, ↓isD, ↓notD, ix_0, ix_1, ix_2, ix_3, ix_4, ix_L0, ix_L1, ix_L2, itemsD_L, itemsD_T, tupleD_L, tupleD_T, listD_L, listD_T, lenD_L, lenD_T, lenD_S, slD_L, slD_T, addD_I, addD_S, addD_T, addD_L, subD_I, mulD_I, ltD_I, ltD_S, leD_I, gtD_I, geD_I, modD_I, fdivD_I, powD_I, intD_I, intD_B, negD_I, isND_N, isND_I, isND_S, isND_B, isND_T, isND_L, sq_T, sq_L, sq_N, sq_I, sq_S, sq_B, at_0, at_1, at_2, at_3, at_4, ↓isiD, pick, List.filterMap_cons_some, List.filterMap_nil, List.filterMap_cons, ↓ownC, ↓T1, ↓T2, ↓T3, ↓T4, ↓dHeard, ↓capsD, ↓slotsD, ↓lamW, lamSto, cpLc, ↓dHeardS, ↓dAsks, ↓asksW, ↓heardT, ↓Tbox, ↓Ttake, ↓intW, ix_ma0, ix_ma1, ix_ma2, ix_ma3, ix_inn0, ix_inn1, ix_inn2, ix_inn3, ix_top0, ix_top1, ix_top2, ix_top3, ix_top4, ↓T_lead_on])
theorem ok_check_ending {f : Addr} {fd : FuncData} (F : Fun Z.K "check_ending" "check_ending" s_check_ending f fd) (T : Tz Z.K Z.mg) {C_BadStream : Addr} {C_Refused : Addr}
    {f_is_number : Addr} {fd_is_number : FuncData} (D_is_number : Df Z.K Z.mg "is_number" s_is_number ["value"] f_is_number fd_is_number) (G_is_number : FnD Z.Pg Z.w Z.K Z.mg Z.base CX0 5 f_is_number fd_is_number ["value"] (spT Z (T_is_number)))
    {f_read_whole : Addr} {fd_read_whole : FuncData} (D_read_whole : Df Z.K Z.mg "_read_whole" s_read_whole ["value", "ahead"] f_read_whole fd_read_whole) (G_read_whole : FnD Z.Pg Z.w Z.K Z.mg Z.base (L2.CX Z.Pg Z.w) 5 f_read_whole fd_read_whole ["value", "ahead"] (spT Z (T_read_whole C_BadStream)))
    (A_Refused : Z.T.an C_Refused = "at") {fI_Refused : Addr} {fdI_Refused : FuncData} (B_Refused : Er Z.K Z.mg "Refused" "Refused.__init__" "at" c_Refused C_Refused fI_Refused fdI_Refused) (I_Refused : FnOk Z.Pg Z.w Z.K Z.mg Z.base CX0 4 fI_Refused fdI_Refused ["self", "at"] (spIni C_Refused "at")) : FnD Z.Pg Z.w Z.K Z.mg Z.base (L2.CX Z.Pg Z.w) 6 f fd ["depth", "value"] (spT Z (T_check_ending C_BadStream C_Refused)) := by
  refine okDX F sc_check_ending (fun as Q er h => ?_) (fun cdv A outer s H E G0 er ca hE hr hgd hca => (dss_cons (ds_if (dt_not (dt_val (de_call G_is_number hr hgd (by rfl) D_is_number.g D_is_number.F.kp D_is_number.b (drs_cons (dr_var 0) drs_nil))))
        (dss_one (ds_raise A_Refused hE (ps_raise rfl (takes_of rfl rfl rfl rfl) (pmk_oex B_Refused.T B_Refused.ini B_Refused.ty I_Refused hr B_Refused.b .nil pass0 (by rfl) B_Refused.g (pa_cons (de_var 0) pa_nil)))))
        dss_nil)
      (dss_one (ds_ret (de_callX hE (passes_call (takes_of rfl rfl rfl rfl) fun _ _ _ _ h => h) G_read_whole hr hgd (by rfl) D_read_whole.g D_read_whole.F.kp D_read_whole.b (drs_cons (dr_var 1) (drs_cons (dr_var 0) drs_nil))))))) (fun ca as Q er h => ?_)
  · obtain ⟨_, _, rfl, _⟩ := t2_inv h
    rfl
  · obtain ⟨a, b, rfl, q⟩ := t2_inv h
    obtain ⟨ok, l0, rfl, q⟩ := q
    simp only [nD]
    walk_at "d"
    rw [if_neg (by show ¬ (!decide ((0 : Int) ≤ (l0 : Nat))) = true; rw [decide_eq_true (by omega)]; decide)]
    exact ⟨ok, _, rfl, q⟩
def isCl : Sg → Bool
  | .cl => true
  | _ => false
abbrev T_can_read : TD := T2 fun X G Q _ => ∃ (st : List Nat) (s : Sg), X = .tuple (st.map nD) ∧ G = sgD s ∧ Q (.bool (!isCl s || decide (1 < st.length)))
theorem cut_m1 {l : List PyData} {a : PyData} : Dl.cutD (l ++ [a]) none (some (-1)) = l := by
  unfold Dl.cutD
  have e : HT.sIx (l ++ [a]).length (l ++ [a]).length (some (-1)) = l.length := by
    show (if (-1 : Int) < 0 then ((-1 : Int) + ((l ++ [a]).length : Int)).toNat else min (-1 : Int).toNat (l ++ [a]).length) = l.length
    rw [if_pos (by decide), List.length_append, List.length_singleton]
    omega
  rw [e]
  show (List.drop 0 (l ++ [a])).take (l.length - 0) = l
  rw [List.drop_zero, Nat.sub_zero, List.take_left]
theorem cut_m2 {l : List PyData} {a b : PyData} : Dl.cutD (l ++ [a] ++ [b]) none (some (-2)) = l := by
  unfold Dl.cutD
  have e : HT.sIx (l ++ [a] ++ [b]).length (l ++ [a] ++ [b]).length (some (-2)) = l.length := by
    show (if (-2 : Int) < 0 then ((-2 : Int) + ((l ++ [a] ++ [b]).length : Int)).toNat else min (-2 : Int).toNat (l ++ [a] ++ [b]).length) = l.length
    rw [if_pos (by decide)]
    simp only [List.length_append, List.length_singleton]
    omega
  rw [e]
  show (List.drop 0 (l ++ [a] ++ [b])).take (l.length - 0) = l
  rw [List.drop_zero, Nat.sub_zero, List.append_assoc, List.take_left]
theorem ix_lastT {l : List PyData} {a : PyData} {Q : PyData → Prop} : ixD (.tuple (l ++ [a])) (.int (-1)) Q = Q a := by
  unfold ixD
  simp only [atI_last]
theorem atI_m2 {l : List PyData} {a b : PyData} : atI (l ++ [a] ++ [b]) (-2) = some a := by
  unfold atI ixN
  simp only [List.length_append, List.length_singleton]
  rw [if_neg (by decide), if_pos (by omega)]
  show (l ++ [a] ++ [b])[_]? = _
  rw [show ((-2 : Int) + ((l.length + 1 + 1 : Nat) : Int)).toNat = l.length by omega]
  simp
theorem ix_lastT2 {l : List PyData} {a b : PyData} {Q : PyData → Prop} : ixD (.tuple (l ++ [a] ++ [b])) (.int (-2)) Q = Q a := by
  unfold ixD
  simp only [atI_m2]
abbrev T_behind_sign : TD := T3 fun D X G Q _ => ∃ M st s r, D = maD M ∧ MaOk M ∧ X = .tuple (st.map nD) ∧ StOk M st ∧ st.length ≤ 250000 ∧ G = sgD s ∧ stepped M st s = some r ∧ Q (rowD r)
abbrev s_behind_sign : Stmt := top 69
theorem sc_behind_sign : FnScope ["machine", "stack", "sign", "labels", "texts", "tops", "inners", "part"] ["machine", "stack", "sign"] (defScope s_behind_sign) := ⟨rfl, rfl, rfl, by decide +kernel, rfl, by decide +kernel, by decide +kernel⟩
theorem ok_behind_sign {f : Addr} {fd : FuncData} (F : Fun Z.K "behind_sign" "behind_sign" s_behind_sign f fd) (T : Tz Z.K Z.mg)
    {f_kind_of : Addr} {fd_kind_of : FuncData} (D_kind_of : Df Z.K Z.mg "kind_of" s_kind_of ["names", "value"] f_kind_of fd_kind_of) (G_kind_of : FnD Z.Pg Z.w Z.K Z.mg Z.base CX0 1 f_kind_of fd_kind_of ["names", "value"] (spT Z (T_kind_of))) : FnD Z.Pg Z.w Z.K Z.mg Z.base CX0 2 f fd ["machine", "stack", "sign"] (spT Z (T_behind_sign)) := by
  refine okD F sc_behind_sign (fun as Q er h => ?_) (fun cdv A outer s H E G0 ca hr hgd hca => (dss_cons (ds_asg (de_var 0) (dg_seq (m := 4) rfl (dgs_cons (dg_name (i := 3) sc_behind_sign.nd rfl (Or.inl rfl)) (dgs_cons (dg_name (i := 4) sc_behind_sign.nd rfl (Or.inl rfl)) (dgs_cons (dg_name (i := 5) sc_behind_sign.nd rfl (Or.inl rfl)) (dgs_cons (dg_name (i := 6) sc_behind_sign.nd rfl (Or.inl rfl)) dgs_nil))))))
      (dss_cons (ds_if (dt_cmp (op_eqA hr.units) od_eq (dr_of (de_ix (dr_var 2) (dr_of de_int))) (dr_of de_str) (nomark _))
        (dss_one (ds_ret (de_op op_addA od_add (dr_var 1) (dr_of (de_tup (da_cons (de_ix (dr_of (de_ix (dr_var 6) (dr_of de_int))) (dr_of (de_call G_kind_of hr hgd (by rfl) D_kind_of.g D_kind_of.F.kp D_kind_of.b (drs_cons (dr_var 3) (drs_cons (dr_of (de_ix (dr_var 2) (dr_of de_int))) drs_nil))))) da_nil))))))
        dss_nil)
      (dss_cons (ds_if (dt_cmp (op_eqA hr.units) od_eq (dr_of (de_ix (dr_var 2) (dr_of de_int))) (dr_of de_str) (nomark _))
        (dss_cons (ds_set (i := 7) sc_behind_sign.nd rfl (Or.inl rfl) (de_if (dt_cmp (op_eqA hr.units) od_eq (dr_of (de_callB call_lenA cd_len (by rfl) T.len (by decide +kernel) (dr_var 1))) (dr_of de_int) (nomark _)) (de_var 5) (de_var 6)))
        (dss_one (ds_ret (de_op op_addA od_add (dr_of (de_slice (dr_var 1) do_none (do_some (de_neg de_int)))) (dr_of (de_tup (da_cons (de_ix (dr_of (de_ix (dr_of (de_ix (dr_var 7) (dr_of de_int))) (dr_of (de_call G_kind_of hr hgd (by rfl) D_kind_of.g D_kind_of.F.kp D_kind_of.b (drs_cons (dr_var 4) (drs_cons (dr_of (de_ix (dr_var 2) (dr_of de_int))) drs_nil)))))) (dr_of (de_ix (dr_var 1) (dr_of (de_neg de_int))))) da_nil)))))))
        dss_nil)
      (dss_cons (ds_set (i := 7) sc_behind_sign.nd rfl (Or.inl rfl) (de_if (dt_cmp (op_eqA hr.units) od_eq (dr_of (de_callB call_lenA cd_len (by rfl) T.len (by decide +kernel) (dr_var 1))) (dr_of de_int) (nomark _)) (de_var 5) (de_var 6)))
      (dss_one (ds_ret (de_op op_addA od_add (dr_of (de_slice (dr_var 1) do_none (do_some (de_neg de_int)))) (dr_of (de_tup (da_cons (de_ix (dr_of (de_ix (dr_of (de_ix (dr_var 7) (dr_of de_int))) (dr_of (de_ix (dr_var 1) (dr_of (de_neg de_int)))))) (dr_of (de_ix (dr_var 1) (dr_of (de_neg de_int))))) da_nil))))))))))) (fun ca as Q er h => ?_)
  · obtain ⟨_, _, _, rfl, _⟩ := t3_inv h
    rfl
  · obtain ⟨a, b, c, rfl, q⟩ := t3_inv h
    obtain ⟨M, st, s, r, rfl, ok, rfl, sk, hl, rfl, e, q⟩ := q
    have b1 : (1 : Nat) ≤ sizeLine := by decide
    have sz : ∀ {n : Nat}, n ≤ 250001 → n ≤ sizeLine := fun h => Nat.le_trans h (by decide)
    have l1 := ok.ix.1
    have l2 := ok.tx.1
    cases s with
    | op l =>
      cases e
      have hli : M.ls.idxOf l < M.st.length := by rw [ok.st.1]; have := List.idxOf_le_length (a := l) (l := M.ls); omega
      simp only [maD, topD, innD, sgD] at q ⊢
      walk_at "d"
      rw [if_pos (by decide)]
      refine ⟨M.ls, l, rfl, rfl, ?_⟩
      rw [ix_row hli]
      refine ⟨b1, sz (by rw [List.length_map]; omega), ?_⟩
      unfold rowD at q
      rw [List.map_append] at q
      exact q
    | tx z =>
      have hx := List.idxOf_le_length (a := z) (l := M.xs)
      obtain q0 | ⟨r0, x, rfl⟩ := snoc st
      · exact absurd q0 sk.ne
      simp only [stepped, List.getLast?_concat, List.dropLast_concat, Option.some.injEq] at e
      subst e
      simp only [maD, topD, innD, sgD] at q ⊢
      walk_at "d"
      rw [s3, if_neg (by decide), if_pos (by decide)]
      unfold rowD at q
      rw [List.map_append, List.map_cons, List.map_nil] at q
      simp only [List.map_append, List.map_cons, List.map_nil] at q ⊢
      rw [cut_m1]
      rw [List.length_append, List.length_singleton] at hl
      rcases st_last sk with ⟨rfl, hxx⟩ | ⟨hr, hxx, h2⟩
      · have m := getD_rows (k := M.xs.idxOf z) ok.tx (by omega)
        rw [if_pos (by simp)]
        refine ⟨M.xs, z, rfl, rfl, ?_⟩
        rw [ix_rows (by omega), ix_lastT, ix_row (by rw [m.1]; exact hxx)]
        rw [if_pos (by rfl)] at q
        exact ⟨b1, by decide, q⟩
      · have l := List.length_pos_iff.mpr hr
        have m := getD_rows (k := M.xs.idxOf z) ok.ix (by omega)
        rw [if_neg (by rw [List.length_append, List.length_map, List.length_singleton]; simp only [decide_eq_true_eq]; omega)]
        refine ⟨M.xs, z, rfl, rfl, ?_⟩
        rw [ix_rows (by omega), ix_lastT, ix_row (by rw [m.1]; exact hxx)]
        rw [if_neg (by rw [List.length_append, List.length_singleton]; omega)] at q
        exact ⟨b1, sz (by rw [List.length_map]; omega), q⟩
    | cl =>
      obtain q0 | ⟨r0, x, rfl⟩ := snoc st
      · exact absurd q0 sk.ne
      obtain rfl | ⟨r0, y, rfl⟩ := snoc r0
      · cases e
      rw [stepped_cl] at e
      cases e
      simp only [maD, topD, innD, sgD] at q ⊢
      walk_at "d"
      rw [s4, s5, if_neg (by decide), if_neg (by decide)]
      unfold rowD at q
      simp only [List.map_append, List.map_cons, List.map_nil] at q ⊢
      rw [cut_m2]
      simp only [List.length_append, List.length_singleton] at hl
      rcases st_last sk with ⟨e0, _⟩ | ⟨_, hxx, sk2⟩
      · simp at e0
      rcases st_last sk2 with ⟨rfl, hy⟩ | ⟨hr, hy, sk3⟩
      · have m := getD_rows (k := x) ok.tc hxx
        rw [if_pos (by simp), ix_lastT, ix_rows (by rw [ok.tc.1]; exact hxx), ix_lastT2, ix_row (by rw [m.1]; exact hy)]
        rw [if_pos (by rfl)] at q
        exact ⟨b1, by decide, q⟩
      · have l := List.length_pos_iff.mpr hr
        have m := getD_rows (k := x) ok.ic hxx
        rw [if_neg (by simp only [List.length_append, List.length_map, List.length_singleton, decide_eq_true_eq]; omega), ix_lastT, ix_rows (by rw [ok.ic.1]; exact hxx), ix_lastT2, ix_row (by rw [m.1]; exact hy)]
        rw [if_neg (by omega)] at q
        exact ⟨b1, sz (by rw [List.length_map]; omega), q⟩
end
end Lw
set_option Elab.async false
set_option linter.all false
set_option maxRecDepth 100000
set_option maxHeartbeats 1000000
set_option pp.deepTerms true
set_option pp.maxSteps 200000
namespace Lw
open PySem PySem.Spec PyProof PyProof.Rows L2 So Da Dl
local macro_rules | `(tactic| walk_at "z") => `(tactic| repeat (first | refine ⟨(by decide), ?_⟩ | refine ⟨(by omega), ?_⟩ | refine ⟨rfl, ?_⟩))
section
variable {Z : Zw}
theorem bel_self {n : Nat} : belB (nD n) (n : Nat) = false := by
  show (decide ((0 : Int) ≤ (n : Nat)) && decide (((n : Nat) : Int) < (n : Nat))) = false
  rw [show decide (((n : Nat) : Int) < (n : Nat)) = false from decide_eq_false (by omega), Bool.and_false]
def after (M : Ma) (o : Option (List Nat)) (ss : List Sg) : Option (List Nat) := ss.foldl (fun o s => o.bind fun st => stepped M st s) o
theorem after_none {M : Ma} : ∀ ss : List Sg, after M none ss = none
  | [] => rfl
  | _ :: ss => after_none ss
/-- how deep a sign leads -/
def stpS : Sg → Int
  | .op _ => 1
  | .cl => -1
  | .tx _ => 0
theorem stepped_len {M : Ma} {st : List Nat} {s : Sg} (h : st ≠ []) : (0 < (st.length : Int) + stpS s → ∃ r, stepped M st s = some r ∧ (r.length : Int) = st.length + stpS s) ∧ ((st.length : Int) + stpS s ≤ 0 → stepped M st s = none) := by
  cases s with
  | op l => exact ⟨fun _ => ⟨_, rfl, by simp [stpS]⟩, fun h2 => by simp [stpS] at h2; omega⟩
  | tx z =>
    obtain q | ⟨r, x, rfl⟩ := snoc st
    · exact absurd q h
    refine ⟨fun _ => ?_, fun h2 => by simp [stpS] at h2; omega⟩
    simp only [stepped, List.getLast?_concat, List.dropLast_concat]
    exact ⟨_, rfl, by simp [stpS]⟩
  | cl =>
    obtain q | ⟨r, x, rfl⟩ := snoc st
    · exact absurd q h
    obtain rfl | ⟨r, y, rfl⟩ := snoc r
    · exact ⟨fun h2 => by simp [stpS] at h2, fun _ => rfl⟩
    · refine ⟨fun _ => ⟨_, stepped_cl, by simp [stpS]; omega⟩, fun h2 => by simp [stpS] at h2; omega⟩
/-- what levels tell of stacks -/
theorem lvl_after {M : Ma} (ok : MaOk M) : ∀ {ds : List PyData} {i : Nat} {a l : Int} {st : List Nat}, lvl ds i a = .inr l → StOk M st → (st.length : Int) = a + 1 → ∃ r, after M (some st) (ds.map sgOf) = some r ∧ (r.length : Int) = l + 1 ∧ StOk M r
  | [], i, a, l, st, e, h, hl => by
    cases e
    exact ⟨st, rfl, hl, h⟩
  | d :: ds, i, a, l, st, e, h, hl => by
    unfold lvl at e
    split at e
    · cases e
    split at e
    · cases e
    rename_i h1 h2
    have es : stpD d = stpS (sgOf d) := by unfold stpD; cases sgOf d <;> rfl
    obtain ⟨r, e1, e2⟩ := (stepped_len (M := M) (s := sgOf d) h.ne).1 (by omega)
    obtain ⟨r', k1, k2, k3⟩ := lvl_after ok e (stepped_ok ok h e1).1 (by omega)
    refine ⟨r', ?_, k2, k3⟩
    show after M (stepped M st (sgOf d)) (ds.map sgOf) = some r'
    rw [e1]
    exact k1
abbrev T_behind_all : TD := T3 fun D X G Q _ => ∃ M st ss r, D = maD M ∧ MaOk M ∧ X = .tuple (st.map nD) ∧ StOk M st ∧ st.length + ss.length ≤ 250000 ∧ G = .tuple (ss.map sgD) ∧ after M (some st) ss = some r ∧ Q (rowD r)
abbrev s_behind_all : Stmt := top 70
theorem sc_behind_all : FnScope ["machine", "stack", "signs", "led", "sign"] ["machine", "stack", "signs"] (defScope s_behind_all) := ⟨rfl, rfl, rfl, by decide +kernel, rfl, by decide +kernel, by decide +kernel⟩
local macro_rules | `(tactic| walk_at "d") => `(tactic| simp only [↓dSeq, ↓dFor, ↓reprD, ↓dCallK, ↓dIfS, ↓dAndV, ↓dOrV, ↓dUn, ↓dOp, ↓dC, ↓dVar, ↓derefW, ↓deref, ↓known, ↓noOb, ↓nbO, ↓start0, ↓endsOf, ↓outA, ↓toB, ↓dAnd, ↓dOr, ↓dNot, ↓ofB, ↓dIf, ↓dChain, ↓dgName, ↓dgSeq, ↓dgCons, ↓dgNil, ↓dLc, ↓popW, ↓atOl, ↓isOl, ↓ownS, ↓frzD, ↓dCall, argsOf, argLc, obSlots, upS, upO, ↓noObs, ↓wipeD, List.map_cons, List.map_nil, List.length_cons, List.length_nil, Nat.sub_self, Nat.zero_add, Nat.reduceAdd, Nat.reduceSub, List.replicate, List.append_nil, List.cons_append, List.nil_append, List.getElem?_cons_zero, List.getElem?_cons_succ, List.getElem?_nil, List.set, List.head?, List.tail, Option.getD_some, Option.getD_none, List.nodup_nil, List.nodup_cons, List.not_mem_nil, List.mem_cons, List.mem_singleton, or_false, Nat.reduceEqDiff, true_and, and_true, Bool.not_true, Bool.not_false, if_true, Bool.false_eq_true, if_false, ite_true, ite_false, not_false_eq_true, reduceCtorEq, eqD_int, eqD_str, eqD_bl, eqD_tuple, eqD_list, eqD_tupleR, eqD_listR, eqD_non, neD_int, neD_str, neD_bl, neD_tuple, neD_list, neD_tupleR, neD_listR, neD_non, ↓isD, ↓notD, ix_0, ix_1, ix_2, ix_3, ix_4, ix_L0, ix_L1, ix_L2, itemsD_L, itemsD_T, tupleD_L, tupleD_T, listD_L, listD_T, lenD_L, lenD_T, lenD_S, slD_L, slD_T, addD_I, addD_S, addD_T, addD_L, subD_I, mulD_I, ltD_I, ltD_S, leD_I, gtD_I, geD_I, modD_I, fdivD_I, powD_I, intD_I, intD_B, negD_I, isND_N, isND_I, isND_S, isND_B, isND_T, isND_L, sq_T, sq_L, sq_N, sq_I, sq_S, sq_B, at_0, at_1, at_2, at_3, at_4, ↓isiD, pick, List.filterMap_cons_some, List.filterMap_nil, List.filterMap_cons, ↓ownC, ↓T1, ↓T2, ↓T3, ↓T4, ↓dHeard, ↓capsD, ↓slotsD, ↓lamW, lamSto, cpLc, ↓dHeardS, ↓dAsks, ↓asksW, ↓heardT, ↓Tbox, ↓Ttake, ↓intW, ix_ma0, ix_ma1, ix_ma2, ix_ma3, ix_inn0, ix_inn1, ix_inn2, ix_inn3, ix_top0, ix_top1, ix_top2, ix_top3, ix_top4, ↓T_lead_on])
theorem ok_behind_all {f : Addr} {fd : FuncData} (F : Fun Z.K "_behind_all" "_behind_all" s_behind_all f fd) (T : Tz Z.K Z.mg)
    {f_behind_sign : Addr} {fd_behind_sign : FuncData} (D_behind_sign : Df Z.K Z.mg "behind_sign" s_behind_sign ["machine", "stack", "sign"] f_behind_sign fd_behind_sign) (G_behind_sign : FnD Z.Pg Z.w Z.K Z.mg Z.base CX0 2 f_behind_sign fd_behind_sign ["machine", "stack", "sign"] (spT Z (T_behind_sign))) : FnD Z.Pg Z.w Z.K Z.mg Z.base CX0 3 f fd ["machine", "stack", "signs"] (spT Z (T_behind_all)) := by
  refine okD F sc_behind_all (fun as Q er h => ?_) (fun cdv A outer s H E G0 ca hr hgd hca => (dss_cons (ds_set (i := 3) sc_behind_all.nd rfl (Or.inl rfl) (de_var 1))
      (dss_cons (ds_for PassesOwn.never rfl (di_seq (de_var 2)) (dg_name (i := 4) sc_behind_all.nd rfl (Or.inl rfl))
        (dss_one (ds_set (i := 3) sc_behind_all.nd rfl (Or.inl rfl) (de_call G_behind_sign hr hgd (by rfl) D_behind_sign.g D_behind_sign.F.kp D_behind_sign.b (drs_cons (dr_var 0) (drs_cons (dr_var 3) (drs_cons (dr_var 4) drs_nil)))))))
      (dss_one (ds_ret (de_var 3)))))) (fun ca as Q er h => ?_)
  · obtain ⟨_, _, _, rfl, _⟩ := t3_inv h
    rfl
  · obtain ⟨a, b, c, rfl, q⟩ := t3_inv h
    obtain ⟨M, st, ss, r, rfl, ok, rfl, sk, hl, rfl, e, q⟩ := q
    walk_at "d"
    refine forW_go (fun ds ρ => ∃ (i : Nat) (cur : List Nat) (s4 : Lc), ds = (ss.map sgD).drop i ∧ i ≤ ss.length ∧ after M (some cur) (ss.drop i) = some r ∧ StOk M cur ∧ cur.length ≤ st.length + i ∧ nbO (some s4) ∧ ρ = [.sh (maD M), .sh (.tuple (st.map nD)), .sh (.tuple (ss.map sgD)), .sh (.tuple (cur.map nD)), s4]) ?_ ?_ _ _ ⟨0, st, .un, rfl, Nat.zero_le _, e, sk, by omega, trivial, rfl⟩
    · rintro ρ ⟨i, cur, s4, e1, li, e2, k, kl, h4, rfl⟩
      have hi : ss.length ≤ i := by
        have := congrArg List.length e1
        rw [List.length_drop, List.length_map, List.length_nil] at this
        omega
      rw [List.drop_of_length_le hi] at e2
      cases e2
      walk_at "d"
      exact q
    · rintro K d ds ρ ⟨i, cur, s4, e1, li, e2, k, kl, h4, rfl⟩ ih
      have hi : i < ss.length := by
        rcases Nat.lt_or_ge i ss.length with h | h
        · exact h
        · rw [List.drop_of_length_le (by rw [List.length_map]; exact h)] at e1
          cases e1
      rw [List.drop_eq_getElem_cons (by rw [List.length_map]; exact hi), List.getElem_map] at e1
      obtain ⟨rfl, rfl⟩ := List.cons.inj e1
      rw [List.drop_eq_getElem_cons hi] at e2
      have e3 : after M (stepped M cur ss[i]) (ss.drop (i + 1)) = some r := e2
      cases e4 : stepped M cur ss[i] with
      | none => rw [e4, after_none] at e3; cases e3
      | some r2 =>
        rw [e4] at e3
        obtain ⟨k2, l2⟩ := stepped_ok ok k e4
        walk_at "d"
        exact ⟨h4, M, cur, ss[i], r2, rfl, ok, rfl, k, by omega, rfl, e4, ih _ ⟨i + 1, r2, .sh (sgD ss[i]), rfl, hi, e3, k2, by omega, trivial, rfl⟩⟩
abbrev T_check_stack (B R : Addr) : TD := T2 fun D V Q er => OkD V ∧ MaIn B D (fun M => (stkB M V = false ∧ er (R, V)) ∨ (stkB M V = true ∧ Q (.tuple (itD V)))) er
theorem ma_imp {B : Addr} {D : PyData} {k k' : Ma → Prop} {er : EK} (h : MaIn B D k er) (i : ∀ M, MaOk M → k M → k' M) : MaIn B D k' er := by
  rcases h with ⟨M, im, ok, h⟩ | h
  · exact .inl ⟨M, im, ok, i M ok h⟩
  · exact .inr h
abbrev T_first_stack (B : Addr) : TD := T1 fun D Q er => MaIn B D (fun M => Q (rowD [M.t0])) er
/-- a stack, or what is told of none -/
def StIn (R : Addr) (M : Ma) (V : PyData) (k : List Nat → Prop) (er : EK) : Prop := (stkB M V = false ∧ er (R, V)) ∨ (stkB M V = true ∧ ∀ st, itD V = st.map nD → StOk M st → k st)
abbrev T_after (B R S : Addr) : TD := T3 fun D V G Q er => OkD V ∧ OkD G ∧ MaIn B D (fun M => StIn R M V (fun st => (∃ i, fauD G = some i ∧ er (S, .int i)) ∨ (fauD G = none ∧ ((stepped M st (sgOf G) = none ∧ er (S, .int 0)) ∨ ∃ r, stepped M st (sgOf G) = some r ∧ Q (rowD r)))) er) er
abbrev T_after_all (B R W : Addr) : TD := T3 fun D V G Q er => OkD V ∧ OkD G ∧ MaIn B D (fun M => StIn R M V (fun st => LvIn W G ((st.length : Int) - 1) (fun _ => ∀ r, after M (some st) (sgsOf G) = some r → Q (rowD r)) er) er) er
abbrev T_stack_of (B W : Addr) : TD := T2 fun D P Q er => OkD P ∧ MaIn B D (fun M => LvIn W P 0 (fun _ => ∀ r, after M (some [M.t0]) (sgsOf P) = some r → Q (rowD r)) er) er
def ansOf (M : Ma) (r : List Nat) : PyData := ansD (M.an.getD (r.getD 0 0) [])
abbrev T_answer_by (B R W : Addr) : TD := T3 fun D V E Q er => OkD V ∧ OkD E ∧ MaIn B D (fun M => StIn R M V (fun st => LvIn W E ((st.length : Int) - 1) (fun l => (0 < l ∧ er (W, .int ((itD E).length : Nat))) ∨ (l ≤ 0 ∧ ∀ r, after M (some st) (sgsOf E) = some r → Q (ansOf M r))) er) er) er
abbrev s_answer_by : Stmt := top 71
theorem sc_answer_by : FnScope ["machine", "stack", "ending", "checked", "states", "told"] ["machine", "stack", "ending"] (defScope s_answer_by) := ⟨rfl, rfl, rfl, by decide +kernel, rfl, by decide +kernel, by decide +kernel⟩
theorem ok_answer_by {f : Addr} {fd : FuncData} (F : Fun Z.K "answer_by" "answer_by" s_answer_by f fd) (T : Tz Z.K Z.mg) {C_BadMachine : Addr} {C_BadStream : Addr} {C_Refused : Addr}
    {f_check_machine : Addr} {fd_check_machine : FuncData} (D_check_machine : Df Z.K Z.mg "check_machine" s_check_machine ["value"] f_check_machine fd_check_machine) (G_check_machine : FnD Z.Pg Z.w Z.K Z.mg Z.base (L2.CX Z.Pg Z.w) 6 f_check_machine fd_check_machine ["value"] (spT Z (T_check_machine C_BadMachine)))
    {f_stack_in : Addr} {fd_stack_in : FuncData} (D_stack_in : Df Z.K Z.mg "stack_in" s_stack_in ["machine", "value"] f_stack_in fd_stack_in) (G_stack_in : FnD Z.Pg Z.w Z.K Z.mg Z.base (L2.CX Z.Pg Z.w) 6 f_stack_in fd_stack_in ["machine", "value"] (spT Z (T_stack_in C_Refused)))
    {f_check_ending : Addr} {fd_check_ending : FuncData} (D_check_ending : Df Z.K Z.mg "check_ending" s_check_ending ["depth", "value"] f_check_ending fd_check_ending) (G_check_ending : FnD Z.Pg Z.w Z.K Z.mg Z.base (L2.CX Z.Pg Z.w) 6 f_check_ending fd_check_ending ["depth", "value"] (spT Z (T_check_ending C_BadStream C_Refused)))
    {f_behind_all : Addr} {fd_behind_all : FuncData} (D_behind_all : Df Z.K Z.mg "_behind_all" s_behind_all ["machine", "stack", "signs"] f_behind_all fd_behind_all) (G_behind_all : FnD Z.Pg Z.w Z.K Z.mg Z.base CX0 6 f_behind_all fd_behind_all ["machine", "stack", "signs"] (spT Z (T_behind_all))) : FnD Z.Pg Z.w Z.K Z.mg Z.base (L2.CX Z.Pg Z.w) 7 f fd ["machine", "stack", "ending"] (spT Z (T_answer_by C_BadMachine C_Refused C_BadStream)) := by
  refine okDX F sc_answer_by (fun as Q er h => ?_) (fun cdv A outer s H E G0 er ca hE hr hgd hca => (dss_cons (ds_set (i := 3) sc_answer_by.nd rfl (Or.inl rfl) (de_callX hE (passes_call (takes_of rfl rfl rfl rfl) fun _ _ _ _ h => h) G_check_machine hr hgd (by rfl) D_check_machine.g D_check_machine.F.kp D_check_machine.b (drs_cons (dr_var 0) drs_nil)))
      (dss_cons (ds_set (i := 4) sc_answer_by.nd rfl (Or.inl rfl) (de_callX hE (passes_call (takes_of rfl rfl rfl rfl) fun _ _ _ _ h => h) G_stack_in hr hgd (by rfl) D_stack_in.g D_stack_in.F.kp D_stack_in.b (drs_cons (dr_var 3) (drs_cons (dr_var 1) drs_nil))))
      (dss_cons (ds_set (i := 5) sc_answer_by.nd rfl (Or.inl rfl) (de_callX hE (passes_call (takes_of rfl rfl rfl rfl) fun _ _ _ _ h => h) G_check_ending hr hgd (by rfl) D_check_ending.g D_check_ending.F.kp D_check_ending.b (drs_cons (dr_of (de_op op_sub od_sub (dr_of (de_callB call_lenA cd_len (by rfl) T.len (by decide +kernel) (dr_var 4))) (dr_of de_int))) (drs_cons (dr_var 2) drs_nil))))
      (dss_one (ds_ret (de_ix (dr_of (de_ix (dr_of (de_ix (dr_var 3) (dr_of de_int))) (dr_of de_int))) (dr_of (de_ix (dr_of (de_call G_behind_all hr hgd (by rfl) D_behind_all.g D_behind_all.F.kp D_behind_all.b (drs_cons (dr_var 3) (drs_cons (dr_var 4) (drs_cons (dr_var 5) drs_nil))))) (dr_of de_int)))))))))) (fun ca as Q er h => ?_)
  · obtain ⟨_, _, _, rfl, _⟩ := t3_inv h
    rfl
  · obtain ⟨a, b, c, rfl, q⟩ := t3_inv h
    walk_at "d"
    obtain ⟨oV, oE, q⟩ := q
    refine ma_imp q fun M ok h => ⟨M, rfl, oV, ?_⟩
    rcases h with ⟨e, h⟩ | ⟨e, h⟩
    · rw [e]
      exact h
    · rw [e, if_pos rfl]
      obtain ⟨st, es, sk⟩ := stk_inv e
      have len := okD_len oV
      have len2 := okD_len oE
      rw [es, List.length_map] at len
      obtain ⟨n, en⟩ : ∃ n, st.length = n + 1 := ⟨st.length - 1, by have := List.length_pos_iff.mpr sk.ne; omega⟩
      refine ⟨oE, n, by rw [es, List.length_map, en]; show PyData.int _ = PyData.int _; congr 1; omega, ?_⟩
      have h := h st es sk
      dsimp only at h
      rw [show (st.length : Int) - 1 = (n : Nat) by omega] at h
      refine lv_imp h fun hs l el h => ?_
      rcases h with h | ⟨h0, h⟩
      · exact .inl h
      · obtain ⟨r, k1, k2, k3⟩ := lvl_after ok el sk (by omega)
        have k1 : after M (some st) (sgsOf c) = some r := k1
        have hl : st.length + (sgsOf c).length ≤ 250000 := by rw [sgsOf_len]; omega
        refine .inr ⟨h0, M, st, sgsOf c, r, rfl, ok, by rw [es], sk, hl, rfl, k1, ?_⟩
        have lp := List.length_pos_iff.mpr k3.ne
        have e0 : r.getD 0 0 < M.an.length := by
          rw [ok.an]
          cases r with
          | nil => exact absurd rfl k3.ne
          | cons t r => exact k3.hd t rfl
        refine (ix_row (k := 0) lp).mpr ?_
        have e : atI (M.an.map ansD) ((r.getD 0 0 : Nat) : Int) = some (ansOf M r) := by
          refine atI_nat ?_
          rw [List.getElem?_map, List.getElem?_eq_getElem e0]
          show some (ansD _) = some (ansD _)
          rw [List.getD_eq_getElem?_getD (l := M.an), List.getElem?_eq_getElem e0]
          rfl
        have q := h r k1
        unfold nD ixD
        simp only [e]
        exact q
end
end Lw
set_option Elab.async false
set_option linter.all false
set_option maxRecDepth 100000
set_option maxHeartbeats 1000000
set_option pp.deepTerms true
set_option pp.maxSteps 200000
namespace Lw
open PySem PySem.Spec PyProof PyProof.Rows L2 So Da Dl
local macro_rules | `(tactic| walk_at "z") => `(tactic| repeat (first | refine ⟨(by decide), ?_⟩ | refine ⟨(by omega), ?_⟩ | refine ⟨rfl, ?_⟩))
section
variable {Z : Zw}
/-- whether data is an ending of a depth -/
def endB (V : PyData) (n : Nat) : Bool := isSq V && match lvl (itD V) 0 (n : Nat) with
  | .inr l => decide (l ≤ 0)
  | .inl _ => false
abbrev T_is_ending (W : Addr) : TD := T2 fun n V Q er => OkD V ∧ ∃ a : Nat, n = nD a ∧ Q (.bool (endB V a))
abbrev s_is_ending : Stmt := top 26
theorem sc_is_ending : FnScope ["depth", "value"] ["depth", "value"] (defScope s_is_ending) := ⟨rfl, rfl, rfl, by decide +kernel, rfl, by decide +kernel, by decide +kernel⟩
local macro_rules | `(tactic| walk_at "d") => `(tactic| simp only [↓dSeq, ↓dFor, ↓reprD, ↓dCallK, ↓dIfS, ↓dAndV, ↓dOrV, ↓dUn, ↓dOp, ↓dC, ↓dVar, ↓derefW, ↓deref, ↓known, ↓noOb, ↓nbO, ↓start0, ↓endsOf, ↓outA, ↓toB, ↓dAnd, ↓dOr, ↓dNot, ↓ofB, ↓dIf, ↓dChain, ↓dgName, ↓dgSeq, ↓dgCons, ↓dgNil, ↓dLc, ↓popW, ↓atOl, ↓isOl, ↓ownS, ↓frzD, ↓dCall, argsOf, argLc, obSlots, upS, upO, ↓noObs, ↓wipeD, List.map_cons, List.map_nil, List.length_cons, List.length_nil, Nat.sub_self, Nat.zero_add, Nat.reduceAdd, Nat.reduceSub, List.replicate, List.append_nil, List.cons_append, List.nil_append, List.getElem?_cons_zero, List.getElem?_cons_succ, List.getElem?_nil, List.set, List.head?, List.tail, Option.getD_some, Option.getD_none, List.nodup_nil, List.nodup_cons, List.not_mem_nil, List.mem_cons, List.mem_singleton, or_false, Nat.reduceEqDiff, true_and, and_true, Bool.not_true, Bool.not_false, if_true, Bool.false_eq_true, if_false, ite_true, ite_false, not_false_eq_true, reduceCtorEq, eqD_int, eqD_str, eqD_bl, eqD_tuple, eqD_list, eqD_tupleR, eqD_listR, eqD_non, neD_int, neD_str, neD_bl, neD_tuple, neD_list, neD_tupleR, neD_listR, neD_non, ↓isD, ↓notD, ix_0, ix_1, ix_2, ix_3, ix_4, ix_L0, ix_L1, ix_L2, itemsD_L, itemsD_T, tupleD_L, tupleD_T, listD_L, listD_T, lenD_L, lenD_T, lenD_S, slD_L, slD_T, addD_I, addD_S, addD_T, addD_L, subD_I, mulD_I, ltD_I, ltD_S, leD_I, gtD_I, geD_I, modD_I, fdivD_I, powD_I, intD_I, intD_B, negD_I, isND_N, isND_I, isND_S, isND_B, isND_T, isND_L, sq_T, sq_L, sq_N, sq_I, sq_S, sq_B, at_0, at_1, at_2, at_3, at_4, ↓isiD, pick, List.filterMap_cons_some, List.filterMap_nil, List.filterMap_cons, ↓ownC, ↓T1, ↓T2, ↓T3, ↓T4, ↓dHeard, ↓capsD, ↓slotsD, ↓lamW, lamSto, cpLc, ↓dHeardS, ↓dAsks, ↓asksW, ↓heardT, ↓Tbox, ↓Ttake, ↓intW, ix_ma0, ix_ma1, ix_ma2, ix_ma3, ix_inn0, ix_inn1, ix_inn2, ix_inn3, ix_top0, ix_top1, ix_top2, ix_top3, ix_top4, ↓T_lead_on])
theorem ok_is_ending {f : Addr} {fd : FuncData} (F : Fun Z.K "is_ending" "is_ending" s_is_ending f fd) (T : Tz Z.K Z.mg) {C_BadStream : Addr} {C_Refused : Addr}
    {f_check_ending : Addr} {fd_check_ending : FuncData} (D_check_ending : Df Z.K Z.mg "check_ending" s_check_ending ["depth", "value"] f_check_ending fd_check_ending) (G_check_ending : FnD Z.Pg Z.w Z.K Z.mg Z.base (L2.CX Z.Pg Z.w) 6 f_check_ending fd_check_ending ["depth", "value"] (spT Z (T_check_ending C_BadStream C_Refused)))
    (A_BadStream : Z.T.an C_BadStream = "at") (E_BadStream : ErC Z.K Z.mg "BadStream" "at" C_BadStream) : FnD Z.Pg Z.w Z.K Z.mg Z.base CX0 7 f fd ["depth", "value"] (spT Z (T_is_ending C_BadStream)) := by
  refine okD F sc_is_ending (fun as Q er h => ?_) (fun cdv A outer s H E G0 ca hr hgd hca => (dss_cons (ds_tryN (X := (cxOf CX0 Z.Pg Z.w Z.K Z.mg Z.base ["depth", "value"] "is_ending" (defScope s_is_ending) f cdv A outer s H E).nox) (K := Z.K) rfl rfl rfl (fun W pn xe tk po => (dsw_expr (dew_call tk G_check_ending hr hgd (by rfl) D_check_ending.g D_check_ending.F.kp D_check_ending.b (drs_cons (dr_var 0) (drs_cons (dr_var 1) drs_nil))))) (.more ⟨by rfl, by decide, Or.inl E_BadStream.g⟩ (fun _ _ _ _ _ hz hf => (dss_one (ds_ret de_bl))) .none))
      (dss_one (ds_ret de_bl)))) (fun ca as Q er h => ?_)
  · obtain ⟨_, _, rfl, _⟩ := t2_inv h
    rfl
  · obtain ⟨a, b, rfl, q⟩ := t2_inv h
    walk_at "d"
    obtain ⟨ok, n, rfl, q⟩ := q
    have hx : PySem.W.exmOne Z.K (.ref C_BadStream) (.ref C_BadStream) = some true := E_BadStream.te
    refine ⟨trivial, trivial, rfl, ok, n, rfl, ?_⟩
    unfold endB at q
    unfold LvIn
    cases hs : isSq b with
    | false =>
      rw [hs] at q
      exact .inl ⟨rfl, true, hx, fun _ _ _ => q, fun z => nomatch z⟩
    | true =>
      rw [hs, Bool.true_and] at q
      refine .inr ⟨rfl, ?_⟩
      cases hl : lvl (itD b) 0 (n : Nat) with
      | inl i =>
        rw [hl] at q
        exact .inl ⟨i, rfl, true, hx, fun _ _ _ => q, fun z => nomatch z⟩
      | inr l =>
        rw [hl] at q
        dsimp only at q
        refine .inr ⟨l, rfl, ?_⟩
        by_cases h : l ≤ 0
        · rw [decide_eq_true h] at q
          exact .inr ⟨h, q⟩
        · rw [decide_eq_false h] at q
          exact .inl ⟨by omega, true, hx, fun _ _ _ => q, fun z => nomatch z⟩
abbrev T_checked (B R : Addr) : TD := T3 fun D X Y Q er => OkD X ∧ OkD Y ∧ MaIn B D (fun M => (stkB M X = false ∧ er (R, X)) ∨ (stkB M X = true ∧ ((stkB M Y = false ∧ er (R, Y)) ∨ (stkB M Y = true ∧ (((itD X).length ≠ (itD Y).length ∧ er (R, Y)) ∨ ((itD X).length = (itD Y).length ∧ Q (.tuple [maD M, .tuple (itD X), .tuple (itD Y)]))))))) er
abbrev s_checked : Stmt := top 84
theorem sc_checked : FnScope ["machine", "one", "other", "checked", "stack", "stack_too"] ["machine", "one", "other"] (defScope s_checked) := ⟨rfl, rfl, rfl, by decide +kernel, rfl, by decide +kernel, by decide +kernel⟩
theorem ok_checked {f : Addr} {fd : FuncData} (F : Fun Z.K "_checked" "_checked" s_checked f fd) (T : Tz Z.K Z.mg) {C_BadMachine : Addr} {C_Refused : Addr}
    {f_check_machine : Addr} {fd_check_machine : FuncData} (D_check_machine : Df Z.K Z.mg "check_machine" s_check_machine ["value"] f_check_machine fd_check_machine) (G_check_machine : FnD Z.Pg Z.w Z.K Z.mg Z.base (L2.CX Z.Pg Z.w) 6 f_check_machine fd_check_machine ["value"] (spT Z (T_check_machine C_BadMachine)))
    {f_stack_in : Addr} {fd_stack_in : FuncData} (D_stack_in : Df Z.K Z.mg "stack_in" s_stack_in ["machine", "value"] f_stack_in fd_stack_in) (G_stack_in : FnD Z.Pg Z.w Z.K Z.mg Z.base (L2.CX Z.Pg Z.w) 6 f_stack_in fd_stack_in ["machine", "value"] (spT Z (T_stack_in C_Refused)))
    (A_Refused : Z.T.an C_Refused = "at") {fI_Refused : Addr} {fdI_Refused : FuncData} (B_Refused : Er Z.K Z.mg "Refused" "Refused.__init__" "at" c_Refused C_Refused fI_Refused fdI_Refused) (I_Refused : FnOk Z.Pg Z.w Z.K Z.mg Z.base CX0 5 fI_Refused fdI_Refused ["self", "at"] (spIni C_Refused "at")) : FnD Z.Pg Z.w Z.K Z.mg Z.base (L2.CX Z.Pg Z.w) 7 f fd ["machine", "one", "other"] (spT Z (T_checked C_BadMachine C_Refused)) := by
  refine okDX F sc_checked (fun as Q er h => ?_) (fun cdv A outer s H E G0 er ca hE hr hgd hca => (dss_cons (ds_set (i := 3) sc_checked.nd rfl (Or.inl rfl) (de_callX hE (passes_call (takes_of rfl rfl rfl rfl) fun _ _ _ _ h => h) G_check_machine hr hgd (by rfl) D_check_machine.g D_check_machine.F.kp D_check_machine.b (drs_cons (dr_var 0) drs_nil)))
      (dss_cons (ds_set (i := 4) sc_checked.nd rfl (Or.inl rfl) (de_callX hE (passes_call (takes_of rfl rfl rfl rfl) fun _ _ _ _ h => h) G_stack_in hr hgd (by rfl) D_stack_in.g D_stack_in.F.kp D_stack_in.b (drs_cons (dr_var 3) (drs_cons (dr_var 1) drs_nil))))
      (dss_cons (ds_set (i := 5) sc_checked.nd rfl (Or.inl rfl) (de_callX hE (passes_call (takes_of rfl rfl rfl rfl) fun _ _ _ _ h => h) G_stack_in hr hgd (by rfl) D_stack_in.g D_stack_in.F.kp D_stack_in.b (drs_cons (dr_var 3) (drs_cons (dr_var 2) drs_nil))))
      (dss_cons (ds_if (dt_cmp (op_neA hr.units) od_ne (dr_of (de_callB call_lenA cd_len (by rfl) T.len (by decide +kernel) (dr_var 4))) (dr_of (de_callB call_lenA cd_len (by rfl) T.len (by decide +kernel) (dr_var 5))) (nomark _))
        (dss_one (ds_raise A_Refused hE (ps_raise rfl (takes_of rfl rfl rfl rfl) (pmk_oex B_Refused.T B_Refused.ini B_Refused.ty I_Refused hr B_Refused.b .nil pass0 (by rfl) B_Refused.g (pa_cons (de_var 2) pa_nil)))))
        dss_nil)
      (dss_one (ds_ret (de_tup (da_cons (de_var 3) (da_cons (de_var 4) (da_cons (de_var 5) da_nil))))))))))) (fun ca as Q er h => ?_)
  · obtain ⟨_, _, _, rfl, _⟩ := t3_inv h
    rfl
  · obtain ⟨a, b, c, rfl, q⟩ := t3_inv h
    walk_at "d"
    obtain ⟨oX, oY, q⟩ := q
    refine ma_imp q fun M ok h => ⟨M, rfl, oX, ?_⟩
    rcases h with ⟨e, h⟩ | ⟨e, h⟩
    · rw [e]
      exact h
    rw [e, if_pos rfl]
    refine ⟨M, rfl, oY, ?_⟩
    rcases h with ⟨e, h⟩ | ⟨e, h⟩
    · rw [e]
      exact h
    rw [e, if_pos rfl]
    rcases h with ⟨e, h⟩ | ⟨e, h⟩
    · rw [if_pos (by rw [decide_eq_false (by omega)]; rfl)]
      exact h
    · rw [if_neg (by rw [decide_eq_true (by omega)]; decide)]
      exact ⟨by decide, h⟩
abbrev s_lots : Stmt := top 85
def T_lots : TD := fun _ _ _ => False
theorem ok_lots {f : Addr} {fd : FuncData} (F : Fun Z.K "_lots" "_lots" s_lots f fd) (T : Tz Z.K Z.mg) : FnD Z.Pg Z.w Z.K Z.mg Z.base CX0 1 f fd ["machine", "one", "other"] (spT Z (T_lots)) := by
  exact fnD_no fun _ _ _ h => h
/-- two stacks that are none, or of unlike depths -/
def BadSt (B R : Addr) (D X Y : PyData) (er : EK) : Prop := MaIn B D (fun M => (stkB M X = false ∧ er (R, X)) ∨ (stkB M X = true ∧ ((stkB M Y = false ∧ er (R, Y)) ∨ (stkB M Y = true ∧ (itD X).length ≠ (itD Y).length ∧ er (R, Y))))) er
theorem badSt_in {B R : Addr} {D X Y : PyData} {er : EK} {Q : Ma → Prop} (h : BadSt B R D X Y er) : MaIn B D (fun M => (stkB M X = false ∧ er (R, X)) ∨ (stkB M X = true ∧ ((stkB M Y = false ∧ er (R, Y)) ∨ (stkB M Y = true ∧ (((itD X).length ≠ (itD Y).length ∧ er (R, Y)) ∨ ((itD X).length = (itD Y).length ∧ Q M)))))) er :=
  ma_imp h fun M ok h => h.imp id fun ⟨e, h⟩ => ⟨e, h.imp id fun ⟨e, h⟩ => ⟨e, .inl h⟩⟩
abbrev T_pair_lots (B R : Addr) : TD := T3 fun D X Y Q er => OkD X ∧ OkD Y ∧ BadSt B R D X Y er
abbrev s_pair_lots : Stmt := top 86
theorem sc_pair_lots : FnScope ["machine", "one", "other", "checked", "stack", "stack_too"] ["machine", "one", "other"] (defScope s_pair_lots) := ⟨rfl, rfl, rfl, by decide +kernel, rfl, by decide +kernel, by decide +kernel⟩
theorem ok_pair_lots {f : Addr} {fd : FuncData} (F : Fun Z.K "pair_lots" "pair_lots" s_pair_lots f fd) (T : Tz Z.K Z.mg) {C_BadMachine : Addr} {C_Refused : Addr}
    {f_checked : Addr} {fd_checked : FuncData} (D_checked : Df Z.K Z.mg "_checked" s_checked ["machine", "one", "other"] f_checked fd_checked) (G_checked : FnD Z.Pg Z.w Z.K Z.mg Z.base (L2.CX Z.Pg Z.w) 7 f_checked fd_checked ["machine", "one", "other"] (spT Z (T_checked C_BadMachine C_Refused))) : FnD Z.Pg Z.w Z.K Z.mg Z.base (L2.CX Z.Pg Z.w) 8 f fd ["machine", "one", "other"] (spT Z (T_pair_lots C_BadMachine C_Refused)) := by
  refine okDX F sc_pair_lots (fun as Q er h => ?_) (fun cdv A outer s H E G0 er ca hE hr hgd hca => (dss_cons (ds_asg (de_callX hE (passes_call (takes_of rfl rfl rfl rfl) fun _ _ _ _ h => h) G_checked hr hgd (by rfl) D_checked.g D_checked.F.kp D_checked.b (drs_cons (dr_var 0) (drs_cons (dr_var 1) (drs_cons (dr_var 2) drs_nil)))) (dg_seq (m := 3) rfl (dgs_cons (dg_name (i := 3) sc_pair_lots.nd rfl (Or.inl rfl)) (dgs_cons (dg_name (i := 4) sc_pair_lots.nd rfl (Or.inl rfl)) (dgs_cons (dg_name (i := 5) sc_pair_lots.nd rfl (Or.inl rfl)) dgs_nil)))))
      dss_any)) (fun ca as Q er h => ?_)
  · obtain ⟨_, _, _, rfl, _⟩ := t3_inv h
    rfl
  · obtain ⟨a, b, c, rfl, q⟩ := t3_inv h
    walk_at "d"
    exact ⟨q.1, q.2.1, badSt_in q.2.2⟩
abbrev T_alike (B R : Addr) : TD := T3 fun D X Y Q er => OkD X ∧ OkD Y ∧ BadSt B R D X Y er
abbrev s_alike : Stmt := top 87
theorem sc_alike : FnScope ["machine", "one", "other", "checked", "stack", "stack_too", "answers", "state", "state_too"] ["machine", "one", "other"] (defScope s_alike) := ⟨rfl, rfl, rfl, by decide +kernel, rfl, by decide +kernel, by decide +kernel⟩
theorem ok_alike {f : Addr} {fd : FuncData} (F : Fun Z.K "alike" "alike" s_alike f fd) (T : Tz Z.K Z.mg) {C_BadMachine : Addr} {C_Refused : Addr}
    {f_checked : Addr} {fd_checked : FuncData} (D_checked : Df Z.K Z.mg "_checked" s_checked ["machine", "one", "other"] f_checked fd_checked) (G_checked : FnD Z.Pg Z.w Z.K Z.mg Z.base (L2.CX Z.Pg Z.w) 7 f_checked fd_checked ["machine", "one", "other"] (spT Z (T_checked C_BadMachine C_Refused))) : FnD Z.Pg Z.w Z.K Z.mg Z.base (L2.CX Z.Pg Z.w) 8 f fd ["machine", "one", "other"] (spT Z (T_alike C_BadMachine C_Refused)) := by
  refine okDX F sc_alike (fun as Q er h => ?_) (fun cdv A outer s H E G0 er ca hE hr hgd hca => (dss_cons (ds_asg (de_callX hE (passes_call (takes_of rfl rfl rfl rfl) fun _ _ _ _ h => h) G_checked hr hgd (by rfl) D_checked.g D_checked.F.kp D_checked.b (drs_cons (dr_var 0) (drs_cons (dr_var 1) (drs_cons (dr_var 2) drs_nil)))) (dg_seq (m := 3) rfl (dgs_cons (dg_name (i := 3) sc_alike.nd rfl (Or.inl rfl)) (dgs_cons (dg_name (i := 4) sc_alike.nd rfl (Or.inl rfl)) (dgs_cons (dg_name (i := 5) sc_alike.nd rfl (Or.inl rfl)) dgs_nil)))))
      dss_any)) (fun ca as Q er h => ?_)
  · obtain ⟨_, _, _, rfl, _⟩ := t3_inv h
    rfl
  · obtain ⟨a, b, c, rfl, q⟩ := t3_inv h
    walk_at "d"
    exact ⟨q.1, q.2.1, badSt_in q.2.2⟩
abbrev T_parting (B R : Addr) : TD := T3 fun D X Y Q er => OkD X ∧ OkD Y ∧ BadSt B R D X Y er
abbrev s_parting : Stmt := top 88
theorem sc_parting : FnScope ["machine", "one", "other", "checked", "stack", "stack_too", "answers", "state", "state_too", "_", "signs"] ["machine", "one", "other"] (defScope s_parting) := ⟨rfl, rfl, rfl, by decide +kernel, rfl, by decide +kernel, by decide +kernel⟩
theorem ok_parting {f : Addr} {fd : FuncData} (F : Fun Z.K "parting" "parting" s_parting f fd) (T : Tz Z.K Z.mg) {C_BadMachine : Addr} {C_Refused : Addr}
    {f_checked : Addr} {fd_checked : FuncData} (D_checked : Df Z.K Z.mg "_checked" s_checked ["machine", "one", "other"] f_checked fd_checked) (G_checked : FnD Z.Pg Z.w Z.K Z.mg Z.base (L2.CX Z.Pg Z.w) 7 f_checked fd_checked ["machine", "one", "other"] (spT Z (T_checked C_BadMachine C_Refused))) : FnD Z.Pg Z.w Z.K Z.mg Z.base (L2.CX Z.Pg Z.w) 8 f fd ["machine", "one", "other"] (spT Z (T_parting C_BadMachine C_Refused)) := by
  refine okDX F sc_parting (fun as Q er h => ?_) (fun cdv A outer s H E G0 er ca hE hr hgd hca => (dss_cons (ds_asg (de_callX hE (passes_call (takes_of rfl rfl rfl rfl) fun _ _ _ _ h => h) G_checked hr hgd (by rfl) D_checked.g D_checked.F.kp D_checked.b (drs_cons (dr_var 0) (drs_cons (dr_var 1) (drs_cons (dr_var 2) drs_nil)))) (dg_seq (m := 3) rfl (dgs_cons (dg_name (i := 3) sc_parting.nd rfl (Or.inl rfl)) (dgs_cons (dg_name (i := 4) sc_parting.nd rfl (Or.inl rfl)) (dgs_cons (dg_name (i := 5) sc_parting.nd rfl (Or.inl rfl)) dgs_nil)))))
      dss_any)) (fun ca as Q er h => ?_)
  · obtain ⟨_, _, _, rfl, _⟩ := t3_inv h
    rfl
  · obtain ⟨a, b, c, rfl, q⟩ := t3_inv h
    walk_at "d"
    exact ⟨q.1, q.2.1, badSt_in q.2.2⟩
theorem nD_inj : ∀ {a b : List Nat}, a.map nD = b.map nD → a = b
  | [], [], _ => rfl
  | [], _ :: _, h => nomatch h
  | _ :: _, [], h => nomatch h
  | x :: a, y :: b, h => by
    obtain ⟨h1, h2⟩ := List.cons.inj h
    have h1 : ((x : Nat) : Int) = (y : Nat) := PyData.int.inj h1
    rw [nD_inj h2, show x = y by omega]
theorem eqvA_bool : ∀ {a b : List Bool}, PyData.eqvAll (a.map .bool) (b.map .bool) = decide (a = b)
  | [], [] => rfl
  | [], _ :: _ => rfl
  | _ :: _, [] => rfl
  | x :: a, y :: b => by
    show (PyData.eqv (.bool x) (.bool y) && PyData.eqvAll (a.map .bool) (b.map .bool)) = _
    rw [eqvA_bool]
    cases x <;> cases y <;> simp [PyData.eqv]
theorem eqv_ans {a b : List Bool} : PyData.eqv (ansD a) (ansD b) = decide (a = b) := eqvA_bool
theorem sh_ans {a : List Bool} (h : a.length ≤ 100000) : SeqAt.shaped (ansD a) = true := (OkN.ok (okn_T (n := 0) (all_m fun b _ => okn_bool) (by rw [List.length_map]; exact h)) (by decide)).sh
theorem ans_len {M : Ma} (ok : MaOk M) (k : Nat) : (M.an.getD k []).length ≤ 8 := by
  obtain ⟨wl, w1, w8, hw⟩ := ok.wl
  rcases Nat.lt_or_ge k M.an.length with h | h
  · rw [List.getD_eq_getElem?_getD, List.getElem?_eq_getElem h]
    have := hw _ (List.getElem_mem h)
    show (M.an[k]).length ≤ 8
    omega
  · rw [List.getD_eq_getElem?_getD, List.getElem?_eq_none h]
    exact Nat.zero_le _
theorem stkB_row {M : Ma} {V : PyData} {s : List Nat} (hs : isSq V = true) (e : itD V = s.map nD) (k : StOk M s) : stkB M V = true := by
  have := (stk_ok k).1
  unfold stkB at this ⊢
  rw [hs, e]
  exact this
/-- what an ending comes to from a stack -/
def comeTo (M : Ma) (st : List Nat) (V : PyData) : List Bool := M.an.getD (((after M (some st) (sgsOf V)).getD []).getD 0 0) []
/-- whether a value is an ending that parts -/
def partB (M : Ma) (s t : List Nat) (V : PyData) : Bool := endB V (s.length - 1) && !decide (comeTo M s V = comeTo M t V)
abbrev T_parting_holds (B R W : Addr) : TD := T4 fun D X Y V Q er => OkD X ∧ OkD Y ∧ OkD V ∧ (BadSt B R D X Y er ∨ ∃ M s t, MaIs D M ∧ MaOk M ∧ itD X = s.map nD ∧ itD Y = t.map nD ∧ isSq X = true ∧ isSq Y = true ∧ StOk M s ∧ StOk M t ∧ s.length = t.length ∧ Q (.bool (partB M s t V)))
abbrev s_parting_holds : Stmt := top 89
theorem sc_parting_holds : FnScope ["machine", "one", "other", "value", "checked", "stack", "stack_too"] ["machine", "one", "other", "value"] (defScope s_parting_holds) := ⟨rfl, rfl, rfl, by decide +kernel, rfl, by decide +kernel, by decide +kernel⟩
theorem ok_parting_holds {f : Addr} {fd : FuncData} (F : Fun Z.K "parting_holds" "parting_holds" s_parting_holds f fd) (T : Tz Z.K Z.mg) {C_BadMachine : Addr} {C_BadStream : Addr} {C_Refused : Addr}
    {f_checked : Addr} {fd_checked : FuncData} (D_checked : Df Z.K Z.mg "_checked" s_checked ["machine", "one", "other"] f_checked fd_checked) (G_checked : FnD Z.Pg Z.w Z.K Z.mg Z.base (L2.CX Z.Pg Z.w) 7 f_checked fd_checked ["machine", "one", "other"] (spT Z (T_checked C_BadMachine C_Refused)))
    {f_is_ending : Addr} {fd_is_ending : FuncData} (D_is_ending : Df Z.K Z.mg "is_ending" s_is_ending ["depth", "value"] f_is_ending fd_is_ending) (G_is_ending : FnD Z.Pg Z.w Z.K Z.mg Z.base CX0 7 f_is_ending fd_is_ending ["depth", "value"] (spT Z (T_is_ending C_BadStream)))
    {f_answer_by : Addr} {fd_answer_by : FuncData} (D_answer_by : Df Z.K Z.mg "answer_by" s_answer_by ["machine", "stack", "ending"] f_answer_by fd_answer_by) (G_answer_by : FnD Z.Pg Z.w Z.K Z.mg Z.base (L2.CX Z.Pg Z.w) 7 f_answer_by fd_answer_by ["machine", "stack", "ending"] (spT Z (T_answer_by C_BadMachine C_Refused C_BadStream))) : FnD Z.Pg Z.w Z.K Z.mg Z.base (L2.CX Z.Pg Z.w) 8 f fd ["machine", "one", "other", "value"] (spT Z (T_parting_holds C_BadMachine C_Refused C_BadStream)) := by
  refine okDX F sc_parting_holds (fun as Q er h => ?_) (fun cdv A outer s H E G0 er ca hE hr hgd hca => (dss_cons (ds_asg (de_callX hE (passes_call (takes_of rfl rfl rfl rfl) fun _ _ _ _ h => h) G_checked hr hgd (by rfl) D_checked.g D_checked.F.kp D_checked.b (drs_cons (dr_var 0) (drs_cons (dr_var 1) (drs_cons (dr_var 2) drs_nil)))) (dg_seq (m := 3) rfl (dgs_cons (dg_name (i := 4) sc_parting_holds.nd rfl (Or.inl rfl)) (dgs_cons (dg_name (i := 5) sc_parting_holds.nd rfl (Or.inl rfl)) (dgs_cons (dg_name (i := 6) sc_parting_holds.nd rfl (Or.inl rfl)) dgs_nil)))))
      (dss_cons (ds_if (dt_not (dt_val (de_call G_is_ending hr hgd (by rfl) D_is_ending.g D_is_ending.F.kp D_is_ending.b (drs_cons (dr_of (de_op op_sub od_sub (dr_of (de_callB call_lenA cd_len (by rfl) T.len (by decide +kernel) (dr_var 5))) (dr_of de_int))) (drs_cons (dr_var 3) drs_nil)))))
        (dss_one (ds_ret de_bl))
        dss_nil)
      (dss_one (ds_ret (de_cmp (op_neA hr.units) od_ne (dr_of (de_callX hE (passes_call (takes_of rfl rfl rfl rfl) fun _ _ _ _ h => h) G_answer_by hr hgd (by rfl) D_answer_by.g D_answer_by.F.kp D_answer_by.b (drs_cons (dr_var 4) (drs_cons (dr_var 5) (drs_cons (dr_var 3) drs_nil))))) (dr_of (de_callX hE (passes_call (takes_of rfl rfl rfl rfl) fun _ _ _ _ h => h) G_answer_by hr hgd (by rfl) D_answer_by.g D_answer_by.F.kp D_answer_by.b (drs_cons (dr_var 4) (drs_cons (dr_var 6) (drs_cons (dr_var 3) drs_nil))))) (nomark _))))))) (fun ca as Q er h => ?_)
  · obtain ⟨_, _, _, _, rfl, _⟩ := t4_inv h
    rfl
  · obtain ⟨a, b, c, d, rfl, q⟩ := t4_inv h
    walk_at "d"
    obtain ⟨oX, oY, oV, q⟩ := q
    refine ⟨oX, oY, ?_⟩
    rcases q with q | ⟨M, s, t, is, ok, es, et, hs, ht, ks, kt, hl, q⟩
    · exact badSt_in q
    have len := okD_len oX
    have lt := okD_len oY
    rw [es, List.length_map] at len
    rw [et, List.length_map] at lt
    have ls := List.length_pos_iff.mpr ks.ne
    refine .inl ⟨M, is, ok, .inr ⟨stkB_row hs es ks, .inr ⟨stkB_row ht et kt, .inr ⟨by rw [es, et, List.length_map, List.length_map]; exact hl, oV, s.length - 1, by rw [es, List.length_map]; show PyData.int _ = PyData.int _; congr 1; omega, ?_⟩⟩⟩⟩
    unfold partB at q
    cases he : endB d (s.length - 1) with
    | false =>
      rw [he] at q
      exact q
    | true =>
      rw [he, Bool.true_and] at q
      rw [if_neg (by decide), es, et]
      unfold endB at he
      rw [Bool.and_eq_true] at he
      obtain ⟨hd, he⟩ := he
      cases hv : lvl (itD d) 0 ((s.length - 1 : Nat) : Int) with
      | inl i =>
        rw [hv] at he
        cases he
      | inr l =>
        rw [hv] at he
        have he := of_decide_eq_true he
        have go : ∀ {st : List Nat} {k : Ma → List Nat → Prop} {er : EK} {V : PyData}, st.length = s.length → StOk M st → V = .tuple (st.map nD) → (∀ r, after M (some st) (sgsOf d) = some r → k M r) → OkD V ∧ OkD d ∧ MaIn C_BadMachine (maD M) (fun M => StIn C_Refused M V (fun st => LvIn C_BadStream d ((st.length : Int) - 1) (fun l => (0 < l ∧ er (C_BadStream, .int ((itD d).length : Nat))) ∨ (l ≤ 0 ∧ ∀ r, after M (some st) (sgsOf d) = some r → k M r)) er) er) er := fun {st k er V} e1 kk e2 h => by
          subst e2
          refine ⟨OkN.ok (okn_T (n := 0) (all_m fun s _ => okn_int) (by rw [List.length_map]; omega)) (by decide), oV, .inl ⟨M, .inl rfl, ok, .inr ⟨(stk_ok kk).1, fun st' es' _ => ?_⟩⟩⟩
          cases nD_inj (show st.map nD = st'.map nD from es')
          rw [show (st.length : Int) - 1 = ((s.length - 1 : Nat) : Int) by omega]
          exact .inr ⟨hd, .inr ⟨l, hv, .inr ⟨he, h⟩⟩⟩
        refine go (k := fun M1 r => OkD (PyData.tuple (t.map nD)) ∧ OkD d ∧ MaIn C_BadMachine (maD M) (fun M2 => StIn C_Refused M2 (PyData.tuple (t.map nD)) (fun st => LvIn C_BadStream d ((st.length : Int) - 1) (fun l => (0 < l ∧ er (C_BadStream, .int ((itD d).length : Nat))) ∨ (l ≤ 0 ∧ ∀ r2, after M2 (some st) (sgsOf d) = some r2 → neD (ansOf M1 r) (ansOf M2 r2) fun z => Q z [Lc.sh a, Lc.sh b, Lc.sh c, Lc.sh d])) er) er) er) rfl ks rfl fun r hr => go (k := fun M2 r2 => neD (ansOf M r) (ansOf M2 r2) fun z => Q z [Lc.sh a, Lc.sh b, Lc.sh c, Lc.sh d]) (by omega) kt rfl fun r' hr' => ?_
        have e1 : comeTo M s d = M.an.getD (r.getD 0 0) [] := by unfold comeTo; rw [hr]; rfl
        have e2 : comeTo M t d = M.an.getD (r'.getD 0 0) [] := by unfold comeTo; rw [hr']; rfl
        unfold ansOf
        refine neD_of (sh_ans (by have := ans_len ok (r.getD 0 0); omega)) (sh_ans (by have := ans_len ok (r'.getD 0 0); omega)) ?_
        rw [eqv_ans, ← e1, ← e2]
        exact q
end
end Lw
set_option Elab.async false
set_option linter.all false
set_option maxRecDepth 100000
set_option maxHeartbeats 1000000
set_option pp.deepTerms true
set_option pp.maxSteps 200000
namespace Lw
open PySem PySem.Spec PyProof PyProof.Rows L2 So Da Dl
local macro_rules | `(tactic| walk_at "z") => `(tactic| repeat (first | refine ⟨(by decide), ?_⟩ | refine ⟨(by omega), ?_⟩ | refine ⟨rfl, ?_⟩))
section
variable {Z : Zw}
abbrev s_law_box : Stmt := top 91
theorem sc_law_box : FnScope ["script", "k", "cell", "great"] ["script", "k"] (defScope s_law_box) := ⟨rfl, rfl, rfl, by decide +kernel, rfl, by decide +kernel, by decide +kernel⟩
theorem item_int {ns : List Int} {j : Nat} (h : j < ns.length) : ∃ n, (ns.map V.int)[j]? = some (V.int n) := ⟨ns[j], by rw [List.getElem?_map, List.getElem?_eq_getElem h]; rfl⟩
theorem ok_law_box {f : Addr} {fd : FuncData} (F : Fun Z.K "_law_box" "_law_box" s_law_box f fd) (T : Tz Z.K Z.mg) : FnD Z.Pg Z.w Z.K Z.mg Z.base CX0 1 f fd ["script", "k"] (spO Z Tbox) := by
  refine box_T (.of (F.ok sc_law_box (fun vs H Q E h => ?_) (fun cdv A outer s H vs Q E hr h => ?_)))
  · obtain ⟨_, _, _, rfl, _⟩ := h
    rfl
  · obtain ⟨a, ns, k, rfl, hS, hlen, hk, kont⟩ := h
    refine ⟨_, pss_cons (ps_set (i := 2) sc_law_box.nd rfl (Or.inl rfl) (pe_op op_add (pe_op op_mul pe_int (pv 1)) pe_int))
      (pss_cons (ps_if (pt_cmpR op_lt (pv 1) (pe_callB call_len_seq (by rfl) T.len (by decide +kernel) (pa_cons (pv 0) pa_nil)) (nomark _))
        (pss_one (ps_set (i := 2) sc_law_box.nd rfl (Or.inl rfl) (pe_callB call_abs (by rfl) T.abs (by decide +kernel) (pa_cons (pe_callTy call_int1 (by rfl) T.int (by decide +kernel) (pa_cons (pe_ix ix_list (pv 0) (pv 1) (fun _ _ => rfl)) pa_nil)) pa_nil))))
        (pss_one (ps_if (pt_cmpR op_gt (pe_callB call_len_seq (by rfl) T.len (by decide +kernel) (pa_cons (pv 0) pa_nil)) pe_int (nomark _))
          (pss_one (ps_set (i := 2) sc_law_box.nd rfl (Or.inl rfl) (pe_op op_add (pv 2) (pe_op op_mul (pe_op op_mod (pe_callTy call_int1 (by rfl) T.int (by decide +kernel) (pa_cons (pe_callB call_abs (by rfl) T.abs (by decide +kernel) (pa_cons (pe_callTy call_int1 (by rfl) T.int (by decide +kernel)
              (pa_cons (pe_ix ix_list (pv 0) (pe_op op_mod (pe_callTy call_int1 (by rfl) T.int (by decide +kernel) (pa_cons (pv 1) pa_nil)) (pe_callB call_len_seq (by rfl) T.len (by decide +kernel) (pa_cons (pv 0) pa_nil))) (fun _ _ => rfl)) pa_nil)) pa_nil)) pa_nil)) pe_int) pe_int))))
          pss_nil)))
      (pss_cons (ps_set (i := 3) sc_law_box.nd rfl (Or.inl rfl) (pe_ifExp (pt_cmpR op_ge (pv 2) (pe_op op_pow pe_int pe_int) (nomark _)) (pv 2) pe_int))
      (pss_one (ps_ret (pe_lst (pa_cons (pv 3) (pa_cons (pe_op op_add (pe_op op_mod (pe_callTy call_int1 (by rfl) T.int (by decide +kernel) (pa_cons (pe_op op_add (pe_op op_mul (pe_op op_mod (pe_callTy call_int1 (by rfl) T.int (by decide +kernel) (pa_cons (pv 2) pa_nil)) pe_int) pe_int) (pe_op op_mul pe_int (pv 1))) pa_nil)) pe_int) pe_int) pa_nil))))))), ?_⟩
    refine ⟨_, rfl, _, _, rfl, rfl, .inl ⟨(by show -(2 ^ 64) < (7673 : Int); decide), (by show (7673 : Int) < 2 ^ 64; decide)⟩, _, _, rfl, rfl, ?_⟩
    refine ⟨_, rfl, _, rfl, a, _, rfl, .inl hS, _, _, rfl, rfl, _, rfl, ?_⟩
    refine ite2 (fun h1 => ?_) (fun h1 => ?_)
    · have h1' : (k : Int) < ((ns.map V.int).length : Nat) := of_decide_eq_true h1
      rw [List.length_map] at h1'
      obtain ⟨n, hn⟩ := item_int (ns := ns) (j := k) (by omega)
      refine ⟨_, rfl, _, rfl, a, _, _, _, rfl, rfl, hS, atI_nat hn, .inl ⟨_, rfl, _, rfl, ?_⟩⟩
      have c0 : 0 ≤ (if n < 0 then -n else n) := by split <;> omega
      generalize (if n < 0 then -n else n) = c at c0
      refine ⟨_, rfl, _, _, rfl, rfl, ⟨by decide, by decide, by decide⟩, _, _, rfl, rfl, _, rfl, ?_⟩
      refine ite2 (fun _ => ?_) (fun _ => ?_)
      · refine ⟨_, rfl, ?_⟩
        refine ⟨_, rfl, _, rfl, .inl ⟨_, rfl, _, _, rfl, rfl, (by show (0 : Int) < 2147483587; decide), _, _, rfl, rfl, .inr ⟨(by show -(2 ^ 64) < (69069 : Int); decide), (by show (69069 : Int) < 2 ^ 64; decide)⟩, _, rfl, _, _, rfl, rfl, .inl ⟨(by show -(2 ^ 64) < (1451 : Int); decide), (by show (1451 : Int) < 2 ^ 64; decide)⟩, _, _, rfl, rfl, .inl ⟨_, rfl, _, _, rfl, rfl, (by show (0 : Int) < 2147483587; decide), _, _, rfl, rfl, (by show 2 ≤ sizeLine; decide), fun q hq => ?_⟩⟩⟩
        exact kont q _ _ (c0) (by omega) (by omega) hq
      · refine ⟨_, rfl, _, rfl, .inl ⟨_, rfl, _, _, rfl, rfl, (by show (0 : Int) < 2147483587; decide), _, _, rfl, rfl, .inr ⟨(by show -(2 ^ 64) < (69069 : Int); decide), (by show (69069 : Int) < 2 ^ 64; decide)⟩, _, rfl, _, _, rfl, rfl, .inl ⟨(by show -(2 ^ 64) < (1451 : Int); decide), (by show (1451 : Int) < 2 ^ 64; decide)⟩, _, _, rfl, rfl, .inl ⟨_, rfl, _, _, rfl, rfl, (by show (0 : Int) < 2147483587; decide), _, _, rfl, rfl, (by show 2 ≤ sizeLine; decide), fun q hq => ?_⟩⟩⟩
        exact kont q _ _ (Int.le_refl 0) (by omega) (by omega) hq
    · refine ⟨_, rfl, a, _, rfl, .inl hS, _, _, rfl, rfl, _, rfl, ?_⟩
      have c1 : (0 : Int) ≤ 7673 * (k : Int) + 1451 := by omega
      refine ite2 (fun h2 => ?_) (fun h2 => ?_)
      · have h2' : ((ns.map V.int).length : Nat) > (0 : Int) := of_decide_eq_true h2
        rw [List.length_map] at h2'
        obtain ⟨n, hn⟩ := item_int (ns := ns) (j := k % ns.length) (Nat.mod_lt _ (by omega))
        have ej : (k : Int) % (((ns.map V.int).length : Nat) : Int) = ((k % ns.length : Nat) : Int) := by
          rw [List.length_map]
          exact (Int.natCast_emod k ns.length).symm
        have at2 : atI (ns.map V.int) ((k : Int) % (((ns.map V.int).length : Nat) : Int)) = some (V.int n) := by
          rw [ej]
          exact atI_nat hn
        refine ⟨_, rfl, _, rfl, _, rfl, .inl ⟨_, rfl, _, rfl, a, _, rfl, .inl hS, _, _, rfl, rfl, (by rw [List.length_map]; exact h2'), a, _, _, _, rfl, rfl, hS, at2, .inl ⟨_, rfl, _, rfl, .inl ⟨_, rfl, _, _, rfl, rfl, (by show (0 : Int) < 2147483587; decide), _, _, rfl, rfl, .inr ⟨(by show -(2 ^ 64) < (53381 : Int); decide), (by show (53381 : Int) < 2 ^ 64; decide)⟩, _, _, rfl, rfl, ?_⟩⟩⟩⟩
        have m0 : 0 ≤ (if n < 0 then -n else n) % 2147483587 := Int.emod_nonneg _ (by decide)
        have c0 : 0 ≤ 7673 * (k : Int) + 1451 + (if n < 0 then -n else n) % 2147483587 * 53381 := by omega
        refine ⟨_, rfl, _, _, rfl, rfl, ⟨by decide, by decide, by decide⟩, _, _, rfl, rfl, _, rfl, ?_⟩
        refine ite2 (fun _ => ?_) (fun _ => ?_)
        · refine ⟨_, rfl, ?_⟩
          refine ⟨_, rfl, _, rfl, .inl ⟨_, rfl, _, _, rfl, rfl, (by show (0 : Int) < 2147483587; decide), _, _, rfl, rfl, .inr ⟨(by show -(2 ^ 64) < (69069 : Int); decide), (by show (69069 : Int) < 2 ^ 64; decide)⟩, _, rfl, _, _, rfl, rfl, .inl ⟨(by show -(2 ^ 64) < (1451 : Int); decide), (by show (1451 : Int) < 2 ^ 64; decide)⟩, _, _, rfl, rfl, .inl ⟨_, rfl, _, _, rfl, rfl, (by show (0 : Int) < 2147483587; decide), _, _, rfl, rfl, (by show 2 ≤ sizeLine; decide), fun q hq => ?_⟩⟩⟩
          exact kont q _ _ (c0) (by omega) (by omega) hq
        · refine ⟨_, rfl, _, rfl, .inl ⟨_, rfl, _, _, rfl, rfl, (by show (0 : Int) < 2147483587; decide), _, _, rfl, rfl, .inr ⟨(by show -(2 ^ 64) < (69069 : Int); decide), (by show (69069 : Int) < 2 ^ 64; decide)⟩, _, rfl, _, _, rfl, rfl, .inl ⟨(by show -(2 ^ 64) < (1451 : Int); decide), (by show (1451 : Int) < 2 ^ 64; decide)⟩, _, _, rfl, rfl, .inl ⟨_, rfl, _, _, rfl, rfl, (by show (0 : Int) < 2147483587; decide), _, _, rfl, rfl, (by show 2 ≤ sizeLine; decide), fun q hq => ?_⟩⟩⟩
          exact kont q _ _ (Int.le_refl 0) (by omega) (by omega) hq
      · refine ⟨_, rfl, _, _, rfl, rfl, ⟨by decide, by decide, by decide⟩, _, _, rfl, rfl, _, rfl, ?_⟩
        refine ite2 (fun _ => ?_) (fun _ => ?_)
        · refine ⟨_, rfl, ?_⟩
          refine ⟨_, rfl, _, rfl, .inl ⟨_, rfl, _, _, rfl, rfl, (by show (0 : Int) < 2147483587; decide), _, _, rfl, rfl, .inr ⟨(by show -(2 ^ 64) < (69069 : Int); decide), (by show (69069 : Int) < 2 ^ 64; decide)⟩, _, rfl, _, _, rfl, rfl, .inl ⟨(by show -(2 ^ 64) < (1451 : Int); decide), (by show (1451 : Int) < 2 ^ 64; decide)⟩, _, _, rfl, rfl, .inl ⟨_, rfl, _, _, rfl, rfl, (by show (0 : Int) < 2147483587; decide), _, _, rfl, rfl, (by show 2 ≤ sizeLine; decide), fun q hq => ?_⟩⟩⟩
          exact kont q _ _ (c1) (by omega) (by omega) hq
        · refine ⟨_, rfl, _, rfl, .inl ⟨_, rfl, _, _, rfl, rfl, (by show (0 : Int) < 2147483587; decide), _, _, rfl, rfl, .inr ⟨(by show -(2 ^ 64) < (69069 : Int); decide), (by show (69069 : Int) < 2 ^ 64; decide)⟩, _, rfl, _, _, rfl, rfl, .inl ⟨(by show -(2 ^ 64) < (1451 : Int); decide), (by show (1451 : Int) < 2 ^ 64; decide)⟩, _, _, rfl, rfl, .inl ⟨_, rfl, _, _, rfl, rfl, (by show (0 : Int) < 2147483587; decide), _, _, rfl, rfl, (by show 2 ≤ sizeLine; decide), fun q hq => ?_⟩⟩⟩
          exact kont q _ _ (Int.le_refl 0) (by omega) (by omega) hq
abbrev s_law_take : Stmt := top 92
theorem sc_law_take : FnScope ["box", "many", "digit", "raw"] ["box", "many"] (defScope s_law_take) := ⟨rfl, rfl, rfl, by decide +kernel, rfl, by decide +kernel, by decide +kernel⟩
theorem ok_law_take {f : Addr} {fd : FuncData} (F : Fun Z.K "_law_take" "_law_take" s_law_take f fd) (T : Tz Z.K Z.mg) : FnD Z.Pg Z.w Z.K Z.mg Z.base CX0 1 f fd ["box", "many"] (spT Z Ttake) := by
  refine take_T (.of (F.ok sc_law_take (fun vs H Q E h => ?_) (fun cdv A outer s H vs Q E hr h => ?_)))
  · obtain ⟨_, _, _, _, rfl, _⟩ := h
    rfl
  · obtain ⟨b, n, g, z, rfl, ⟨hb, hg, hz, hz2⟩, hn, hn2, kont⟩ := h
    refine ⟨_, pss_cons (ps_if (pt_cmpR op_gt (pe_ix ix_list (pv 0) pe_int (fun _ _ => rfl)) pe_int (nomark _))
        (pss_cons (ps_set (i := 2) sc_law_take.nd rfl (Or.inl rfl) (pe_op op_mod (pe_callTy call_int1 (by rfl) T.int (by decide +kernel) (pa_cons (pe_ix ix_list (pv 0) pe_int (fun _ _ => rfl)) pa_nil)) (pv 1)))
        (pss_cons (ps_asg (pe_op op_fdiv (pe_ix ix_list (pv 0) pe_int (fun _ _ => rfl)) (pv 1)) (pg_sub (pv 0) pe_int set_list))
        (pss_one (ps_ret (pv 2))))) pss_nil)
      (pss_cons (ps_set (i := 3) sc_law_take.nd rfl (Or.inl rfl) (pe_op op_mod (pe_callTy call_int1 (by rfl) T.int (by decide +kernel) (pa_cons (pe_op op_add (pe_op op_mul (pe_ix ix_list (pv 0) pe_int (fun _ _ => rfl)) pe_int) pe_int) pa_nil)) pe_int))
      (pss_cons (ps_asg (pe_op op_add (pe_op op_mod (pe_callTy call_int1 (by rfl) T.int (by decide +kernel) (pa_cons (pe_op op_add (pe_op op_mul (pv 3) pe_int) pe_int) pa_nil)) pe_int) pe_int) (pg_sub (pv 0) pe_int set_list))
      (pss_one (ps_ret (pe_op op_mod (pe_callTy call_int1 (by rfl) T.int (by decide +kernel) (pa_cons (pe_op op_fdiv (pe_op op_add (pe_op op_mul (pv 3) pe_int) (pe_ix ix_list (pv 0) pe_int (fun _ _ => rfl))) pe_int) pa_nil)) (pv 1)))))), ?_⟩
    refine ⟨_, rfl, b, _, _, _, rfl, rfl, SqL.of hb, atI_nat (j := 0) rfl, _, _, rfl, rfl, _, rfl, ?_⟩
    refine ite2 (fun _ => ?_) (fun _ => ?_)
    · refine ⟨_, rfl, b, _, _, _, rfl, rfl, SqL.of hb, atI_nat (j := 0) rfl, .inl ⟨_, rfl, _, rfl, _, _, rfl, rfl, hn, ?_⟩⟩
      refine ⟨_, rfl, b, _, _, _, rfl, rfl, SqL.of hb, atI_nat (j := 0) rfl, _, rfl, _, _, rfl, rfl, ⟨hn, by omega⟩, ?_⟩
      refine ⟨_, rfl, b, _, _, 0, rfl, rfl, hb, rfl, ?_⟩
      refine ⟨_, rfl, ?_⟩
      exact kont _ (g / n) z (Int.emod_nonneg _ (by omega)) (Int.emod_lt_of_pos _ hn) (Int.ediv_nonneg hg (by omega)) hz hz2
    · refine ⟨_, rfl, b, _, _, _, rfl, rfl, SqL.of hb, atI_nat (j := 1) rfl, _, _, rfl, rfl, .inr ⟨(by show -(2 ^ 64) < (40692 : Int); decide), (by show (40692 : Int) < 2 ^ 64; decide)⟩, _, _, rfl, rfl, .inl ⟨_, rfl, _, _, rfl, rfl, (by show (0 : Int) < 2147483399; decide), ?_⟩⟩
      refine ⟨_, rfl, _, _, rfl, rfl, .inr ⟨(by show -(2 ^ 64) < (40014 : Int); decide), (by show (40014 : Int) < 2 ^ 64; decide)⟩, _, _, rfl, rfl, .inl ⟨_, rfl, _, _, rfl, rfl, (by show (0 : Int) < 2147483587; decide), _, _, rfl, rfl, ?_⟩⟩
      refine ⟨_, rfl, b, _, _, 1, rfl, rfl, hb, rfl, ?_⟩
      refine ⟨_, rfl, _, _, rfl, rfl, .inr ⟨(by show -(2 ^ 64) < (2147483629 : Int); decide), (by show (2147483629 : Int) < 2 ^ 64; decide)⟩, _, rfl, b, _, _, _, rfl, rfl, SqL.of upd_same, atI_nat (j := 1) rfl, _, _, rfl, rfl, _, _, rfl, rfl, ⟨by decide, by decide⟩, .inl ⟨_, rfl, _, rfl, _, _, rfl, rfl, hn, ?_⟩⟩
      exact kont _ g _ (Int.emod_nonneg _ (by omega)) (Int.emod_lt_of_pos _ hn) hg (by omega) (by omega)
end
end Lw
set_option Elab.async false
set_option linter.all false
set_option maxRecDepth 100000
set_option maxHeartbeats 1000000
set_option pp.deepTerms true
set_option pp.maxSteps 200000
namespace Lw
open PySem PySem.Spec PyProof PyProof.Rows L2 So Da Dl
local macro_rules | `(tactic| walk_at "z") => `(tactic| repeat (first | refine ⟨(by decide), ?_⟩ | refine ⟨(by omega), ?_⟩ | refine ⟨rfl, ?_⟩))
section
variable {Z : Zw}
def T_law_pick : TD := fun as Q _ => match as with
  | [.ob b .box, .sh D] => isSq D = true ∧ 0 < (itD D).length ∧ (itD D).length < 1000 ∧ ∀ d ∈ itD D, Q d [.ob b .box, .sh D]
  | _ => False
abbrev s_law_pick : Stmt := top 93
theorem sc_law_pick : FnScope ["box", "some"] ["box", "some"] (defScope s_law_pick) := ⟨rfl, rfl, rfl, by decide +kernel, rfl, by decide +kernel, by decide +kernel⟩
local macro_rules | `(tactic| walk_at "d") => `(tactic| simp only [↓dSeq, ↓dFor, ↓reprD, ↓dCallK, ↓dIfS, ↓dAndV, ↓dOrV, ↓dUn, ↓dOp, ↓dC, ↓dVar, ↓derefW, ↓deref, ↓known, ↓noOb, ↓nbO, ↓start0, ↓endsOf, ↓outA, ↓toB, ↓dAnd, ↓dOr, ↓dNot, ↓ofB, ↓dIf, ↓dChain, ↓dgName, ↓dgSeq, ↓dgCons, ↓dgNil, ↓dLc, ↓popW, ↓atOl, ↓isOl, ↓ownS, ↓frzD, ↓dCall, argsOf, argLc, obSlots, upS, upO, ↓noObs, ↓wipeD, List.map_cons, List.map_nil, List.length_cons, List.length_nil, Nat.sub_self, Nat.zero_add, Nat.reduceAdd, Nat.reduceSub, List.replicate, List.append_nil, List.cons_append, List.nil_append, List.getElem?_cons_zero, List.getElem?_cons_succ, List.getElem?_nil, List.set, List.head?, List.tail, Option.getD_some, Option.getD_none, List.nodup_nil, List.nodup_cons, List.not_mem_nil, List.mem_cons, List.mem_singleton, or_false, Nat.reduceEqDiff, true_and, and_true, Bool.not_true, Bool.not_false, if_true, Bool.false_eq_true, if_false, ite_true, ite_false, not_false_eq_true, reduceCtorEq, eqD_int, eqD_str, eqD_bl, eqD_tuple, eqD_list, eqD_tupleR, eqD_listR, eqD_non, neD_int, neD_str, neD_bl, neD_tuple, neD_list, neD_tupleR, neD_listR, neD_non, ↓isD, ↓notD, ix_0, ix_1, ix_2, ix_3, ix_4, ix_L0, ix_L1, ix_L2, itemsD_L, itemsD_T, tupleD_L, tupleD_T, listD_L, listD_T, lenD_L, lenD_T, lenD_S, slD_L, slD_T, addD_I, addD_S, addD_T, addD_L, subD_I, mulD_I, ltD_I, ltD_S, leD_I, gtD_I, geD_I, modD_I, fdivD_I, powD_I, intD_I, intD_B, negD_I, isND_N, isND_I, isND_S, isND_B, isND_T, isND_L, sq_T, sq_L, sq_N, sq_I, sq_S, sq_B, at_0, at_1, at_2, at_3, at_4, ↓isiD, pick, List.filterMap_cons_some, List.filterMap_nil, List.filterMap_cons, ↓ownC, ↓T1, ↓T2, ↓T3, ↓T4, ↓dHeard, ↓capsD, ↓slotsD, ↓lamW, lamSto, cpLc, ↓dHeardS, ↓dAsks, ↓asksW, ↓heardT, ↓Tbox, ↓Ttake, ↓intW, ix_ma0, ix_ma1, ix_ma2, ix_ma3, ix_inn0, ix_inn1, ix_inn2, ix_inn3, ix_top0, ix_top1, ix_top2, ix_top3, ix_top4, ↓T_lead_on, ↓T_law_pick])
theorem ok_law_pick {f : Addr} {fd : FuncData} (F : Fun Z.K "_law_pick" "_law_pick" s_law_pick f fd) (T : Tz Z.K Z.mg)
    {f_law_take : Addr} {fd_law_take : FuncData} (D_law_take : Df Z.K Z.mg "_law_take" s_law_take ["box", "many"] f_law_take fd_law_take) (G_law_take : FnD Z.Pg Z.w Z.K Z.mg Z.base CX0 1 f_law_take fd_law_take ["box", "many"] (spT Z (Ttake))) : FnD Z.Pg Z.w Z.K Z.mg Z.base CX0 2 f fd ["box", "some"] (spT Z (T_law_pick)) := by
  refine okD F sc_law_pick (fun as Q er h => ?_) (fun cdv A outer s H E G0 ca hr hgd hca => (dss_one (ds_ret (de_ix (dr_var 1) (dr_of (de_call G_law_take hr hgd (by rfl) D_law_take.g D_law_take.F.kp D_law_take.b (drs_cons (dr_var 0) (drs_cons (dr_of (de_callB call_lenA cd_len (by rfl) T.len (by decide +kernel) (dr_var 1))) drs_nil)))))))) (fun ca as Q er h => ?_)
  · unfold T_law_pick at h
    split at h
    · rfl
    · exact h.elim
  · unfold T_law_pick at h
    split at h
    · rename_i b D
      obtain ⟨hs, h0, h1, q⟩ := h
      have fin : ∀ r : Int, 0 ≤ r → r < ((itD D).length : Nat) → ∃ d, d ∈ itD D ∧ atI (itD D) r = some d := fun r r0 r1 => by
        obtain ⟨j, rfl⟩ : ∃ j : Nat, r = (j : Int) := ⟨r.toNat, by omega⟩
        have hj : j < (itD D).length := by omega
        exact ⟨_, List.getElem_mem hj, atI_nat (List.getElem?_eq_getElem hj)⟩
      obtain ⟨ds, rfl | rfl⟩ : ∃ ds, D = .list ds ∨ D = .tuple ds := (by cases D <;> first | exact ⟨_, .inl rfl⟩ | exact ⟨_, .inr rfl⟩ | cases hs) <;> (
        walk_at "d"
        simp only [itD] at h0 h1 q fin
        refine ⟨by omega, by omega, fun r r0 r1 => ?_⟩
        obtain ⟨d, m, e⟩ := fin r r0 r1
        simp only [ixD, e]
        exact q d m)
    · exact h.elim
theorem paired_of {α : Type} {f : α → PyData} {p : α → Prop} : ∀ {ds acc : List PyData}, Paired (fun _ y => ∃ x, y = f x ∧ p x) ds acc → ∃ xs : List α, acc = xs.map f ∧ xs.length = ds.length ∧ ∀ x ∈ xs, p x
  | [], [], _ => ⟨[], rfl, rfl, fun _ m => nomatch m⟩
  | _ :: ds, _ :: acc, .cons ⟨x, e1, hx⟩ h2 => by
    subst e1
    obtain ⟨xs, rfl, e, hp⟩ := paired_of h2
    exact ⟨x :: xs, rfl, congrArg Nat.succ e, fun y m => (List.mem_cons.mp m).elim (fun z => z ▸ hx) (hp y)⟩
theorem rng_len {m : Nat} : (rngD 0 ((m : Nat) : Int).toNat).length = m := by
  unfold rngD
  rw [List.length_map, List.length_range, Int.toNat_natCast]
theorem lcW_of {α : Type} {ρw : Sto} {vs : List Nat} {g : DTG} {te : DTE} {Q : List PyData → Prop} {ds : List PyData} (f : α → PyData) (p : α → Prop) (hl : ds.length ≤ 1000000)
    (h : ∀ d ∈ ds, ∀ (R : PyData → Prop), (∀ x, p x → R (f x)) → g d ρw fun ρ2 => te ρ2 fun y ρ3 => (noObs ρ3 vs ∧ wipeD ρ3 vs = ρw) ∧ R y)
    (hq : ∀ xs : List α, xs.length = ds.length → (∀ x ∈ xs, p x) → Q (xs.map f)) : lcW ρw vs g (fun ρ Q => Q true ρ) te ds [] Q :=
  lcW_rel (fun _ y => ∃ x, y = f x ∧ p x) hl (fun d hd R hR => h d hd R fun x hx => hR _ ⟨x, rfl, hx⟩) fun acc ha => by
    obtain ⟨xs, rfl, e, hp⟩ := paired_of ha
    exact hq xs e hp
end
end Lw
set_option Elab.async false
set_option linter.all false
set_option maxRecDepth 100000
set_option maxHeartbeats 1000000
set_option pp.deepTerms true
set_option pp.maxSteps 200000
namespace Lw
open PySem PySem.Spec PyProof PyProof.Rows L2 So Da Dl
local macro_rules | `(tactic| walk_at "z") => `(tactic| repeat (first | refine ⟨(by decide), ?_⟩ | refine ⟨(by omega), ?_⟩ | refine ⟨rfl, ?_⟩))
section
variable {Z : Zw}
theorem rng_in {m : Nat} {d : PyData} (h : d ∈ rngD 0 ((m : Nat) : Int).toNat) : ∃ j : Nat, d = .int (j : Nat) ∧ j < m := by
  unfold rngD at h
  obtain ⟨j, hj, rfl⟩ := List.mem_map.mp h
  rw [Int.toNat_natCast] at hj
  exact ⟨j, by simp, List.mem_range.mp hj⟩
def T_law_map : TD := fun as Q _ => match as with
  | [.ob b .box, .sh (.int m)] => ∃ k : Nat, m = (k : Int) ∧ 0 < k ∧ k ≤ 1000 ∧ ∀ r, mapOk r k k → Q (rowD r) [.ob b .box, .sh (.int m)]
  | _ => False
abbrev s_law_map : Stmt := top 94
theorem sc_law_map : FnScope ["box", "many", "state"] ["box", "many"] (defScope s_law_map) := ⟨rfl, rfl, rfl, by decide +kernel, rfl, by decide +kernel, by decide +kernel⟩
local macro_rules | `(tactic| walk_at "d") => `(tactic| simp only [↓dSeq, ↓dFor, ↓reprD, ↓dCallK, ↓dIfS, ↓dAndV, ↓dOrV, ↓dUn, ↓dOp, ↓dC, ↓dVar, ↓derefW, ↓deref, ↓known, ↓noOb, ↓nbO, ↓start0, ↓endsOf, ↓outA, ↓toB, ↓dAnd, ↓dOr, ↓dNot, ↓ofB, ↓dIf, ↓dChain, ↓dgName, ↓dgSeq, ↓dgCons, ↓dgNil, ↓dLc, ↓popW, ↓atOl, ↓isOl, ↓ownS, ↓frzD, ↓dCall, argsOf, argLc, obSlots, upS, upO, ↓noObs, ↓wipeD, List.map_cons, List.map_nil, List.length_cons, List.length_nil, Nat.sub_self, Nat.zero_add, Nat.reduceAdd, Nat.reduceSub, List.replicate, List.append_nil, List.cons_append, List.nil_append, List.getElem?_cons_zero, List.getElem?_cons_succ, List.getElem?_nil, List.set, List.head?, List.tail, Option.getD_some, Option.getD_none, List.nodup_nil, List.nodup_cons, List.not_mem_nil, List.mem_cons, List.mem_singleton, or_false, Nat.reduceEqDiff, true_and, and_true, Bool.not_true, Bool.not_false, if_true, Bool.false_eq_true, if_false, ite_true, ite_false, not_false_eq_true, reduceCtorEq, eqD_int, eqD_str, eqD_bl, eqD_tuple, eqD_list, eqD_tupleR, eqD_listR, eqD_non, neD_int, neD_str, neD_bl, neD_tuple, neD_list, neD_tupleR, neD_listR, neD_non, ↓isD, ↓notD, ix_0, ix_1, ix_2, ix_3, ix_4, ix_L0, ix_L1, ix_L2, itemsD_L, itemsD_T, tupleD_L, tupleD_T, listD_L, listD_T, lenD_L, lenD_T, lenD_S, slD_L, slD_T, addD_I, addD_S, addD_T, addD_L, subD_I, mulD_I, ltD_I, ltD_S, leD_I, gtD_I, geD_I, modD_I, fdivD_I, powD_I, intD_I, intD_B, negD_I, isND_N, isND_I, isND_S, isND_B, isND_T, isND_L, sq_T, sq_L, sq_N, sq_I, sq_S, sq_B, at_0, at_1, at_2, at_3, at_4, ↓isiD, pick, List.filterMap_cons_some, List.filterMap_nil, List.filterMap_cons, ↓ownC, ↓T1, ↓T2, ↓T3, ↓T4, ↓dHeard, ↓capsD, ↓slotsD, ↓lamW, lamSto, cpLc, ↓dHeardS, ↓dAsks, ↓asksW, ↓heardT, ↓Tbox, ↓Ttake, ↓intW, ix_ma0, ix_ma1, ix_ma2, ix_ma3, ix_inn0, ix_inn1, ix_inn2, ix_inn3, ix_top0, ix_top1, ix_top2, ix_top3, ix_top4, ↓T_lead_on, ↓T_law_pick, ↓T_law_map])
theorem ok_law_map {f : Addr} {fd : FuncData} (F : Fun Z.K "_law_map" "_law_map" s_law_map f fd) (T : Tz Z.K Z.mg)
    {f_law_pick : Addr} {fd_law_pick : FuncData} (D_law_pick : Df Z.K Z.mg "_law_pick" s_law_pick ["box", "some"] f_law_pick fd_law_pick) (G_law_pick : FnD Z.Pg Z.w Z.K Z.mg Z.base CX0 2 f_law_pick fd_law_pick ["box", "some"] (spT Z (T_law_pick)))
    {f_law_take : Addr} {fd_law_take : FuncData} (D_law_take : Df Z.K Z.mg "_law_take" s_law_take ["box", "many"] f_law_take fd_law_take) (G_law_take : FnD Z.Pg Z.w Z.K Z.mg Z.base CX0 2 f_law_take fd_law_take ["box", "many"] (spT Z (Ttake))) : FnD Z.Pg Z.w Z.K Z.mg Z.base CX0 3 f fd ["box", "many"] (spT Z (T_law_map)) := by
  refine okD F sc_law_map (fun as Q er h => ?_) (fun cdv A outer s H E G0 ca hr hgd hca => (dss_one (ds_ret (de_callTy call_tupleF cd_tuple (by rfl) T.tuple (by decide +kernel) (dr_of (de_of_df (df_lc (own := [("state", 2)]) rfl sc_law_map.nd (di_range (by rfl) T.range (de_var 1)) (blkOk_by (own := [("state", 2)]) (N := ["box", "many", "state"]) (sc := defScope s_law_map) (by decide +kernel)) (fun _ _ _ _ _ => (dg_name (i := 2) sc_law_map.nd rfl (Or.inl rfl))) (fun _ _ _ _ _ => dts_nil) (fun _ _ _ _ _ => (de_call G_law_pick hr hgd (by rfl) D_law_pick.g D_law_pick.F.kp D_law_pick.b (drs_cons (dr_var 0) (drs_cons (dr_of (de_of_df (df_lst (da_cons (de_var 2) (da_cons (de_call G_law_take hr hgd (by rfl) D_law_take.g D_law_take.F.kp D_law_take.b (drs_cons (dr_var 0) (drs_cons (dr_var 1) drs_nil))) da_nil))))) drs_nil))))))))))) (fun ca as Q er h => ?_)
  · unfold T_law_map at h
    split at h
    · rfl
    · exact h.elim
  · unfold T_law_map at h
    split at h
    · rename_i b m
      obtain ⟨k, rfl, h0, h1, q⟩ := h
      walk_at "d"
      refine ⟨by omega, by omega, lcW_of nD (fun s => s < k) (by rw [rng_len]; omega) (fun d hd R hR => ?_) fun r hl hr => ?_⟩
      · obtain ⟨j, rfl, hj⟩ := rng_in hd
        walk_at "d"
        refine ⟨by omega, by omega, fun s s0 s1 => ⟨by decide, Nat.zero_lt_succ 1, (by show (2 : Nat) < 1000; decide), fun d hd => ?_⟩⟩
        obtain ⟨u, rfl⟩ : ∃ u : Nat, s = (u : Int) := ⟨s.toNat, by omega⟩
        simp only [itD, List.mem_cons, List.not_mem_nil, or_false] at hd
        rcases hd with rfl | rfl
        · exact hR j hj
        · exact hR u (by omega)
      · exact q r ⟨by rw [hl, rng_len], hr⟩
    · exact h.elim
def LawX (xs : List Str) : Prop := xs = [] ∨ xs = [("x" : Str)]
theorem pick_x {d : PyData} (h : d ∈ [PyData.tuple [], .tuple [.str "x"]]) : ∃ ls, LawX ls ∧ d = .tuple (ls.map .str) := by
  simp only [List.mem_cons, List.not_mem_nil, or_false] at h
  rcases h with rfl | rfl
  · exact ⟨_, .inl rfl, rfl⟩
  · exact ⟨_, .inr rfl, rfl⟩
theorem lawX_ok {ls : List Str} (h : LawX ls) : ls.length ≤ 4 ∧ (∀ z ∈ ls, z.length ≤ 65535) ∧ asc ls = true := by
  rcases h with rfl | rfl <;> decide +kernel
def LawM (M : Ma) : Prop := M.ls = [("a" : Str)] ∧ LawX M.xs ∧ M.im ≤ 20 ∧ M.tn ≤ 20
def T_law_machine : TD := fun as Q _ => match as with
  | [.ob b .box, .sh (.int i), .sh (.int t)] => ∃ n m : Nat, i = (n : Int) ∧ t = (m : Int) ∧ 0 < n ∧ n ≤ 20 ∧ 0 < m ∧ m ≤ 20 ∧ ∀ M, MaOk M → LawM M ∧ M.im = n ∧ M.tn = m → Q (maD M) [.ob b .box, .sh (.int i), .sh (.int t)]
  | _ => False
abbrev s_law_machine : Stmt := top 95
theorem sc_law_machine : FnScope ["box", "inner", "top", "texts", "kinds", "inner_text", "inner_child", "top_text", "top_child", "answers", "starts", "kind", "child", "state"] ["box", "inner", "top"] (defScope s_law_machine) := ⟨rfl, rfl, rfl, by decide +kernel, rfl, by decide +kernel, by decide +kernel⟩
local macro_rules | `(tactic| walk_at "d") => `(tactic| simp only [↓dSeq, ↓dFor, ↓reprD, ↓dCallK, ↓dIfS, ↓dAndV, ↓dOrV, ↓dUn, ↓dOp, ↓dC, ↓dVar, ↓derefW, ↓deref, ↓known, ↓noOb, ↓nbO, ↓start0, ↓endsOf, ↓outA, ↓toB, ↓dAnd, ↓dOr, ↓dNot, ↓ofB, ↓dIf, ↓dChain, ↓dgName, ↓dgSeq, ↓dgCons, ↓dgNil, ↓dLc, ↓popW, ↓atOl, ↓isOl, ↓ownS, ↓frzD, ↓dCall, argsOf, argLc, obSlots, upS, upO, ↓noObs, ↓wipeD, List.map_cons, List.map_nil, List.length_cons, List.length_nil, Nat.sub_self, Nat.zero_add, Nat.reduceAdd, Nat.reduceSub, List.replicate, List.append_nil, List.cons_append, List.nil_append, List.getElem?_cons_zero, List.getElem?_cons_succ, List.getElem?_nil, List.set, List.head?, List.tail, Option.getD_some, Option.getD_none, List.nodup_nil, List.nodup_cons, List.not_mem_nil, List.mem_cons, List.mem_singleton, or_false, Nat.reduceEqDiff, true_and, and_true, Bool.not_true, Bool.not_false, if_true, Bool.false_eq_true, if_false, ite_true, ite_false, not_false_eq_true, reduceCtorEq, eqD_int, eqD_str, eqD_bl, eqD_tuple, eqD_list, eqD_tupleR, eqD_listR, eqD_non, neD_int, neD_str, neD_bl, neD_tuple, neD_list, neD_tupleR, neD_listR, neD_non, ↓isD, ↓notD, ix_0, ix_1, ix_2, ix_3, ix_4, ix_L0, ix_L1, ix_L2, itemsD_L, itemsD_T, tupleD_L, tupleD_T, listD_L, listD_T, lenD_L, lenD_T, lenD_S, slD_L, slD_T, addD_I, addD_S, addD_T, addD_L, subD_I, mulD_I, ltD_I, ltD_S, leD_I, gtD_I, geD_I, modD_I, fdivD_I, powD_I, intD_I, intD_B, negD_I, isND_N, isND_I, isND_S, isND_B, isND_T, isND_L, sq_T, sq_L, sq_N, sq_I, sq_S, sq_B, at_0, at_1, at_2, at_3, at_4, ↓isiD, pick, List.filterMap_cons_some, List.filterMap_nil, List.filterMap_cons, ↓ownC, ↓T1, ↓T2, ↓T3, ↓T4, ↓dHeard, ↓capsD, ↓slotsD, ↓lamW, lamSto, cpLc, ↓dHeardS, ↓dAsks, ↓asksW, ↓heardT, ↓Tbox, ↓Ttake, ↓intW, ix_ma0, ix_ma1, ix_ma2, ix_ma3, ix_inn0, ix_inn1, ix_inn2, ix_inn3, ix_top0, ix_top1, ix_top2, ix_top3, ix_top4, ↓T_lead_on, ↓T_law_pick, ↓T_law_map, ↓T_law_machine])
theorem ok_law_machine {f : Addr} {fd : FuncData} (F : Fun Z.K "_law_machine" "_law_machine" s_law_machine f fd) (T : Tz Z.K Z.mg)
    {f_law_pick : Addr} {fd_law_pick : FuncData} (D_law_pick : Df Z.K Z.mg "_law_pick" s_law_pick ["box", "some"] f_law_pick fd_law_pick) (G_law_pick : FnD Z.Pg Z.w Z.K Z.mg Z.base CX0 3 f_law_pick fd_law_pick ["box", "some"] (spT Z (T_law_pick)))
    {f_law_map : Addr} {fd_law_map : FuncData} (D_law_map : Df Z.K Z.mg "_law_map" s_law_map ["box", "many"] f_law_map fd_law_map) (G_law_map : FnD Z.Pg Z.w Z.K Z.mg Z.base CX0 3 f_law_map fd_law_map ["box", "many"] (spT Z (T_law_map)))
    {f_law_take : Addr} {fd_law_take : FuncData} (D_law_take : Df Z.K Z.mg "_law_take" s_law_take ["box", "many"] f_law_take fd_law_take) (G_law_take : FnD Z.Pg Z.w Z.K Z.mg Z.base CX0 3 f_law_take fd_law_take ["box", "many"] (spT Z (Ttake))) : FnD Z.Pg Z.w Z.K Z.mg Z.base CX0 4 f fd ["box", "inner", "top"] (spT Z (T_law_machine)) := by
  refine okD F sc_law_machine (fun as Q er h => ?_) (fun cdv A outer s H E G0 ca hr hgd hca => (dss_cons (ds_set (i := 3) sc_law_machine.nd rfl (Or.inl rfl) (de_call G_law_pick hr hgd (by rfl) D_law_pick.g D_law_pick.F.kp D_law_pick.b (drs_cons (dr_var 0) (drs_cons (dr_of (de_of_df (df_lst (da_cons (de_tup da_nil) (da_cons (de_tup (da_cons de_str da_nil)) da_nil))))) drs_nil))))
      (dss_cons (ds_set (i := 4) sc_law_machine.nd rfl (Or.inl rfl) (de_op op_addA od_add (dr_of (de_callB call_lenA cd_len (by rfl) T.len (by decide +kernel) (dr_var 3))) (dr_of de_int)))
      (dss_cons (ds_set (i := 5) sc_law_machine.nd rfl (Or.inl rfl) (de_callTy call_tupleF cd_tuple (by rfl) T.tuple (by decide +kernel) (dr_of (de_of_df (df_lc (own := [("kind", 11)]) rfl sc_law_machine.nd (di_range (by rfl) T.range (de_var 4)) (blkOk_by (own := [("kind", 11)]) (N := ["box", "inner", "top", "texts", "kinds", "inner_text", "inner_child", "top_text", "top_child", "answers", "starts", "kind", "child", "state"]) (sc := defScope s_law_machine) (by decide +kernel)) (fun _ _ _ _ _ => (dg_name (i := 11) sc_law_machine.nd rfl (Or.inl rfl))) (fun _ _ _ _ _ => dts_nil) (fun _ _ _ _ _ => (de_call G_law_map hr hgd (by rfl) D_law_map.g D_law_map.F.kp D_law_map.b (drs_cons (dr_var 0) (drs_cons (dr_var 1) drs_nil)))))))))
      (dss_cons (ds_set (i := 6) sc_law_machine.nd rfl (Or.inl rfl) (de_callTy call_tupleF cd_tuple (by rfl) T.tuple (by decide +kernel) (dr_of (de_of_df (df_lc (own := [("child", 12)]) rfl sc_law_machine.nd (di_range (by rfl) T.range (de_var 1)) (blkOk_by (own := [("child", 12)]) (N := ["box", "inner", "top", "texts", "kinds", "inner_text", "inner_child", "top_text", "top_child", "answers", "starts", "kind", "child", "state"]) (sc := defScope s_law_machine) (by decide +kernel)) (fun _ _ _ _ _ => (dg_name (i := 12) sc_law_machine.nd rfl (Or.inl rfl))) (fun _ _ _ _ _ => dts_nil) (fun _ _ _ _ _ => (de_call G_law_map hr hgd (by rfl) D_law_map.g D_law_map.F.kp D_law_map.b (drs_cons (dr_var 0) (drs_cons (dr_var 1) drs_nil)))))))))
      (dss_cons (ds_set (i := 7) sc_law_machine.nd rfl (Or.inl rfl) (de_callTy call_tupleF cd_tuple (by rfl) T.tuple (by decide +kernel) (dr_of (de_of_df (df_lc (own := [("kind", 11)]) rfl sc_law_machine.nd (di_range (by rfl) T.range (de_var 4)) (blkOk_by (own := [("kind", 11)]) (N := ["box", "inner", "top", "texts", "kinds", "inner_text", "inner_child", "top_text", "top_child", "answers", "starts", "kind", "child", "state"]) (sc := defScope s_law_machine) (by decide +kernel)) (fun _ _ _ _ _ => (dg_name (i := 11) sc_law_machine.nd rfl (Or.inl rfl))) (fun _ _ _ _ _ => dts_nil) (fun _ _ _ _ _ => (de_call G_law_map hr hgd (by rfl) D_law_map.g D_law_map.F.kp D_law_map.b (drs_cons (dr_var 0) (drs_cons (dr_var 2) drs_nil)))))))))
      (dss_cons (ds_set (i := 8) sc_law_machine.nd rfl (Or.inl rfl) (de_callTy call_tupleF cd_tuple (by rfl) T.tuple (by decide +kernel) (dr_of (de_of_df (df_lc (own := [("child", 12)]) rfl sc_law_machine.nd (di_range (by rfl) T.range (de_var 1)) (blkOk_by (own := [("child", 12)]) (N := ["box", "inner", "top", "texts", "kinds", "inner_text", "inner_child", "top_text", "top_child", "answers", "starts", "kind", "child", "state"]) (sc := defScope s_law_machine) (by decide +kernel)) (fun _ _ _ _ _ => (dg_name (i := 12) sc_law_machine.nd rfl (Or.inl rfl))) (fun _ _ _ _ _ => dts_nil) (fun _ _ _ _ _ => (de_call G_law_map hr hgd (by rfl) D_law_map.g D_law_map.F.kp D_law_map.b (drs_cons (dr_var 0) (drs_cons (dr_var 2) drs_nil)))))))))
      (dss_cons (ds_set (i := 9) sc_law_machine.nd rfl (Or.inl rfl) (de_callTy call_tupleF cd_tuple (by rfl) T.tuple (by decide +kernel) (dr_of (de_of_df (df_lc (own := [("state", 13)]) rfl sc_law_machine.nd (di_range (by rfl) T.range (de_var 2)) (blkOk_by (own := [("state", 13)]) (N := ["box", "inner", "top", "texts", "kinds", "inner_text", "inner_child", "top_text", "top_child", "answers", "starts", "kind", "child", "state"]) (sc := defScope s_law_machine) (by decide +kernel)) (fun _ _ _ _ _ => (dg_name (i := 13) sc_law_machine.nd rfl (Or.inl rfl))) (fun _ _ _ _ _ => dts_nil) (fun _ _ _ _ _ => (de_tup (da_cons (de_cmp (op_eqA hr.units) od_eq (dr_of (de_call G_law_take hr hgd (by rfl) D_law_take.g D_law_take.F.kp D_law_take.b (drs_cons (dr_var 0) (drs_cons (dr_of de_int) drs_nil)))) (dr_of de_int) (nomark _)) da_nil))))))))
      (dss_cons (ds_set (i := 10) sc_law_machine.nd rfl (Or.inl rfl) (de_callTy call_tupleF cd_tuple (by rfl) T.tuple (by decide +kernel) (dr_of (de_of_df (df_lc (own := [("kind", 11)]) rfl sc_law_machine.nd (di_range (by rfl) T.range de_int) (blkOk_by (own := [("kind", 11)]) (N := ["box", "inner", "top", "texts", "kinds", "inner_text", "inner_child", "top_text", "top_child", "answers", "starts", "kind", "child", "state"]) (sc := defScope s_law_machine) (by decide +kernel)) (fun _ _ _ _ _ => (dg_name (i := 11) sc_law_machine.nd rfl (Or.inl rfl))) (fun _ _ _ _ _ => dts_nil) (fun _ _ _ _ _ => (de_call G_law_take hr hgd (by rfl) D_law_take.g D_law_take.F.kp D_law_take.b (drs_cons (dr_var 0) (drs_cons (dr_var 1) drs_nil)))))))))
      (dss_one (ds_ret (de_tup (da_cons (de_tup (da_cons de_str da_nil)) (da_cons (de_var 3) (da_cons (de_tup (da_cons (de_var 2) (da_cons (de_call G_law_take hr hgd (by rfl) D_law_take.g D_law_take.F.kp D_law_take.b (drs_cons (dr_var 0) (drs_cons (dr_var 2) drs_nil))) (da_cons (de_var 7) (da_cons (de_var 8) (da_cons (de_var 9) da_nil)))))) (da_cons (de_tup (da_cons (de_var 1) (da_cons (de_var 10) (da_cons (de_var 5) (da_cons (de_var 6) da_nil))))) da_nil)))))))))))))))) (fun ca as Q er h => ?_)
  · unfold T_law_machine at h
    split at h
    · rfl
    · exact h.elim
  · unfold T_law_machine at h
    split at h
    · rename_i b i t
      obtain ⟨n, m, rfl, rfl, n0, n1, m0, m1, q⟩ := h
      walk_at "d"
      have b0 : 0 ≤ sizeLine := by decide
      have b1 : 1 ≤ sizeLine := by decide
      have b2 : 2 ≤ sizeLine := by decide
      have b4 : 4 ≤ sizeLine := by decide
      refine ⟨b0, b1, b2, by decide, by decide, fun d hd => ?_⟩
      obtain ⟨xs, hxs, rfl⟩ := pick_x hd
      obtain ⟨x4, txt, xa⟩ := lawX_ok hxs
      have e3 : (((xs.map PyData.str).length : Nat) : Int) + 1 = ((xs.length + 1 : Nat) : Int) := by rw [List.length_map]; omega
      have sz : ∀ {j : Nat}, j ≤ 24 → j < sizeLine := fun h => Nat.lt_of_le_of_lt h (by decide)
      walk_at "d"
      simp only [e3]
      refine ⟨by omega, by omega, lcW_of rowD (fun r => mapOk r n n) (by rw [rng_len]; omega) (fun d _ R hR => ?_) fun ix lix pix => ?_⟩
      · walk_at "d"
        exact ⟨n, rfl, by omega, by omega, fun r hr => hR r hr⟩
      refine ⟨by omega, by omega, lcW_of rowD (fun r => mapOk r n n) (by rw [rng_len]; omega) (fun d _ R hR => ?_) fun ic lic pic => ?_⟩
      · walk_at "d"
        exact ⟨n, rfl, by omega, by omega, fun r hr => hR r hr⟩
      refine ⟨by omega, by omega, lcW_of rowD (fun r => mapOk r m m) (by rw [rng_len]; omega) (fun d _ R hR => ?_) fun tx ltx ptx => ?_⟩
      · walk_at "d"
        exact ⟨m, rfl, by omega, by omega, fun r hr => hR r hr⟩
      refine ⟨by omega, by omega, lcW_of rowD (fun r => mapOk r m m) (by rw [rng_len]; omega) (fun d _ R hR => ?_) fun tc ltc ptc => ?_⟩
      · walk_at "d"
        exact ⟨m, rfl, by omega, by omega, fun r hr => hR r hr⟩
      refine ⟨by omega, by omega, lcW_of ansD (fun r => r.length = 1) (by rw [rng_len]; omega) (fun d _ R hR => ?_) fun an lan pan => ?_⟩
      · walk_at "d"
        exact ⟨by omega, by omega, fun r _ _ => ⟨b1, hR [decide (r = 0)] rfl⟩⟩
      rw [rng_len] at lix lic ltx ltc lan
      refine ⟨by omega, by omega, lcW_of nD (fun s => s < n) (by show (rngD 0 ((2 : Nat) : Int).toNat).length ≤ _; rw [rng_len]; decide) (fun d _ R hR => ?_) fun st lst pst => ?_⟩
      · walk_at "d"
        refine ⟨by omega, by omega, fun s s0 s1 => ?_⟩
        obtain ⟨j, rfl⟩ : ∃ j : Nat, s = (j : Int) := ⟨s.toNat, by omega⟩
        exact hR j (by omega)
      have lst : st.length = 2 := lst.trans (rng_len (m := 2))
      refine ⟨b1, by omega, by omega, fun t0 u0 u1 => ⟨by decide, b4, b4, ?_⟩⟩
      obtain ⟨t0, rfl⟩ : ∃ j : Nat, t0 = (j : Int) := ⟨t0.toNat, by omega⟩
      exact q ⟨["a"], xs, m, t0, tx, tc, an, n, st, ix, ic⟩ ⟨(by show (1 : Nat) ≤ 6; decide), (by show [("a" : Str)].all isLab = true; decide +kernel), (by show asc [("a" : Str)] = true; decide +kernel), x4, txt, xa, ⟨(by show 1 ≤ m; omega), (by show m ≤ 200; omega)⟩, (by show t0 < m; omega), ⟨ltx, ptx⟩, ⟨ltc, ptc⟩, lan, ⟨1, by omega, by omega, pan⟩, ⟨(by show 1 ≤ n; omega), (by show n ≤ 200; omega)⟩, ⟨lst, pst⟩, ⟨lix, pix⟩, ⟨lic, pic⟩⟩ ⟨⟨rfl, hxs, n1, m1⟩, rfl, rfl⟩
    · exact h.elim
end
end Lw
set_option Elab.async false
set_option linter.all false
set_option maxRecDepth 100000
set_option maxHeartbeats 1000000
set_option pp.deepTerms true
set_option pp.maxSteps 200000
namespace Lw
open PySem PySem.Spec PyProof PyProof.Rows L2 So Da Dl
local macro_rules | `(tactic| walk_at "z") => `(tactic| repeat (first | refine ⟨(by decide), ?_⟩ | refine ⟨(by omega), ?_⟩ | refine ⟨rfl, ?_⟩))
section
variable {Z : Zw}
theorem any_str {L : List Str} {z : Str} : ((L.map PyData.str).any fun y => PyData.eqv y (.str z)) = decide (z ∈ L) := by
  induction L with
  | nil => rfl
  | cons a L ih =>
    rw [List.map_cons, List.any_cons, ih]
    have e : PyData.eqv (.str a) (.str z) = decide (a = z) := by
      unfold PyData.eqv
      exact (Bool.beq_eq_decide_eq a z)
    rw [e]
    by_cases h : a = z
    · subst h
      rw [decide_eq_true rfl, decide_eq_true List.mem_cons_self]
      rfl
    · rw [decide_eq_false h, Bool.false_or]
      by_cases h2 : z ∈ L
      · rw [decide_eq_true h2, decide_eq_true (List.mem_cons_of_mem _ h2)]
      · rw [decide_eq_false h2, decide_eq_false fun m => (List.mem_cons.mp m).elim (fun q => h q.symm) h2]
theorem flat_strD {L : List Str} : (L.map PyData.str).all flatD = true := by
  rw [List.all_map, List.all_eq_true]
  exact fun _ _ => rfl
theorem idx_out {L : List Str} {z : Str} (h : z ∉ L) : L.idxOf z = L.length := by
  induction L with
  | nil => rfl
  | cons a L ih =>
    have e : a ≠ z := fun q => h (q ▸ List.mem_cons_self)
    rw [List.idxOf_cons, show (a == z) = false from beq_false_of_ne e, List.length_cons, ← ih fun m => h (List.mem_cons_of_mem _ m)]
    rfl
abbrev T_law_kind : TD := T2 fun D V Q _ => ∃ (L : List Str) (z : Str), D = .tuple (L.map .str) ∧ V = .str z ∧ L.length ≤ 1000 ∧ Q (nD (L.idxOf z))
abbrev s_law_kind : Stmt := top 96
theorem sc_law_kind : FnScope ["names", "name"] ["names", "name"] (defScope s_law_kind) := ⟨rfl, rfl, rfl, by decide +kernel, rfl, by decide +kernel, by decide +kernel⟩
local macro_rules | `(tactic| walk_at "d") => `(tactic| simp only [↓dSeq, ↓dFor, ↓reprD, ↓dCallK, ↓dIfS, ↓dAndV, ↓dOrV, ↓dUn, ↓dOp, ↓dC, ↓dVar, ↓derefW, ↓deref, ↓known, ↓noOb, ↓nbO, ↓start0, ↓endsOf, ↓outA, ↓toB, ↓dAnd, ↓dOr, ↓dNot, ↓ofB, ↓dIf, ↓dChain, ↓dgName, ↓dgSeq, ↓dgCons, ↓dgNil, ↓dLc, ↓popW, ↓atOl, ↓isOl, ↓ownS, ↓frzD, ↓dCall, argsOf, argLc, obSlots, upS, upO, ↓noObs, ↓wipeD, List.map_cons, List.map_nil, List.length_cons, List.length_nil, Nat.sub_self, Nat.zero_add, Nat.reduceAdd, Nat.reduceSub, List.replicate, List.append_nil, List.cons_append, List.nil_append, List.getElem?_cons_zero, List.getElem?_cons_succ, List.getElem?_nil, List.set, List.head?, List.tail, Option.getD_some, Option.getD_none, List.nodup_nil, List.nodup_cons, List.not_mem_nil, List.mem_cons, List.mem_singleton, or_false, Nat.reduceEqDiff, true_and, and_true, Bool.not_true, Bool.not_false, if_true, Bool.false_eq_true, if_false, ite_true, ite_false, not_false_eq_true, reduceCtorEq, eqD_int, eqD_str, eqD_bl, eqD_tuple, eqD_list, eqD_tupleR, eqD_listR, eqD_non, neD_int, neD_str, neD_bl, neD_tuple, neD_list, neD_tupleR, neD_listR, neD_non, ↓isD, ↓notD, ix_0, ix_1, ix_2, ix_3, ix_4, ix_L0, ix_L1, ix_L2, itemsD_L, itemsD_T, tupleD_L, tupleD_T, listD_L, listD_T, lenD_L, lenD_T, lenD_S, slD_L, slD_T, addD_I, addD_S, addD_T, addD_L, subD_I, mulD_I, ltD_I, ltD_S, leD_I, gtD_I, geD_I, modD_I, fdivD_I, powD_I, intD_I, intD_B, negD_I, isND_N, isND_I, isND_S, isND_B, isND_T, isND_L, sq_T, sq_L, sq_N, sq_I, sq_S, sq_B, at_0, at_1, at_2, at_3, at_4, ↓isiD, pick, List.filterMap_cons_some, List.filterMap_nil, List.filterMap_cons, ↓ownC, ↓T1, ↓T2, ↓T3, ↓T4, ↓dHeard, ↓capsD, ↓slotsD, ↓lamW, lamSto, cpLc, ↓dHeardS, ↓dAsks, ↓asksW, ↓heardT, ↓Tbox, ↓Ttake, ↓intW, ix_ma0, ix_ma1, ix_ma2, ix_ma3, ix_inn0, ix_inn1, ix_inn2, ix_inn3, ix_top0, ix_top1, ix_top2, ix_top3, ix_top4, ↓T_lead_on, ↓T_law_pick])
theorem ok_law_kind {f : Addr} {fd : FuncData} (F : Fun Z.K "_law_kind" "_law_kind" s_law_kind f fd) (T : Tz Z.K Z.mg) : FnD Z.Pg Z.w Z.K Z.mg Z.base CX0 1 f fd ["names", "name"] (spT Z (T_law_kind)) := by
  refine okD F sc_law_kind (fun as Q er h => ?_) (fun cdv A outer s H E G0 ca hr hgd hca => (dss_one (ds_ret (de_if (dt_cmp (op_inA (hu1_of hr)) od_in (dr_var 1) (dr_var 0) rfl) (de_index T.kd (de_var 0) (de_var 1)) (de_callB call_lenA cd_len (by rfl) T.len (by decide +kernel) (dr_var 0)))))) (fun ca as Q er h => ?_)
  · obtain ⟨_, _, rfl, _⟩ := t2_inv h
    rfl
  · obtain ⟨a, b, rfl, q⟩ := t2_inv h
    obtain ⟨L, z, rfl, rfl, hl, q⟩ := q
    walk_at "d"
    unfold inD
    refine ⟨rfl, flat_strD, ?_⟩
    simp only [Bool.false_eq_true, if_false, any_str]
    by_cases h : z ∈ L
    · rw [if_pos (decide_eq_true h)]
      exact ⟨L, rfl, List.ne_nil_of_mem h, z, rfl, h, q⟩
    · rw [if_neg (fun e => h (of_decide_eq_true e)), List.length_map, ← idx_out h]
      exact q
def optD : Option (List Nat) → PyData
  | none => .none
  | some st => .list (st.map nD)
abbrev T_law_stepped : TD := T3 fun D S G Q _ => ∃ M st s, D = maD M ∧ MaOk M ∧ S = .list (st.map nD) ∧ StOk M st ∧ st.length ≤ 10000 ∧ G = sgD s ∧ Q (optD (stepped M st s))
end
end Lw
set_option Elab.async false
set_option linter.all false
set_option maxRecDepth 100000
set_option maxHeartbeats 1000000
set_option pp.deepTerms true
set_option pp.maxSteps 200000
namespace Lw
open PySem PySem.Spec PyProof PyProof.Rows L2 So Da Dl
local macro_rules | `(tactic| walk_at "z") => `(tactic| repeat (first | refine ⟨(by decide), ?_⟩ | refine ⟨(by omega), ?_⟩ | refine ⟨rfl, ?_⟩))
section
variable {Z : Zw}
abbrev T_law_after : TD := T3 fun D S G Q _ => ∃ M st s r, D = maD M ∧ MaOk M ∧ S = .tuple (st.map nD) ∧ StOk M st ∧ st.length ≤ 250000 ∧ (G = sgD s ∨ G = sgL s) ∧ stepped M st s = some r ∧ Q (rowD r)
abbrev s_law_after : Stmt := top 97
theorem sc_law_after : FnScope ["machine", "stack", "sign", "labels", "texts", "tops", "inners", "part"] ["machine", "stack", "sign"] (defScope s_law_after) := ⟨rfl, rfl, rfl, by decide +kernel, rfl, by decide +kernel, by decide +kernel⟩
local macro_rules | `(tactic| walk_at "d") => `(tactic| simp only [↓dSeq, ↓dFor, ↓reprD, ↓dCallK, ↓dIfS, ↓dAndV, ↓dOrV, ↓dUn, ↓dOp, ↓dC, ↓dVar, ↓derefW, ↓deref, ↓known, ↓noOb, ↓nbO, ↓start0, ↓endsOf, ↓outA, ↓toB, ↓dAnd, ↓dOr, ↓dNot, ↓ofB, ↓dIf, ↓dChain, ↓dgName, ↓dgSeq, ↓dgCons, ↓dgNil, ↓dLc, ↓popW, ↓atOl, ↓isOl, ↓ownS, ↓frzD, ↓dCall, argsOf, argLc, obSlots, upS, upO, ↓noObs, ↓wipeD, List.map_cons, List.map_nil, List.length_cons, List.length_nil, Nat.sub_self, Nat.zero_add, Nat.reduceAdd, Nat.reduceSub, List.replicate, List.append_nil, List.cons_append, List.nil_append, List.getElem?_cons_zero, List.getElem?_cons_succ, List.getElem?_nil, List.set, List.head?, List.tail, Option.getD_some, Option.getD_none, List.nodup_nil, List.nodup_cons, List.not_mem_nil, List.mem_cons, List.mem_singleton, or_false, Nat.reduceEqDiff, true_and, and_true, Bool.not_true, Bool.not_false, if_true, Bool.false_eq_true, if_false, ite_true, ite_false, not_false_eq_true, reduceCtorEq, eqD_int, eqD_str, eqD_bl, eqD_tuple, eqD_list, eqD_tupleR, eqD_listR, eqD_non, neD_int, neD_str, neD_bl, neD_tuple, neD_list, neD_tupleR, neD_listR, neD_non, ↓isD, ↓notD, ix_0, ix_1, ix_2, ix_3, ix_4, ix_L0, ix_L1, ix_L2, itemsD_L, itemsD_T, tupleD_L, tupleD_T, listD_L, listD_T, lenD_L, lenD_T, lenD_S, slD_L, slD_T, addD_I, addD_S, addD_T, addD_L, subD_I, mulD_I, ltD_I, ltD_S, leD_I, gtD_I, geD_I, modD_I, fdivD_I, powD_I, intD_I, intD_B, negD_I, isND_N, isND_I, isND_S, isND_B, isND_T, isND_L, sq_T, sq_L, sq_N, sq_I, sq_S, sq_B, at_0, at_1, at_2, at_3, at_4, ↓isiD, pick, List.filterMap_cons_some, List.filterMap_nil, List.filterMap_cons, ↓ownC, ↓T1, ↓T2, ↓T3, ↓T4, ↓dHeard, ↓capsD, ↓slotsD, ↓lamW, lamSto, cpLc, ↓dHeardS, ↓dAsks, ↓asksW, ↓heardT, ↓Tbox, ↓Ttake, ↓intW, ix_ma0, ix_ma1, ix_ma2, ix_ma3, ix_inn0, ix_inn1, ix_inn2, ix_inn3, ix_top0, ix_top1, ix_top2, ix_top3, ix_top4, ↓T_lead_on, ↓T_law_pick, ↓T_law_map, ↓T_law_machine])
theorem ok_law_after {f : Addr} {fd : FuncData} (F : Fun Z.K "_law_after" "_law_after" s_law_after f fd) (T : Tz Z.K Z.mg)
    {f_law_kind : Addr} {fd_law_kind : FuncData} (D_law_kind : Df Z.K Z.mg "_law_kind" s_law_kind ["names", "name"] f_law_kind fd_law_kind) (G_law_kind : FnD Z.Pg Z.w Z.K Z.mg Z.base CX0 1 f_law_kind fd_law_kind ["names", "name"] (spT Z (T_law_kind))) : FnD Z.Pg Z.w Z.K Z.mg Z.base CX0 2 f fd ["machine", "stack", "sign"] (spT Z (T_law_after)) := by
  refine okD F sc_law_after (fun as Q er h => ?_) (fun cdv A outer s H E G0 ca hr hgd hca => (dss_cons (ds_asg (de_var 0) (dg_seq (m := 4) rfl (dgs_cons (dg_name (i := 3) sc_law_after.nd rfl (Or.inl rfl)) (dgs_cons (dg_name (i := 4) sc_law_after.nd rfl (Or.inl rfl)) (dgs_cons (dg_name (i := 5) sc_law_after.nd rfl (Or.inl rfl)) (dgs_cons (dg_name (i := 6) sc_law_after.nd rfl (Or.inl rfl)) dgs_nil))))))
      (dss_cons (ds_if (dt_cmp (op_eqA hr.units) od_eq (dr_of (de_ix (dr_var 2) (dr_of de_int))) (dr_of de_str) (nomark _))
        (dss_one (ds_ret (de_op op_addA od_add (dr_var 1) (dr_of (de_tup (da_cons (de_ix (dr_of (de_ix (dr_var 6) (dr_of de_int))) (dr_of (de_call G_law_kind hr hgd (by rfl) D_law_kind.g D_law_kind.F.kp D_law_kind.b (drs_cons (dr_var 3) (drs_cons (dr_of (de_ix (dr_var 2) (dr_of de_int))) drs_nil))))) da_nil))))))
        dss_nil)
      (dss_cons (ds_set (i := 7) sc_law_after.nd rfl (Or.inl rfl) (de_if (dt_cmp op_gt od_gt (dr_of (de_callB call_lenA cd_len (by rfl) T.len (by decide +kernel) (dr_var 1))) (dr_of (de_if (dt_cmp (op_eqA hr.units) od_eq (dr_of (de_ix (dr_var 2) (dr_of de_int))) (dr_of de_str) (nomark _)) de_int de_int)) (nomark _)) (de_var 6) (de_var 5)))
      (dss_cons (ds_if (dt_cmp (op_eqA hr.units) od_eq (dr_of (de_ix (dr_var 2) (dr_of de_int))) (dr_of de_str) (nomark _))
        (dss_one (ds_ret (de_op op_addA od_add (dr_of (de_slice (dr_var 1) do_none (do_some (de_neg de_int)))) (dr_of (de_tup (da_cons (de_ix (dr_of (de_ix (dr_of (de_ix (dr_var 7) (dr_of de_int))) (dr_of (de_call G_law_kind hr hgd (by rfl) D_law_kind.g D_law_kind.F.kp D_law_kind.b (drs_cons (dr_var 4) (drs_cons (dr_of (de_ix (dr_var 2) (dr_of de_int))) drs_nil)))))) (dr_of (de_ix (dr_var 1) (dr_of (de_neg de_int))))) da_nil))))))
        dss_nil)
      (dss_one (ds_ret (de_op op_addA od_add (dr_of (de_slice (dr_var 1) do_none (do_some (de_neg de_int)))) (dr_of (de_tup (da_cons (de_ix (dr_of (de_ix (dr_of (de_ix (dr_var 7) (dr_of de_int))) (dr_of (de_ix (dr_var 1) (dr_of (de_neg de_int)))))) (dr_of (de_ix (dr_var 1) (dr_of (de_neg de_int))))) da_nil))))))))))) (fun ca as Q er h => ?_)
  · obtain ⟨_, _, _, rfl, _⟩ := t3_inv h
    rfl
  · obtain ⟨a, b, c, rfl, q⟩ := t3_inv h
    obtain ⟨M, st, s, r, rfl, ok, rfl, sk, hl, hG, e, q⟩ := q
    have b1 : (1 : Nat) ≤ sizeLine := by decide
    have sz : ∀ {n : Nat}, n ≤ 250001 → n ≤ sizeLine := fun h => Nat.le_trans h (by decide)
    have l1 := ok.ix.1
    have l2 := ok.tx.1
    have l6 := ok.l6
    have x4 := ok.x4
    rcases hG with rfl | rfl
    all_goals
      cases s with
      | op l =>
        cases e
        have hli : M.ls.idxOf l < M.st.length := by rw [ok.st.1]; have := List.idxOf_le_length (a := l) (l := M.ls); omega
        simp only [maD, topD, innD, sgD, sgL] at q ⊢
        walk_at "d"
        rw [if_pos (by decide)]
        refine ⟨M.ls, l, rfl, rfl, by omega, ?_⟩
        rw [ix_row hli]
        refine ⟨b1, sz (by rw [List.length_map]; omega), ?_⟩
        unfold rowD at q
        rw [List.map_append] at q
        exact q
      | tx z =>
        have hx := List.idxOf_le_length (a := z) (l := M.xs)
        obtain q0 | ⟨r0, x, rfl⟩ := snoc st
        · exact absurd q0 sk.ne
        simp only [stepped, List.getLast?_concat, List.dropLast_concat, Option.some.injEq] at e
        subst e
        simp only [maD, topD, innD, sgD, sgL] at q ⊢
        walk_at "d"
        rw [s3, if_neg (by decide)]
        simp only [decide_true, if_true]
        unfold rowD at q
        rw [List.map_append, List.map_cons, List.map_nil] at q
        simp only [List.map_append, List.map_cons, List.map_nil] at q ⊢
        rw [cut_m1]
        rw [List.length_append, List.length_singleton] at hl
        rcases st_last sk with ⟨rfl, hxx⟩ | ⟨hr, hxx, h2⟩
        · have m := getD_rows (k := M.xs.idxOf z) ok.tx (by omega)
          rw [if_neg (by simp)]
          refine ⟨M.xs, z, rfl, rfl, by omega, ?_⟩
          rw [ix_rows (by omega), ix_lastT, ix_row (by rw [m.1]; exact hxx)]
          rw [if_pos (by rfl)] at q
          exact ⟨b1, by decide, q⟩
        · have l := List.length_pos_iff.mpr hr
          have m := getD_rows (k := M.xs.idxOf z) ok.ix (by omega)
          rw [if_pos (by rw [List.length_append, List.length_map, List.length_singleton]; simp only [decide_eq_true_eq]; omega)]
          refine ⟨M.xs, z, rfl, rfl, by omega, ?_⟩
          rw [ix_rows (by omega), ix_lastT, ix_row (by rw [m.1]; exact hxx)]
          rw [if_neg (by rw [List.length_append, List.length_singleton]; omega)] at q
          exact ⟨b1, sz (by rw [List.length_map]; omega), q⟩
      | cl =>
        obtain q0 | ⟨r0, x, rfl⟩ := snoc st
        · exact absurd q0 sk.ne
        obtain rfl | ⟨r0, y, rfl⟩ := snoc r0
        · cases e
        rw [stepped_cl] at e
        cases e
        simp only [maD, topD, innD, sgD, sgL] at q ⊢
        walk_at "d"
        simp only [s4, s5, Bool.false_eq_true, if_false]
        unfold rowD at q
        simp only [List.map_append, List.map_cons, List.map_nil] at q ⊢
        rw [cut_m2]
        simp only [List.length_append, List.length_singleton] at hl
        rcases st_last sk with ⟨e0, _⟩ | ⟨_, hxx, sk2⟩
        · simp at e0
        rcases st_last sk2 with ⟨rfl, hy⟩ | ⟨hr, hy, sk3⟩
        · have m := getD_rows (k := x) ok.tc hxx
          rw [if_neg (by simp), ix_lastT, ix_rows (by rw [ok.tc.1]; exact hxx), ix_lastT2, ix_row (by rw [m.1]; exact hy)]
          rw [if_pos (by rfl)] at q
          exact ⟨b1, by decide, q⟩
        · have l := List.length_pos_iff.mpr hr
          have m := getD_rows (k := x) ok.ic hxx
          rw [if_pos (by simp only [List.length_append, List.length_map, List.length_singleton, decide_eq_true_eq]; omega), ix_lastT, ix_rows (by rw [ok.ic.1]; exact hxx), ix_lastT2, ix_row (by rw [m.1]; exact hy)]
          rw [if_neg (by omega)] at q
          exact ⟨b1, sz (by rw [List.length_map]; omega), q⟩
/-- signs, each a tuple or a list -/
def Sgs2 (ds : List PyData) (ss : List Sg) : Prop := ds.length = ss.length ∧ ∀ (i : Nat) (d : PyData) (s : Sg), ds[i]? = some d → ss[i]? = some s → d = sgD s ∨ d = sgL s
abbrev T_law_after_all : TD := T3 fun D S G Q _ => ∃ M st ss r, D = maD M ∧ MaOk M ∧ S = .tuple (st.map nD) ∧ StOk M st ∧ st.length + ss.length ≤ 250000 ∧ isSq G = true ∧ Sgs2 (itD G) ss ∧ after M (some st) ss = some r ∧ Q (rowD r)
abbrev s_law_after_all : Stmt := top 98
theorem sc_law_after_all : FnScope ["machine", "stack", "signs", "sign"] ["machine", "stack", "signs"] (defScope s_law_after_all) := ⟨rfl, rfl, rfl, by decide +kernel, rfl, by decide +kernel, by decide +kernel⟩
theorem ok_law_after_all {f : Addr} {fd : FuncData} (F : Fun Z.K "_law_after_all" "_law_after_all" s_law_after_all f fd) (T : Tz Z.K Z.mg)
    {f_law_after : Addr} {fd_law_after : FuncData} (D_law_after : Df Z.K Z.mg "_law_after" s_law_after ["machine", "stack", "sign"] f_law_after fd_law_after) (G_law_after : FnD Z.Pg Z.w Z.K Z.mg Z.base CX0 2 f_law_after fd_law_after ["machine", "stack", "sign"] (spT Z (T_law_after))) : FnD Z.Pg Z.w Z.K Z.mg Z.base CX0 3 f fd ["machine", "stack", "signs"] (spT Z (T_law_after_all)) := by
  refine okD F sc_law_after_all (fun as Q er h => ?_) (fun cdv A outer s H E G0 ca hr hgd hca => (dss_cons (ds_for PassesOwn.never rfl (di_seq (de_var 2)) (dg_name (i := 3) sc_law_after_all.nd rfl (Or.inl rfl))
        (dss_one (ds_set (i := 1) sc_law_after_all.nd rfl (Or.inl rfl) (de_call G_law_after hr hgd (by rfl) D_law_after.g D_law_after.F.kp D_law_after.b (drs_cons (dr_var 0) (drs_cons (dr_var 1) (drs_cons (dr_var 3) drs_nil)))))))
      (dss_one (ds_ret (de_var 1))))) (fun ca as Q er h => ?_)
  · obtain ⟨_, _, _, rfl, _⟩ := t3_inv h
    rfl
  · obtain ⟨a, b, c, rfl, q⟩ := t3_inv h
    obtain ⟨M, st, ss, r, rfl, ok, rfl, sk, hl, hs, ⟨h2, h3⟩, e, q⟩ := q
    walk_at "d"
    refine hiD hs ?_
    refine forW_go (fun ds ρ => ∃ (i : Nat) (cur : List Nat) (s4 : Lc), ds = (itD c).drop i ∧ i ≤ ss.length ∧ after M (some cur) (ss.drop i) = some r ∧ StOk M cur ∧ cur.length ≤ st.length + i ∧ nbO (some s4) ∧ ρ = [.sh (maD M), .sh (.tuple (cur.map nD)), .sh c, s4]) ?_ ?_ _ _ ⟨0, st, .un, rfl, Nat.zero_le _, e, sk, by omega, trivial, rfl⟩
    · rintro ρ ⟨i, cur, s4, e1, li, e2, k, kl, h4, rfl⟩
      have hi : ss.length ≤ i := by
        have := congrArg List.length e1
        rw [List.length_drop, List.length_nil] at this
        omega
      rw [List.drop_of_length_le hi] at e2
      cases e2
      walk_at "d"
      exact q
    · rintro K d ds ρ ⟨i, cur, s4, e1, li, e2, k, kl, h4, rfl⟩ ih
      have hi : i < ss.length := by
        rcases Nat.lt_or_ge i ss.length with h | h
        · exact h
        · rw [List.drop_of_length_le (by omega)] at e1
          cases e1
      rw [List.drop_eq_getElem_cons (by omega)] at e1
      obtain ⟨rfl, rfl⟩ := List.cons.inj e1
      rw [List.drop_eq_getElem_cons hi] at e2
      have e3 : after M (stepped M cur ss[i]) (ss.drop (i + 1)) = some r := e2
      cases e4 : stepped M cur ss[i] with
      | none => rw [e4, after_none] at e3; cases e3
      | some r2 =>
        rw [e4] at e3
        obtain ⟨k2, l2⟩ := stepped_ok ok k e4
        walk_at "d"
        exact ⟨h4, M, cur, ss[i], r2, rfl, ok, rfl, k, by omega, h3 i _ _ (List.getElem?_eq_getElem (by omega)) (List.getElem?_eq_getElem hi), e4, ih _ ⟨i + 1, r2, .sh _, rfl, hi, e3, k2, by omega, trivial, rfl⟩⟩
end
end Lw
set_option Elab.async false
set_option linter.all false
set_option maxRecDepth 100000
set_option maxHeartbeats 1000000
set_option pp.deepTerms true
set_option pp.maxSteps 200000
namespace Lw
open PySem PySem.Spec PyProof PyProof.Rows L2 So Da Dl
local macro_rules | `(tactic| walk_at "z") => `(tactic| repeat (first | refine ⟨(by decide), ?_⟩ | refine ⟨(by omega), ?_⟩ | refine ⟨rfl, ?_⟩))
section
variable {Z : Zw}
def inL (c : Nat) : Bool := decide (c ∈ lets.cps.toList)
/-- the signs of a text that are no letters -/
theorem lcW_lets {ρw : Sto} {vs : List Nat} {g : DTG} {tt : DTT} {te : DTE} {Q : List PyData → Prop} {z : Str} (hz : z.length ≤ 100000) (so : PyData.strOk z = true)
    (h : ∀ (a : Nat) (P : Prop) (R : PyData → Prop), (inL a = false → R (.str { cps := #[a] })) → (inL a = true → P) → g (.str { cps := #[a] }) ρw fun ρ1 => tt ρ1 fun b ρ2 => if b = true then te ρ2 fun y ρ3 => (noObs ρ3 vs ∧ wipeD ρ3 vs = ρw) ∧ R y else (noObs ρ2 vs ∧ wipeD ρ2 vs = ρw) ∧ P)
    (q : ∀ acc, SeqAt.shaped (.list acc) = true → (PyData.list acc).eqv (.list []) = z.cps.toList.all inL → Q acc) : lcW ρw vs g tt te (z.cps.toList.map fun c => .str { cps := #[c] }) [] Q := by
  let cD : PyData → Bool := fun d => match d with
    | .str w => !w.cps.toList.all inL
    | _ => false
  have ec : ∀ a : Nat, cD (.str { cps := #[a] }) = !inL a := fun a => by
    show (!([a].all inL)) = _
    rw [List.all_cons, List.all_nil, Bool.and_true]
  refine lcW_sel cD (fun d => d) (by rw [List.length_map]; show 0 + z.length ≤ _; omega) (fun d hd P R h1 h2 => ?_) ?_
  · obtain ⟨a, _, rfl⟩ := List.mem_map.mp hd
    rw [ec] at h1 h2
    exact h a P R (fun e => h1 (by rw [e]; rfl)) (fun e => h2 (by rw [e]; rfl))
  · rw [List.nil_append, List.map_id']
    have ef : (z.cps.toList.map fun c => PyData.str { cps := #[c] }).filter cD = (z.cps.toList.filter fun c => !inL c).map fun c => .str { cps := #[c] } := by
      rw [List.filter_map]
      exact congrArg _ (List.filter_congr fun a _ => ec a)
    rw [ef]
    refine q _ ?_ ?_
    · refine OkD.sh ((okn_L (n := 0) (all_m fun c m => okn_str (by show 1 ≤ 100000; decide) (by
        show PyData.strOk _ = true
        rw [so_of] at so ⊢
        show ([c].all (· < 0x110000)) = true
        rw [List.all_cons, List.all_nil, Bool.and_true]
        exact List.all_eq_true.mp so c (List.mem_filter.mp m).1)) ?_).ok (by decide))
      rw [List.length_map]
      exact Nat.le_trans (List.length_filter_le _ _) hz
    · generalize z.cps.toList = l
      induction l with
      | nil => rfl
      | cons a l ih =>
        rw [List.all_cons]
        cases e : inL a with
        | true => rw [List.filter_cons_of_neg (by simp [e]), ih, Bool.true_and]
        | false => rw [List.filter_cons_of_pos (by simp [e])]; rfl
abbrev T_law_is_sign : TD := T1 fun D Q _ => OkD D ∧ (∀ z, .str z ∈ itD D → z.length ≤ 1000) ∧ Q (.bool (sgnB D))
theorem sgn_no {D : PyData} {x : PyData} {r : List PyData} (hs : isSq D = true) (e : itD D = x :: r) (h : isS x "open" = false ∧ isS x "text" = false ∧ isS x "close" = false) : sgnB D = false := by
  unfold sgnB fauD
  rw [if_neg (by rw [hs]; decide), e]
  match r with
  | [] => simp [h.2.2]
  | [y] => simp [h.1, h.2.1]
  | _ :: _ :: _ => rfl
def sgR (z : Str) (r : List PyData) : Bool := match r with
  | [] => isS (.str z) "close"
  | [y] => if isS (.str z) "open" = true then labD y else if isS (.str z) "text" = true then txtB y else false
  | _ => false
theorem sgn_str {D : PyData} {z : Str} {r : List PyData} (hs : isSq D = true) (e : itD D = .str z :: r) : sgnB D = sgR z r := by
  unfold sgnB fauD sgR
  rw [if_neg (by rw [hs]; decide), e]
  match r with
  | [] =>
    dsimp only
    cases isS (.str z) "close" <;> rfl
  | [y] =>
    dsimp only
    cases h1 : isS (.str z) "open" <;> cases h2 : isS (.str z) "text" <;> cases h3 : labD y <;> cases h4 : txtB y <;> simp
  | _ :: _ :: _ => rfl
abbrev s_law_is_sign : Stmt := top 100
theorem sc_law_is_sign : FnScope ["value", "letters", "letter"] ["value"] (defScope s_law_is_sign) := ⟨rfl, rfl, rfl, by decide +kernel, rfl, by decide +kernel, by decide +kernel⟩
local macro_rules | `(tactic| walk_at "d") => `(tactic| simp only [↓dSeq, ↓dFor, ↓reprD, ↓dCallK, ↓dIfS, ↓dAndV, ↓dOrV, ↓dUn, ↓dOp, ↓dC, ↓dVar, ↓derefW, ↓deref, ↓known, ↓noOb, ↓nbO, ↓start0, ↓endsOf, ↓outA, ↓toB, ↓dAnd, ↓dOr, ↓dNot, ↓ofB, ↓dIf, ↓dChain, ↓dgName, ↓dgSeq, ↓dgCons, ↓dgNil, ↓dLc, ↓popW, ↓atOl, ↓isOl, ↓ownS, ↓frzD, ↓dCall, argsOf, argLc, obSlots, upS, upO, ↓noObs, ↓wipeD, List.map_cons, List.map_nil, List.length_cons, List.length_nil, Nat.sub_self, Nat.zero_add, Nat.reduceAdd, Nat.reduceSub, List.replicate, List.append_nil, List.cons_append, List.nil_append, List.getElem?_cons_zero, List.getElem?_cons_succ, List.getElem?_nil, List.set, List.head?, List.tail, Option.getD_some, Option.getD_none, List.nodup_nil, List.nodup_cons, List.not_mem_nil, List.mem_cons, List.mem_singleton, or_false, Nat.reduceEqDiff, true_and, and_true, Bool.not_true, Bool.not_false, if_true, Bool.false_eq_true, if_false, ite_true, ite_false, not_false_eq_true, reduceCtorEq, eqD_int, eqD_str, eqD_bl, eqD_tuple, eqD_list, eqD_tupleR, eqD_listR, eqD_non, neD_int, neD_str, neD_bl, neD_tuple, neD_list, neD_tupleR, neD_listR, neD_non, ↓isD, ↓notD, ix_0, ix_1, ix_2, ix_3, ix_4, ix_L0, ix_L1, ix_L2, itemsD_L, itemsD_T, tupleD_L, tupleD_T, listD_L, listD_T, lenD_L, lenD_T, lenD_S, slD_L, slD_T, addD_I, addD_S, addD_T, addD_L, subD_I, mulD_I, ltD_I, ltD_S, leD_I, gtD_I, geD_I, modD_I, fdivD_I, powD_I, intD_I, intD_B, negD_I, isND_N, isND_I, isND_S, isND_B, isND_T, isND_L, sq_T, sq_L, sq_N, sq_I, sq_S, sq_B, at_0, at_1, at_2, at_3, at_4, ↓isiD, pick, List.filterMap_cons_some, List.filterMap_nil, List.filterMap_cons, ↓ownC, ↓T1, ↓T2, ↓T3, ↓T4, ↓dHeard, ↓capsD, ↓slotsD, ↓lamW, lamSto, cpLc, ↓dHeardS, ↓dAsks, ↓asksW, ↓heardT, ↓Tbox, ↓Ttake, ↓intW, ix_ma0, ix_ma1, ix_ma2, ix_ma3, ix_inn0, ix_inn1, ix_inn2, ix_inn3, ix_top0, ix_top1, ix_top2, ix_top3, ix_top4, ↓T_lead_on, ↓T_law_pick, ↓T_law_map, ↓T_law_machine, chD, andD])
theorem ok_law_is_sign {f : Addr} {fd : FuncData} (F : Fun Z.K "_law_is_sign" "_law_is_sign" s_law_is_sign f fd) (T : Tz Z.K Z.mg) : FnD Z.Pg Z.w Z.K Z.mg Z.base CX0 1 f fd ["value"] (spT Z (T_law_is_sign)) := by
  refine okD F sc_law_is_sign (fun as Q er h => ?_) (fun cdv A outer s H E G0 ca hr hgd hca => (dss_cons (ds_if (DW.dt (dw_or (dt_not (dt_val (de_isiSq (by rfl) T.isi (by rfl) T.list (by rfl) T.tuple (dr_var 0)))) (dw_or (dt_cmp (op_eqA hr.units) od_eq (dr_of (de_callB call_lenA cd_len (by rfl) T.len (by decide +kernel) (dr_var 0))) (dr_of de_int) (nomark _)) (dw_or1 (dt_not (dt_val (de_isi (T := "str") (kf := isStr) kitf_str (by rfl) T.isi (by rfl) T.str (by decide +kernel) (by decide) (by decide) (dr_of (de_ix (dr_var 0) (dr_of de_int))))))))))
        (dss_one (ds_ret de_bl))
        dss_nil)
      (dss_cons (ds_if (dt_cmp (op_notInA (hu1_of hr)) od_notin (dr_of (de_ix (dr_var 0) (dr_of de_int))) (dr_of (de_tup (da_cons de_str (da_cons de_str (da_cons de_str da_nil))))) rfl)
        (dss_one (ds_ret de_bl))
        dss_nil)
      (dss_cons (ds_if (dt_cmp (op_eqA hr.units) od_eq (dr_of (de_ix (dr_var 0) (dr_of de_int))) (dr_of de_str) (nomark _))
        (dss_one (ds_ret (de_cmp (op_eqA hr.units) od_eq (dr_of (de_callB call_lenA cd_len (by rfl) T.len (by decide +kernel) (dr_var 0))) (dr_of de_int) (nomark _))))
        dss_nil)
      (dss_cons (ds_if (DW.dt (dw_or (dt_cmp (op_neA hr.units) od_ne (dr_of (de_callB call_lenA cd_len (by rfl) T.len (by decide +kernel) (dr_var 0))) (dr_of de_int) (nomark _)) (dw_or1 (dt_not (dt_val (de_isi (T := "str") (kf := isStr) kitf_str (by rfl) T.isi (by rfl) T.str (by decide +kernel) (by decide) (by decide) (dr_of (de_ix (dr_var 0) (dr_of de_int)))))))))
        (dss_one (ds_ret de_bl))
        dss_nil)
      (dss_cons (ds_setLc (i := 1) (own := [("letter", 2)]) rfl sc_law_is_sign.nd rfl rfl (sw_true rfl rfl rfl (by decide +kernel)) (di_str (de_ix (dr_var 0) (dr_of de_int))) (blkOk_by (own := [("letter", 2)]) (N := ["value", "letters", "letter"]) (sc := defScope s_law_is_sign) (by decide +kernel)) (fun _ _ _ _ _ => (dg_name (i := 2) sc_law_is_sign.nd rfl (Or.inl rfl))) (fun _ _ _ _ _ => (dts_one (dt_cmp op_notIn_sign od_notinS (dr_var 2) (dr_of de_str) rfl))) (fun _ _ _ _ _ => (de_var 2)))
      (dss_one (ds_ret (de_or (de_cmp (op_eqA hr.units) od_eq (dr_of (de_ix (dr_var 0) (dr_of de_int))) (dr_of de_str) (nomark _)) (de_one (de_and (de_chain op_le od_le op_le od_le (dr_of de_int) (dr_of (de_callB call_lenA cd_len (by rfl) T.len (by decide +kernel) (dr_of (de_ix (dr_var 0) (dr_of de_int))))) (dr_of de_int)) (de_one (de_cmp (op_eqA hr.units) od_eq (dr_var 1) (dr_of (de_of_df (df_lst da_nil))) (nomark _)))))))))))))) (fun ca as Q er h => ?_)
  · obtain ⟨_, rfl, _⟩ := t1_inv h
    rfl
  · obtain ⟨a, rfl, q⟩ := t1_inv h
    walk_at "d"
    obtain ⟨ok, hz, q⟩ := q
    have len := okD_len ok
    cases hs : isSq a with
    | false =>
      rw [if_pos (by decide)]
      rw [show sgnB a = false from by unfold sgnB fauD; rw [if_pos hs]; rfl] at q
      exact q
    | true =>
      rw [if_neg (by decide)]
      refine hnD hs ?_
      rw [eqD_int]
      dsimp only
      cases e : itD a with
      | nil =>
        rw [if_pos (by decide)]
        rw [show sgnB a = false from by unfold sgnB fauD; rw [if_neg (by rw [hs]; decide), e]; rfl] at q
        exact q
      | cons x r =>
        have x0 : ∀ (k : PyData → Prop), k x → ixD a (.int 0) k := fun k h => hxD (i := 0) hs (by rw [e]; rfl) h
        rw [if_neg (by rw [List.length_cons]; simp; omega)]
        refine x0 _ ?_
        cases x with
        | str z =>
          rw [if_neg (show ¬ (!isStr (.str z)) = true from fun h => nomatch h)]
          refine x0 _ ⟨by decide, ?_⟩
          have eL : [PyData.str "open", .str "text", .str "close"] = ([("open" : Str), "text", "close"] : List Str).map .str := rfl
          unfold inD
          refine ⟨rfl, rfl, ?_⟩
          rw [eL, any_str]
          dsimp only
          rw [if_pos rfl]
          by_cases mz : z ∈ ([("open" : Str), "text", "close"] : List Str)
          case neg =>
            rw [if_pos (by rw [decide_eq_false mz]; rfl)]
            have ne : ∀ w : Str, w ∈ ([("open" : Str), "text", "close"] : List Str) → isS (.str z) w = false := fun w mw => beq_false_of_ne fun e => mz (e ▸ mw)
            rw [sgn_no hs e ⟨ne _ (by simp), ne _ (by simp), ne _ (by simp)⟩] at q
            exact q
          rw [if_neg (by rw [decide_eq_true mz]; decide)]
          refine x0 _ ?_
          rw [eqD_str]
          dsimp only
          simp only [List.mem_cons, List.not_mem_nil, or_false] at mz
          rw [sgn_str hs e] at q
          unfold sgR at q
          by_cases zc : z = "close"
          · subst zc
            rw [if_pos (by decide)]
            refine hnD hs ?_
            rw [eqD_int, e, List.length_cons]
            match r, q with
            | [], q => exact q
            | [y], q => exact q
            | _ :: _ :: _, q =>
              rw [decide_eq_false (by rw [List.length_cons, List.length_cons]; omega)]
              exact q
          rw [if_neg (fun h => zc (of_decide_eq_true h))]
          have iz : isS (.str z) "close" = false := beq_false_of_ne zc
          refine hnD hs ?_
          rw [neD_int, e, List.length_cons]
          dsimp only
          match r, e, q with
          | [], e, q =>
            rw [if_pos (by decide)]
            dsimp only at q
            rw [iz] at q
            exact q
          | y1 :: y2 :: l, e, q =>
            rw [if_pos (by rw [List.length_cons, List.length_cons, decide_eq_false (by omega)]; rfl)]
            exact q
          | [y], e, q =>
            rw [if_neg (by show ¬ (!decide (((2 : Nat) : Int) = 2)) = true; decide)]
            dsimp only at q
            have x1 : ∀ {k : PyData → Prop}, k y → ixD a (.int 1) k := fun h => hxD (i := 1) hs (by rw [e]; rfl) h
            have oy := okD_it ok y (by rw [e]; simp)
            refine x1 ?_
            cases y with
            | str w =>
              have hw := hz w (by rw [e]; simp)
              have sw : PyData.strOk w = true := by have := oy.lay; exact this
              rw [if_neg (show ¬ (!isStr (.str w)) = true from fun h => nomatch h)]
              refine x1 ⟨w, rfl, ?_⟩
              refine lcW_lets (by omega) sw (fun c P R h1 h2 => ?_) (fun acc sha ea => x0 _ ?_)
              · walk_at "d"
                refine ⟨c, rfl, ?_⟩
                show if (!inL c) = true then R (.str { cps := #[c] }) else P
                cases ec : inL c with
                | true => exact h2 ec
                | false => exact h1 ec
              rw [eqD_str]
              dsimp only
              by_cases zt : z = "text"
              · subst zt
                rw [if_pos (by decide)]
                rw [show isS (.str "text") "open" = false by decide +kernel, if_neg (by decide), show isS (.str "text") "text" = true by decide +kernel, if_pos rfl, show txtB (.str w) = true from decide_eq_true (by omega)] at q
                exact q
              · rw [if_neg (fun h => zt (of_decide_eq_true h))]
                have zo : z = "open" := by
                  rcases mz with h | h | h
                  · exact h
                  · exact absurd h zt
                  · exact absurd h zc
                subst zo
                rw [show isS (.str "open") "open" = true by decide +kernel, if_pos rfl] at q
                have q : Q (.bool (isLab w)) [.sh a] := q
                unfold isLab at q
                have q : Q (.bool (decide ((1 : Int) ≤ (w.length : Int)) && decide ((w.length : Int) ≤ 12) && w.cps.toList.all inL)) [.sh a] := q
                refine x1 ?_
                walk_at "d"
                refine ⟨Nat.le_trans hw (by decide), ?_⟩
                cases c1 : decide ((1 : Int) ≤ (w.length : Int)) with
                | false =>
                  rw [c1] at q
                  exact q
                | true =>
                  rw [c1] at q
                  rw [if_pos rfl]
                  cases c2 : decide ((w.length : Int) ≤ 12) with
                  | false =>
                    rw [c2] at q
                    exact q
                  | true =>
                    rw [c2] at q
                    rw [if_pos rfl]
                    refine ⟨by decide, sha, rfl, ?_⟩
                    rw [ea]
                    exact q
            | _ =>
              rw [if_pos (by rfl)]
              have e0 : ∀ u v : Bool, u = false → v = false → (if isS (.str z) "open" = true then u else if isS (.str z) "text" = true then v else false) = false := fun u v h1 h2 => by subst h1 h2; split <;> (try split) <;> rfl
              exact Eq.mp (congrArg (fun u => Q (.bool u) [Lc.sh a]) (e0 _ _ rfl rfl)) q
        | _ =>
          rw [if_pos (by rfl)]
          rw [sgn_no hs e ⟨rfl, rfl, rfl⟩] at q
          exact q
theorem sgn_two {d : PyData} (h : sgnB d = true) : d = sgD (sgOf d) ∨ d = sgL (sgOf d) := by
  have e := (sgn_inv h).2
  have hs := sgn_sq h
  cases d with
  | tuple xs => exact .inl e
  | list xs =>
    refine .inr ?_
    generalize sgOf (PyData.list xs) = s at e ⊢
    have e : PyData.tuple xs = sgD s := e
    cases s <;> (cases e; rfl)
  | _ => exact nomatch hs
theorem sgs_two {ds : List PyData} (h : ds.all sgnB = true) : Sgs2 ds (ds.map sgOf) := by
  refine ⟨(List.length_map ..).symm, fun i d s e1 e2 => ?_⟩
  rw [List.getElem?_map, e1] at e2
  cases e2
  exact sgn_two (List.all_eq_true.mp h d (List.mem_of_getElem? e1))
theorem lvl_bad : ∀ {ds : List PyData} {i : Nat} {a l : Int}, lvl ds i a = .inr l → ds.all sgnB = true ∧ (0 ≤ a → 0 ≤ l)
  | [], i, a, l, h => by
    cases h
    exact ⟨rfl, id⟩
  | d :: r, i, a, l, h => by
    unfold lvl at h
    split at h
    · cases h
    split at h
    · cases h
    rename_i h1 h2
    obtain ⟨k1, k2⟩ := lvl_bad h
    refine ⟨?_, fun _ => k2 (by omega)⟩
    rw [List.all_cons, k1]
    cases e : sgnB d with
    | true => rfl
    | false => exact absurd e h1
abbrev T_law_due : TD := T4 fun D X Y V Q _ => ∃ M s t, D = maD M ∧ MaOk M ∧ X = .tuple (s.map nD) ∧ Y = .tuple (t.map nD) ∧ StOk M s ∧ StOk M t ∧ s.length = t.length ∧ s.length ≤ 100 ∧ (itD V).length ≤ 100 ∧ (∀ d ∈ itD V, OkN 3 d ∧ ∀ z, .str z ∈ itD d → z.length ≤ 1000) ∧ Q (.bool (partB M s t V))
abbrev s_law_due : Stmt := top 101
theorem sc_law_due : FnScope ["machine", "one", "other", "value", "level", "sign", "answers", "stack"] ["machine", "one", "other", "value"] (defScope s_law_due) := ⟨rfl, rfl, rfl, by decide +kernel, rfl, by decide +kernel, by decide +kernel⟩
theorem ok_law_due {f : Addr} {fd : FuncData} (F : Fun Z.K "_law_due" "_law_due" s_law_due f fd) (T : Tz Z.K Z.mg)
    {f_law_is_sign : Addr} {fd_law_is_sign : FuncData} (D_law_is_sign : Df Z.K Z.mg "_law_is_sign" s_law_is_sign ["value"] f_law_is_sign fd_law_is_sign) (G_law_is_sign : FnD Z.Pg Z.w Z.K Z.mg Z.base CX0 3 f_law_is_sign fd_law_is_sign ["value"] (spT Z (T_law_is_sign)))
    {f_law_after_all : Addr} {fd_law_after_all : FuncData} (D_law_after_all : Df Z.K Z.mg "_law_after_all" s_law_after_all ["machine", "stack", "signs"] f_law_after_all fd_law_after_all) (G_law_after_all : FnD Z.Pg Z.w Z.K Z.mg Z.base CX0 3 f_law_after_all fd_law_after_all ["machine", "stack", "signs"] (spT Z (T_law_after_all))) : FnD Z.Pg Z.w Z.K Z.mg Z.base CX0 4 f fd ["machine", "one", "other", "value"] (spT Z (T_law_due)) := by
  refine okD F sc_law_due (fun as Q er h => ?_) (fun cdv A outer s H E G0 ca hr hgd hca => (dss_cons (ds_if (DW.dt (dw_or (dt_not (dt_val (de_isiSq (by rfl) T.isi (by rfl) T.list (by rfl) T.tuple (dr_var 3)))) (dw_or1 (dt_cmp (op_neA hr.units) od_ne (dr_of (de_of_df (df_lc (own := [("sign", 5)]) rfl sc_law_due.nd (di_seq (de_var 3)) (blkOk_by (own := [("sign", 5)]) (N := ["machine", "one", "other", "value", "level", "sign", "answers", "stack"]) (sc := defScope s_law_due) (by decide +kernel)) (fun _ _ _ _ _ => (dg_name (i := 5) sc_law_due.nd rfl (Or.inl rfl))) (fun _ _ _ _ _ => (dts_one (dt_not (dt_val (de_call G_law_is_sign hr hgd (by rfl) D_law_is_sign.g D_law_is_sign.F.kp D_law_is_sign.b (drs_cons (dr_var 5) drs_nil)))))) (fun _ _ _ _ _ => (de_var 5))))) (dr_of (de_of_df (df_lst da_nil))) (nomark _)))))
        (dss_one (ds_ret de_bl))
        dss_nil)
      (dss_cons (ds_set (i := 4) sc_law_due.nd rfl (Or.inl rfl) (de_op op_sub od_sub (dr_of (de_callB call_lenA cd_len (by rfl) T.len (by decide +kernel) (dr_var 1))) (dr_of de_int)))
      (dss_cons (ds_for PassesOwn.never rfl (di_seq (de_var 3)) (dg_name (i := 5) sc_law_due.nd rfl (Or.inl rfl))
        (dss_cons (ds_set (i := 4) sc_law_due.nd rfl (Or.inl rfl) (de_op op_addA od_add (dr_var 4) (dr_of (de_if (dt_cmp (op_eqA hr.units) od_eq (dr_of (de_ix (dr_var 5) (dr_of de_int))) (dr_of de_str) (nomark _)) de_int (de_if (dt_cmp (op_eqA hr.units) od_eq (dr_of (de_ix (dr_var 5) (dr_of de_int))) (dr_of de_str) (nomark _)) (de_op op_sub od_sub (dr_of de_int) (dr_of de_int)) de_int)))))
        (dss_one (ds_if (dt_cmp op_ltA od_lt (dr_var 4) (dr_of de_int) (nomark _))
          (dss_one (ds_ret de_bl))
          dss_nil))))
      (dss_cons (ds_if (dt_cmp (op_neA hr.units) od_ne (dr_var 4) (dr_of de_int) (nomark _))
        (dss_one (ds_ret de_bl))
        dss_nil)
      (dss_cons (ds_setLc (i := 6) (own := [("stack", 7)]) rfl sc_law_due.nd rfl rfl (sw_true rfl rfl rfl (by decide +kernel)) (di_seq (de_tup (da_cons (de_var 1) (da_cons (de_var 2) da_nil)))) (blkOk_by (own := [("stack", 7)]) (N := ["machine", "one", "other", "value", "level", "sign", "answers", "stack"]) (sc := defScope s_law_due) (by decide +kernel)) (fun _ _ _ _ _ => (dg_name (i := 7) sc_law_due.nd rfl (Or.inl rfl))) (fun _ _ _ _ _ => dts_nil) (fun _ _ _ _ _ => (de_ix (dr_of (de_ix (dr_of (de_ix (dr_var 0) (dr_of de_int))) (dr_of de_int))) (dr_of (de_ix (dr_of (de_call G_law_after_all hr hgd (by rfl) D_law_after_all.g D_law_after_all.F.kp D_law_after_all.b (drs_cons (dr_var 0) (drs_cons (dr_var 7) (drs_cons (dr_var 3) drs_nil))))) (dr_of de_int))))))
      (dss_one (ds_ret (de_cmp (op_neA hr.units) od_ne (dr_of (de_ix (dr_var 6) (dr_of de_int))) (dr_of (de_ix (dr_var 6) (dr_of de_int))) (nomark _)))))))))) (fun ca as Q er h => ?_)
  · obtain ⟨_, _, _, _, rfl, _⟩ := t4_inv h
    rfl
  · obtain ⟨a, b, c, d, rfl, q⟩ := t4_inv h
    obtain ⟨M, s, t, rfl, ok, rfl, rfl, ks, kt, hl, l100, lV, zV, q⟩ := q
    have ls := List.length_pos_iff.mpr ks.ne
    walk_at "d"
    cases hs : isSq d with
    | false =>
      rw [if_pos (by decide)]
      unfold partB endB at q
      rw [hs] at q
      exact q
    | true =>
      rw [if_neg (by decide)]
      refine hiD hs ?_
      refine lcW_sel (fun x => !sgnB x) (fun x => x) (by show 0 + _ ≤ _; omega) (fun x hx P R h1 h2 => ?_) ?_
      · walk_at "d"
        refine ⟨(zV x hx).1.ok (by decide), (zV x hx).2, ?_⟩
        cases e : sgnB x with
        | true =>
          rw [e] at h2
          exact h2 rfl
        | false =>
          rw [e] at h1
          exact h1 rfl
      rw [List.nil_append, List.map_id']
      have okF : OkD (.list ((itD d).filter fun x => !sgnB x)) := (okn_L (n := 3) (fun x m => (zV x (List.mem_filter.mp m).1).1) (Nat.le_trans (List.length_filter_le _ _) (by omega))).ok (by decide)
      have eF : (PyData.list ((itD d).filter fun x => !sgnB x)).eqv (.list []) = (itD d).all sgnB := by
        generalize itD d = l
        induction l with
        | nil => rfl
        | cons x l ih =>
          rw [List.all_cons]
          cases e : sgnB x with
          | true => rw [List.filter_cons_of_neg (by simp [e]), ih, Bool.true_and]
          | false => rw [List.filter_cons_of_pos (by simp [e])]; rfl
      refine ⟨by decide, okF.sh, rfl, ?_⟩
      rw [eF]
      cases ha : (itD d).all sgnB with
      | false =>
        rw [if_pos (by decide)]
        have e0 : endB d (s.length - 1) = false := by
          unfold endB
          cases e : lvl (itD d) 0 ((s.length - 1 : Nat) : Int) with
          | inl i => exact Bool.and_false _
          | inr l => rw [(lvl_bad e).1] at ha; cases ha
        unfold partB at q
        rw [e0] at q
        exact q
      | true =>
        rw [if_neg (by decide)]
        refine hiD hs ?_
        obtain ⟨n, en⟩ : ∃ n, s.length = n + 1 := ⟨s.length - 1, by omega⟩
        have e1 : s.length - 1 = n := by omega
        unfold partB endB at q
        rw [hs, Bool.true_and, e1] at q
        generalize eL : lvl (itD d) 0 ((n : Nat) : Int) = L at q
        have allS := fun x m => List.all_eq_true.mp ha x m
        have ha0 := ha
        refine forW_go (fun ds ρ => ∃ (i : Nat) (l : Int) (s5 : Lc), ds = (itD d).drop i ∧ i ≤ (itD d).length ∧ lvl ((itD d).drop i) i l = L ∧ 0 ≤ l ∧ nbO (some s5) ∧ ρ = [.sh (maD M), .sh (.tuple (s.map nD)), .sh (.tuple (t.map nD)), .sh d, .sh (.int l), s5, .un, .un]) ?_ ?_ _ _ ⟨0, _, .un, rfl, Nat.zero_le _, (by rw [List.length_map, show ((s.length : Nat) : Int) - 1 = (n : Nat) by omega]; exact eL), (by rw [List.length_map]; omega), trivial, rfl⟩
        · rintro ρ ⟨i, l, s5, e2, li, e3, l0, h5, rfl⟩
          have hi : (itD d).length ≤ i := by
            have := congrArg List.length e2
            rw [List.length_drop, List.length_nil] at this
            omega
          rw [List.drop_of_length_le hi] at e3
          subst e3
          walk_at "d"
          by_cases z : l = 0
          · subst z
            rw [if_neg (by decide)]
            have q : Q (.bool (decide ((0 : Int) ≤ 0) && !decide (comeTo M s d = comeTo M t d))) [.sh (maD M), .sh (.tuple (s.map nD)), .sh (.tuple (t.map nD)), .sh d] := q
            rw [decide_eq_true (Int.le_refl 0), Bool.true_and] at q
            have run : ∀ {u : List Nat}, StOk M u → u.length = s.length → ∃ r, after M (some u) ((itD d).map sgOf) = some r ∧ StOk M r := fun {u} ku lu => by
              obtain ⟨r, k1, _, k3⟩ := lvl_after (l := 0) ok eL ku (by omega)
              exact ⟨r, k1, k3⟩
            refine ⟨by decide, lcW_rel (fun X y => ∀ u : List Nat, X = .tuple (u.map nD) → y = ansD (comeTo M u d)) (by show 2 ≤ 1000000; decide) (fun X hX R hR => ?_) fun acc ha => ?_⟩
            · obtain ⟨u, rfl, ku, lu⟩ : ∃ u : List Nat, X = .tuple (u.map nD) ∧ StOk M u ∧ u.length = s.length := by
                simp only [List.mem_cons, List.not_mem_nil, or_false] at hX
                rcases hX with rfl | rfl
                · exact ⟨s, rfl, ks, rfl⟩
                · exact ⟨t, rfl, kt, by omega⟩
              obtain ⟨r, hr, kr⟩ := run ku lu
              simp only [maD, topD]
              walk_at "d"
              refine ⟨M, u, (itD d).map sgOf, r, rfl, ok, rfl, ku, by rw [List.length_map]; omega, hs, sgs_two ha0, hr, ?_⟩
              have lp := List.length_pos_iff.mpr kr.ne
              have e0 : r.getD 0 0 < M.an.length := by
                rw [ok.an]
                cases r with
                | nil => exact absurd rfl kr.ne
                | cons t r => exact kr.hd t rfl
              refine (ix_row (k := 0) lp).mpr ?_
              have e : atI (M.an.map ansD) ((r.getD 0 0 : Nat) : Int) = some (ansOf M r) := by
                refine atI_nat ?_
                rw [List.getElem?_map, List.getElem?_eq_getElem e0]
                show some (ansD _) = some (ansD _)
                rw [List.getD_eq_getElem?_getD (l := M.an), List.getElem?_eq_getElem e0]
                rfl
              unfold nD ixD
              simp only [e]
              refine hR _ fun v ev => ?_
              have ev : u.map nD = v.map nD := by injection ev
              rw [← nD_inj ev]
              unfold ansOf comeTo sgsOf
              rw [hr]
              rfl
            · match acc, ha with
              | [y1, y2], .cons p1 (.cons p2 .nil) =>
                rw [p1 s rfl, p2 t rfl]
                rw [ix_L0, ix_L1]
                refine neD_of (sh_ans (by unfold comeTo; have := ans_len ok (((after M (some s) (sgsOf d)).getD []).getD 0 0); omega)) (sh_ans (by unfold comeTo; have := ans_len ok (((after M (some t) (sgsOf d)).getD []).getD 0 0); omega)) ?_
                rw [eqv_ans]
                exact q
          · rw [if_pos (by rw [decide_eq_false z]; rfl)]
            have q : Q (.bool (decide (l ≤ 0) && !decide (comeTo M s d = comeTo M t d))) [.sh (maD M), .sh (.tuple (s.map nD)), .sh (.tuple (t.map nD)), .sh d] := q
            rw [decide_eq_false (by omega)] at q
            exact q
        · rintro K x ds ρ ⟨i, l, s5, e2, li, e3, l0, h5, rfl⟩ ih
          have hi : i < (itD d).length := by
            rcases Nat.lt_or_ge i (itD d).length with h | h
            · exact h
            · rw [List.drop_of_length_le h] at e2
              cases e2
          rw [List.drop_eq_getElem_cons hi] at e2 e3
          obtain ⟨rfl, rfl⟩ := List.cons.inj e2
          have mx := List.getElem_mem hi
          have sx := allS _ mx
          have ox := (zV _ mx).1.ok (by decide)
          have h0 := sgn_at0 sx
          have o0 := okD_it ox _ (List.mem_of_getElem? h0)
          unfold lvl at e3
          rw [if_neg (by rw [sx]; decide)] at e3
          have so1 : PyData.strOk "open" = true := by decide +kernel
          have so2 : PyData.strOk "close" = true := by decide +kernel
          have nx : ∀ l' : Int, l' = l + stpD (itD d)[i] → (if decide (l' < 0) = true then Q (.bool false) [.sh (maD M), .sh (.tuple (s.map nD)), .sh (.tuple (t.map nD)), .sh d] else K [.sh (maD M), .sh (.tuple (s.map nD)), .sh (.tuple (t.map nD)), .sh d, .sh (.int l'), .sh (itD d)[i], .un, .un]) := fun l' e => by
            subst e
            by_cases h : l + stpD (itD d)[i] < 0
            · rw [if_pos h] at e3
              rw [if_pos (decide_eq_true h)]
              subst e3
              exact q
            · rw [if_neg h] at e3
              rw [if_neg (fun z => h (of_decide_eq_true z))]
              exact ih _ ⟨i + 1, _, .sh (itD d)[i], rfl, hi, e3, by omega, trivial, rfl⟩
          walk_at "d"
          refine ⟨h5, hxD (i := 0) (sgn_sq sx) h0 (eqD_S o0.sh so1 ?_)⟩
          rcases stp_of sx with ⟨a, b⟩ | ⟨a, b, c⟩ | ⟨a, b, c⟩
          · rw [b] at nx
            rw [a]
            exact nx _ rfl
          · rw [c] at nx
            rw [a]
            dsimp only
            rw [if_neg (by decide)]
            refine hxD (i := 0) (sgn_sq sx) h0 (eqD_S o0.sh so2 ?_)
            rw [b]
            exact nx _ rfl
          · rw [c] at nx
            rw [a]
            dsimp only
            rw [if_neg (by decide)]
            refine hxD (i := 0) (sgn_sq sx) h0 (eqD_S o0.sh so2 ?_)
            rw [b]
            exact nx _ rfl
end
end Lw
set_option Elab.async false
set_option linter.all false
set_option maxRecDepth 100000
set_option maxHeartbeats 1000000
set_option pp.deepTerms true
set_option pp.maxSteps 200000
namespace Lw
open PySem PySem.Spec PyProof PyProof.Rows L2 So Da Dl
local macro_rules | `(tactic| walk_at "z") => `(tactic| repeat (first | refine ⟨(by decide), ?_⟩ | refine ⟨(by omega), ?_⟩ | refine ⟨rfl, ?_⟩))
section
variable {Z : Zw}
def endL : List PyData := [.tuple [.str "open", .str "a"], .tuple [.str "open", .str "b"], .tuple [.str "text", .str "x"], .tuple [.str "text", .str "y"], .tuple [.str "close"], .list [.str "close"], .tuple [.str "go"], .tuple [.str "open", .str ""], .tuple [.str "text", .int 1], .none]
def smB (d : PyData) : Bool := (itD d).all fun x => match x with
  | .str z => decide (z.length ≤ 1000)
  | _ => true
theorem endL_all : (endL.all fun d => clB d && decide (d.depth ≤ 3) && smB d) = true := by decide +kernel
theorem endL_ok {d : PyData} (m : d ∈ endL) : OkN 3 d ∧ ∀ z, .str z ∈ itD d → z.length ≤ 1000 := by
  have := List.all_eq_true.mp endL_all d m
  rw [Bool.and_eq_true, Bool.and_eq_true, decide_eq_true_eq] at this
  obtain ⟨a1, a2⟩ := cl_ok this.1.1
  refine ⟨⟨a1.fit, a1.lay, this.1.2⟩, fun z mz => ?_⟩
  exact of_decide_eq_true (List.all_eq_true.mp this.2 (.str z) mz)
def EndV (V : PyData) : Prop := V = .none ∨ V = .int 5 ∨ V = .str "close" ∨ (isSq V = true ∧ (itD V).length ≤ 100 ∧ ∀ d ∈ itD V, d ∈ endL)
theorem endV_ok {V : PyData} (h : EndV V) : OkD V ∧ (itD V).length ≤ 100 ∧ ∀ d ∈ itD V, OkN 3 d ∧ ∀ z, .str z ∈ itD d → z.length ≤ 1000 := by
  rcases h with rfl | rfl | rfl | ⟨hs, hl, hd⟩
  · exact ⟨(cl_ok (by decide +kernel)).1, Nat.zero_le _, fun d m => nomatch m⟩
  · exact ⟨(cl_ok (by decide +kernel)).1, Nat.zero_le _, fun d m => nomatch m⟩
  · exact ⟨(cl_ok (by decide +kernel)).1, Nat.zero_le _, fun d m => nomatch m⟩
  · refine ⟨?_, hl, fun d m => endL_ok (hd d m)⟩
    cases V with
    | list xs => exact (okn_L (n := 3) (fun d m => (endL_ok (hd d m)).1) (Nat.le_trans hl (by decide))).ok (by decide)
    | tuple xs => exact (okn_T (n := 3) (fun d m => (endL_ok (hd d m)).1) (Nat.le_trans hl (by decide))).ok (by decide)
    | _ => exact nomatch hs
def T_law_ending : TD := fun as Q _ => match as with
  | [.ob b .box, .sh (.int n)] => ∃ m : Nat, n = (m : Nat) ∧ m ≤ 10 ∧ ∀ V, EndV V → Q V [.ob b .box, .sh (.int n)]
  | _ => False
abbrev s_law_ending : Stmt := top 102
theorem sc_law_ending : FnScope ["box", "depth", "found", "level", "turn", "way", "sign", "some"] ["box", "depth"] (defScope s_law_ending) := ⟨rfl, rfl, rfl, by decide +kernel, rfl, by decide +kernel, by decide +kernel⟩
local macro_rules | `(tactic| walk_at "d") => `(tactic| simp only [↓dSeq, ↓dFor, ↓reprD, ↓dCallK, ↓dIfS, ↓dAndV, ↓dOrV, ↓dUn, ↓dOp, ↓dC, ↓dVar, ↓derefW, ↓deref, ↓known, ↓noOb, ↓nbO, ↓start0, ↓endsOf, ↓outA, ↓toB, ↓dAnd, ↓dOr, ↓dNot, ↓ofB, ↓dIf, ↓dChain, ↓dgName, ↓dgSeq, ↓dgCons, ↓dgNil, ↓dLc, ↓popW, ↓atOl, ↓isOl, ↓ownS, ↓frzD, ↓dCall, argsOf, argLc, obSlots, upS, upO, ↓noObs, ↓wipeD, List.map_cons, List.map_nil, List.length_cons, List.length_nil, Nat.sub_self, Nat.zero_add, Nat.reduceAdd, Nat.reduceSub, List.replicate, List.append_nil, List.cons_append, List.nil_append, List.getElem?_cons_zero, List.getElem?_cons_succ, List.getElem?_nil, List.set, List.head?, List.tail, Option.getD_some, Option.getD_none, List.nodup_nil, List.nodup_cons, List.not_mem_nil, List.mem_cons, List.mem_singleton, or_false, Nat.reduceEqDiff, true_and, and_true, Bool.not_true, Bool.not_false, if_true, Bool.false_eq_true, if_false, ite_true, ite_false, not_false_eq_true, reduceCtorEq, eqD_int, eqD_str, eqD_bl, eqD_tuple, eqD_list, eqD_tupleR, eqD_listR, eqD_non, neD_int, neD_str, neD_bl, neD_tuple, neD_list, neD_tupleR, neD_listR, neD_non, ↓isD, ↓notD, ix_0, ix_1, ix_2, ix_3, ix_4, ix_L0, ix_L1, ix_L2, itemsD_L, itemsD_T, tupleD_L, tupleD_T, listD_L, listD_T, lenD_L, lenD_T, lenD_S, slD_L, slD_T, addD_I, addD_S, addD_T, addD_L, subD_I, mulD_I, ltD_I, ltD_S, leD_I, gtD_I, geD_I, modD_I, fdivD_I, powD_I, intD_I, intD_B, negD_I, isND_N, isND_I, isND_S, isND_B, isND_T, isND_L, sq_T, sq_L, sq_N, sq_I, sq_S, sq_B, at_0, at_1, at_2, at_3, at_4, ↓isiD, pick, List.filterMap_cons_some, List.filterMap_nil, List.filterMap_cons, ↓ownC, ↓T1, ↓T2, ↓T3, ↓T4, ↓dHeard, ↓capsD, ↓slotsD, ↓lamW, lamSto, cpLc, ↓dHeardS, ↓dAsks, ↓asksW, ↓heardT, ↓Tbox, ↓Ttake, ↓intW, ix_ma0, ix_ma1, ix_ma2, ix_ma3, ix_inn0, ix_inn1, ix_inn2, ix_inn3, ix_top0, ix_top1, ix_top2, ix_top3, ix_top4, ↓T_lead_on, ↓T_law_pick, ↓T_law_map, ↓T_law_machine, chD, andD, ↓T_law_ending])
theorem ok_law_ending {f : Addr} {fd : FuncData} (F : Fun Z.K "_law_ending" "_law_ending" s_law_ending f fd) (T : Tz Z.K Z.mg)
    {f_law_take : Addr} {fd_law_take : FuncData} (D_law_take : Df Z.K Z.mg "_law_take" s_law_take ["box", "many"] f_law_take fd_law_take) (G_law_take : FnD Z.Pg Z.w Z.K Z.mg Z.base CX0 2 f_law_take fd_law_take ["box", "many"] (spT Z (Ttake)))
    {f_law_pick : Addr} {fd_law_pick : FuncData} (D_law_pick : Df Z.K Z.mg "_law_pick" s_law_pick ["box", "some"] f_law_pick fd_law_pick) (G_law_pick : FnD Z.Pg Z.w Z.K Z.mg Z.base CX0 2 f_law_pick fd_law_pick ["box", "some"] (spT Z (T_law_pick))) : FnD Z.Pg Z.w Z.K Z.mg Z.base CX0 3 f fd ["box", "depth"] (spT Z (T_law_ending)) := by
  refine okD F sc_law_ending (fun as Q er h => ?_) (fun cdv A outer s H E G0 ca hr hgd hca => (dss_cons (ds_parFE (by decide) (ps_par (i := 2) (j := 3) rfl sc_law_ending.nd rfl rfl (by decide) rfl rfl (pa_cons (df_lst da_nil) (pa_cons (de_var 1) pa_nil)) (by rfl)))
      (dss_cons (ds_for PassesOwn.never rfl (di_range (by rfl) T.range (de_call G_law_take hr hgd (by rfl) D_law_take.g D_law_take.F.kp D_law_take.b (drs_cons (dr_var 0) (drs_cons (dr_of de_int) drs_nil)))) (dg_name (i := 4) sc_law_ending.nd rfl (Or.inl rfl))
        (dss_cons (ds_set (i := 6) sc_law_ending.nd rfl (Or.inl rfl) (de_call G_law_pick hr hgd (by rfl) D_law_pick.g D_law_pick.F.kp D_law_pick.b (drs_cons (dr_var 0) (drs_cons (dr_of (de_of_df (df_lst (da_cons (de_tup (da_cons de_str (da_cons de_str da_nil))) (da_cons (de_tup (da_cons de_str (da_cons de_str da_nil))) (da_cons (de_tup (da_cons de_str (da_cons de_str da_nil))) (da_cons (de_tup (da_cons de_str (da_cons de_str da_nil))) (da_cons (de_tup (da_cons de_str da_nil)) (da_cons (de_of_df (df_lst (da_cons de_str da_nil))) da_nil))))))))) drs_nil))))
        (dss_one (ds_if (DW.dt (dw_or (dt_cmp (op_neA hr.units) od_ne (dr_of (de_ix (dr_var 6) (dr_of de_int))) (dr_of de_str) (nomark _)) (dw_or1 (dt_cmp op_gt od_gt (dr_var 3) (dr_of de_int) (nomark _)))))
          (dss_cons (ds_app (ps_expr (pe_bm PySem.F.plainAttrs_list PySem.F.slot_list_append PySem.F.type_list_append mt_append (pv 2) (pa_cons (de_var 6) pa_nil))))
          (dss_one (ds_set (i := 3) sc_law_ending.nd rfl (Or.inl rfl) (de_op op_addA od_add (dr_var 3) (dr_of (de_if (dt_cmp (op_eqA hr.units) od_eq (dr_of (de_ix (dr_var 6) (dr_of de_int))) (dr_of de_str) (nomark _)) de_int (de_if (dt_cmp (op_eqA hr.units) od_eq (dr_of (de_ix (dr_var 6) (dr_of de_int))) (dr_of de_str) (nomark _)) (de_op op_sub od_sub (dr_of de_int) (dr_of de_int)) de_int)))))))
          dss_nil))))
      (dss_cons (ds_frz 2 (by decide) (ds_own (i := 2) sc_law_ending.nd rfl (Or.inl rfl) (df_cat (dr_var 2) (dr_of (de_of_df (df_rep (de_tup (da_cons de_str da_nil)) (de_var 3)))))))
      (dss_cons (ds_set (i := 5) sc_law_ending.nd rfl (Or.inl rfl) (de_call G_law_take hr hgd (by rfl) D_law_take.g D_law_take.F.kp D_law_take.b (drs_cons (dr_var 0) (drs_cons (dr_of de_int) drs_nil))))
      (dss_cons (ds_if (dt_cmp (op_eqA hr.units) od_eq (dr_var 5) (dr_of de_int) (nomark _))
        (dss_cons (ds_set (i := 7) sc_law_ending.nd rfl (Or.inl rfl) (de_of_df (df_lst (da_cons (de_of_df (df_cat (dr_var 2) (dr_of (de_of_df (df_lst (da_cons (de_tup (da_cons de_str da_nil)) da_nil)))))) (da_cons (de_slice (dr_var 2) (do_some de_int) do_none) (da_cons (de_of_df (df_cat (dr_var 2) (dr_of (de_of_df (df_lst (da_cons (de_tup (da_cons de_str da_nil)) da_nil)))))) (da_cons (de_of_df (df_cat (dr_of (de_of_df (df_lst (da_cons (de_tup (da_cons de_str (da_cons de_str da_nil))) da_nil)))) (dr_var 2))) (da_cons (de_of_df (df_cat (dr_of (de_of_df (df_lst (da_cons (de_tup (da_cons de_str (da_cons de_int da_nil))) da_nil)))) (dr_var 2))) da_nil))))))))
        (dss_one (ds_ret (de_call G_law_pick hr hgd (by rfl) D_law_pick.g D_law_pick.F.kp D_law_pick.b (drs_cons (dr_var 0) (drs_cons (dr_of (de_of_df (df_cat (dr_var 7) (dr_of (de_of_df (df_lst (da_cons de_non (da_cons de_int (da_cons de_str (da_cons (de_of_df (df_lst (da_cons de_non da_nil))) da_nil)))))))))) drs_nil))))))
        dss_nil)
      (dss_one (ds_frz 2 (by decide) (ds_ret (de_if (dt_cmp op_ltA od_lt (dr_var 5) (dr_of de_int) (nomark _)) (de_callTy call_tupleF cd_tuple (by rfl) T.tuple (by decide +kernel) (dr_var 2)) (de_var 2))))))))))) (fun ca as Q er h => ?_)
  · unfold T_law_ending at h
    split at h
    · rfl
    · exact h.elim
  · unfold T_law_ending at h
    split at h
    · rename_i b n
      obtain ⟨m, rfl, hm, q⟩ := h
      walk_at "d"
      refine ⟨by decide, by decide, fun a => ⟨by decide, by decide, fun r r0 r1 => ⟨by omega, by omega, ?_⟩⟩⟩
      have rl : (rngD 0 r.toNat).length ≤ 5 := by unfold rngD; rw [List.length_map, List.length_range]; omega
      refine forW_go (fun ds ρ => ∃ (xs : List PyData) (l : Int) (s4 s6 : Lc), xs.length + ds.length ≤ 5 ∧ (∀ x ∈ xs, x ∈ endL) ∧ 0 ≤ l ∧ l + (ds.length : Nat) ≤ (m : Nat) + 5 ∧ nbO (some s4) ∧ nbO (some s6) ∧ ρ = [.ob b .box, .sh (.int (m : Nat)), .ob a (.lst xs), .sh (.int l), s4, .un, s6, .un]) ?_ ?_ _ _ ⟨[], (m : Nat), .un, .un, by show 0 + _ ≤ 5; omega, (fun x h => nomatch h), by omega, by omega, trivial, trivial, rfl⟩
      · rintro ρ ⟨xs, l, s4, s6, h1, h2, l0, l1, h4, h6, rfl⟩
        walk_at "d"
        have b1 : 1 ≤ sizeLine := by decide
        have b2 : 2 ≤ sizeLine := by decide
        have bb : 1000 ≤ sizeLine := by decide
        refine ⟨b1, by omega, by omega, by omega, by rw [List.length_replicate]; omega, by decide, fun a2 => ⟨by decide, by decide, fun w w0 w1 => ?_⟩⟩
        have mC : PyData.tuple [.str "close"] ∈ endL := by simp [endL]
        have hF : ∀ x ∈ xs ++ List.replicate l.toNat (PyData.tuple [.str "close"]), x ∈ endL := fun x hx => (List.mem_append.mp hx).elim (h2 x) fun h => by rw [List.eq_of_mem_replicate h]; exact mC
        have lF : (xs ++ List.replicate l.toNat (PyData.tuple [.str "close"])).length ≤ 50 := by rw [List.length_append, List.length_replicate]; omega
        generalize xs ++ List.replicate l.toNat (PyData.tuple [.str "close"]) = fs at hF lF
        by_cases w0 : w = 0
        · rw [if_pos (decide_eq_true w0)]
          refine ⟨b1, b1, by omega, b1, b1, by omega, b2, b1, by omega, b2, b1, by omega, by decide, b1, by decide, by decide, (by show 0 < 9; decide), (by show 9 < 1000; decide), fun d hd => q d ?_⟩
          simp only [itD, List.mem_cons, List.not_mem_nil, or_false] at hd
          have app : ∀ {ds es : List PyData}, (∀ x ∈ ds, x ∈ endL) → (∀ x ∈ es, x ∈ endL) → ds.length + es.length ≤ 100 → EndV (.list (ds ++ es)) := fun h k l => .inr (.inr (.inr ⟨rfl, by show (_ ++ _ : List PyData).length ≤ 100; rw [List.length_append]; exact l, fun x hx => (List.mem_append.mp hx).elim (h x) (k x)⟩))
          have one : ∀ {d : PyData}, d ∈ endL → ∀ x ∈ [d], x ∈ endL := fun h x hx => by rw [List.mem_singleton.mp hx]; exact h
          rcases hd with rfl | rfl | rfl | rfl | rfl | rfl | rfl | rfl | rfl
          · exact app hF (one mC) (by show fs.length + 1 ≤ 100; omega)
          · rw [cut1]
            exact .inr (.inr (.inr ⟨rfl, by show (fs.drop 1).length ≤ 100; rw [List.length_drop]; omega, fun x hx => hF x (List.mem_of_mem_drop hx)⟩))
          · exact app hF (one (by simp [endL])) (by show fs.length + 1 ≤ 100; omega)
          · exact app (ds := [_]) (one (by simp [endL])) hF (by show 1 + fs.length ≤ 100; omega)
          · exact app (ds := [_]) (one (by simp [endL])) hF (by show 1 + fs.length ≤ 100; omega)
          · exact .inl rfl
          · exact .inr (.inl rfl)
          · exact .inr (.inr (.inl rfl))
          · exact .inr (.inr (.inr ⟨rfl, (by show 1 ≤ 100; decide), one (by simp [endL])⟩))
        · rw [if_neg (fun z => w0 (of_decide_eq_true z))]
          split
          · exact q _ (.inr (.inr (.inr ⟨rfl, Nat.le_trans lF (by decide), hF⟩)))
          · exact q _ (.inr (.inr (.inr ⟨rfl, Nat.le_trans lF (by decide), hF⟩)))
      · rintro K x ds ρ ⟨xs, l, s4, s6, h1, h2, l0, l1, h4, h6, rfl⟩ ih
        rw [List.length_cons] at h1 l1
        walk_at "d"
        refine ⟨h4, by decide, by decide, by decide, by decide, by decide, by decide, by decide, (by show 0 < 6; decide), (by show 6 < 1000; decide), fun d hd => ⟨h6, ?_⟩⟩
        have sz : xs.length < sizeLine := Nat.lt_of_le_of_lt (by omega : _ ≤ 5) (by decide)
        have nx : ∀ l' : Int, d ∈ endL → 0 ≤ l' → l' ≤ l + 1 → K [.ob b .box, .sh (.int (m : Nat)), .ob a (.lst (xs ++ [d])), .sh (.int l'), .sh x, .un, .sh d, .un] := fun l' md p0 p1 => ih _ ⟨xs ++ [d], l', .sh x, .sh d, by rw [List.length_append, List.length_singleton]; omega, fun y my => (List.mem_append.mp my).elim (h2 y) fun e => by rw [List.mem_singleton.mp e]; exact md, p0, by omega, trivial, trivial, rfl⟩
        have ns : K [.ob b .box, .sh (.int (m : Nat)), .ob a (.lst xs), .sh (.int l), .sh x, .un, .sh d, .un] := ih _ ⟨xs, l, .sh x, .sh d, by omega, h2, l0, by omega, trivial, trivial, rfl⟩
        have t1 : decide (("open" : Str) = "open") = true := decide_eq_true rfl
        have t2 : decide (("close" : Str) = "close") = true := decide_eq_true rfl
        simp only [itD, List.mem_cons, List.not_mem_nil, or_false] at hd
        rcases hd with rfl | rfl | rfl | rfl | rfl | rfl
        all_goals
          walk_at "d"
          simp only [Lw.s1, Lw.s2, Lw.s3, Lw.s4, Lw.s5, Lw.s6, t1, t2, Bool.not_true, Bool.not_false, if_true, Bool.false_eq_true, if_false]
        · exact ⟨sz, nx _ (by simp [endL]) (by omega) (by omega)⟩
        · exact ⟨sz, nx _ (by simp [endL]) (by omega) (by omega)⟩
        · exact ⟨sz, nx _ (by simp [endL]) (by omega) (by omega)⟩
        · exact ⟨sz, nx _ (by simp [endL]) (by omega) (by omega)⟩
        · by_cases z : 0 < l
          · rw [if_pos (decide_eq_true z)]
            exact ⟨sz, nx _ (by simp [endL]) (by omega) (by omega)⟩
          · rw [if_neg (fun y => z (of_decide_eq_true y))]
            exact ns
        · by_cases z : 0 < l
          · rw [if_pos (decide_eq_true z)]
            exact ⟨sz, nx _ (by simp [endL]) (by omega) (by omega)⟩
          · rw [if_neg (fun y => z (of_decide_eq_true y))]
            exact ns
    · exact h.elim
end
end Lw
set_option Elab.async false
set_option linter.all false
set_option maxRecDepth 100000
set_option maxHeartbeats 1000000
set_option pp.deepTerms true
set_option pp.maxSteps 200000
namespace Lw
open PySem PySem.Spec PyProof PyProof.Rows L2 So Da Dl
local macro_rules | `(tactic| walk_at "z") => `(tactic| repeat (first | refine ⟨(by decide), ?_⟩ | refine ⟨(by omega), ?_⟩ | refine ⟨rfl, ?_⟩))
section
variable {Z : Zw}
def TH_heard (B R : Addr) : Out → (PyData → Prop) → Prop := fun o Q => match o with
  | .told _ => Q .none
  | .err C D => (C = B ∧ Q (.tuple [.str "machine", D, .bool true])) ∨ (C = R ∧ repOk D ∧ Q (.tuple [.str "refused", .str (repD D), .bool true]))
abbrev s_law_heard : Stmt := top 103
theorem sc_law_heard : FnScope ["ask", "fault"] ["ask"] (defScope s_law_heard) := ⟨rfl, rfl, rfl, by decide +kernel, rfl, by decide +kernel, by decide +kernel⟩
theorem ok_law_heard {f : Addr} {fd : FuncData} (F : Fun Z.K "_law_heard" "_law_heard" s_law_heard f fd) (T : Tz Z.K Z.mg) {C_BadMachine : Addr} {C_Refused : Addr}
    (A_BadMachine : Z.T.an C_BadMachine = "at") (E_BadMachine : ErC Z.K Z.mg "BadMachine" "at" C_BadMachine)
    (A_Refused : Z.T.an C_Refused = "at") (E_Refused : ErC Z.K Z.mg "Refused" "at" C_Refused)
    {C_OpenError : Addr} (g_OpenError : Z.mg "OpenError" = some (.ref C_OpenError)) (op_BadMachine_OpenError : PySem.W.kitOne Z.K (.ref C_BadMachine) (.ref C_OpenError) = some true) (op_Refused_OpenError : PySem.W.kitOne Z.K (.ref C_Refused) (.ref C_OpenError) = some true) (x_Refused_BadMachine : PySem.W.exmOne Z.K (.ref C_Refused) (.ref C_BadMachine) = some false) : FnD Z.Pg Z.w Z.K Z.mg Z.base CX0 63 f fd ["ask"] (spT Z (heardT 62 (TH_heard C_BadMachine C_Refused))) := by
  refine okD F sc_law_heard (fun as Q er h => ?_) (fun cdv A outer s H E G0 ca hr hgd hca => (dss_cons (ds_try (X := (cxOf CX0 Z.Pg Z.w Z.K Z.mg Z.base ["ask", "fault"] "_law_heard" (defScope s_law_heard) f cdv A outer s H E).nox) (K := Z.K) rfl rfl rfl sc_law_heard.nd (fun W pn xe tk po => (dsw_expr (dew_ask tk (j := 62) hr hgd 0))) (.more (i := 1) ⟨by rfl, by decide, Or.inl E_BadMachine.g⟩ (by rfl) (by rfl) (fun _ _ _ _ _ hz hf => (dss_one (ds_ret (de_tup (da_cons de_str (da_cons (de_flt A_BadMachine E_BadMachine.xf E_BadMachine.na hz hf 1) (da_cons (de_fltI E_BadMachine.is op_BadMachine_OpenError hz hf (by rfl) T.isi (by rfl) g_OpenError 1) da_nil))))))) (.more (i := 1) ⟨by rfl, by decide, Or.inl E_Refused.g⟩ (by rfl) (by rfl) (fun _ _ _ _ _ hz hf => (dss_one (ds_ret (de_tup (da_cons de_str (da_cons (de_callB (call_reprA hgd hr.units) cd_repr (by rfl) T.repr (by decide +kernel) (dr_of (de_flt A_Refused E_Refused.xf E_Refused.na hz hf 1))) (da_cons (de_fltI E_Refused.is op_Refused_OpenError hz hf (by rfl) T.isi (by rfl) g_OpenError 1) da_nil))))))) .none)))
      (dss_one (ds_ret de_non)))) (fun ca as Q er h => ?_)
  · obtain ⟨k, W, R, rfl, _⟩ := h
    rfl
  · obtain ⟨k, W, R, rfl, hk, hw, hr⟩ := h
    simp only [dSeq, dTry, dAsk, start0, List.replicate, List.cons_append, List.nil_append, List.getElem?_cons_zero, List.length_cons, List.length_nil]
    refine ⟨hk, R, hw, fun o ho => ?_⟩
    have ho := hr o ho
    cases o with
    | told D => exact ho
    | err C D =>
      have b3 : 3 ≤ sizeLine := by decide
      rcases ho with ⟨rfl, q⟩ | ⟨rfl, ok, q⟩
      · exact ⟨true, E_BadMachine.te, fun _ => ⟨trivial, fun a d => ⟨rfl, rfl, rfl, rfl, rfl, rfl, rfl, rfl, b3, q⟩⟩, fun z => nomatch z⟩
      · exact ⟨false, x_Refused_BadMachine, (fun z => nomatch z), fun _ => ⟨true, E_Refused.te, fun _ => ⟨trivial, fun a d => ⟨rfl, rfl, rfl, rfl, ok, rfl, rfl, rfl, rfl, b3, q⟩⟩, fun z => nomatch z⟩⟩
theorem th_ma {B R : Addr} {D : PyData} {Q : PyData → Prop} (h : Q (.tuple [.str "machine", D, .bool true])) : TH_heard B R (.err B D) Q := .inl ⟨rfl, h⟩
theorem th_re {B R : Addr} {D : PyData} {Q : PyData → Prop} (r : repOk D) (h : Q (.tuple [.str "refused", .str (repD D), .bool true])) : TH_heard B R (.err R D) Q := .inr ⟨rfl, r, h⟩
def oddSt (M : Ma) : List PyData := [.none, .tuple [], .tuple [nD M.tn], .tuple [.int 0, nD M.im], .tuple [.bool true], .str "0"]
theorem oddSt_ok {M : Ma} (hi : M.im ≤ 20) (ht : M.tn ≤ 20) {d : PyData} (m : d ∈ oddSt M) : OkD d ∧ repOk d ∧ stkB M d = false := by
  have cl : ∀ {d : PyData}, clB d = true → stkB M d = false → OkD d ∧ repOk d ∧ stkB M d = false := fun h k => ⟨(cl_ok h).1, (cl_ok h).2, k⟩
  have gl : ∀ {ds : List PyData} {h W : Nat}, GL h W (.tuple ds) → h ≤ 50 → W ≤ 1000000 → fitD (.tuple ds) = true → stkB M (.tuple ds) = false → OkD (.tuple ds) ∧ repOk (.tuple ds) ∧ stkB M (.tuple ds) = false := fun g a b f k => ⟨gl_okD g f a, gl_repT g (by omega) b, k⟩
  simp only [oddSt, List.mem_cons, List.not_mem_nil, or_false] at m
  rcases m with rfl | rfl | rfl | rfl | rfl | rfl
  · exact cl (by decide +kernel) rfl
  · exact cl (by decide +kernel) rfl
  · exact gl (gl_tup (h := 0) (W := 12) 1 (gl_all1 (gl_nat (by omega))) (Nat.le_refl 1)) (by decide) (by decide) rfl (by simp [stkB, sq_tup, itD, bel_self])
  · exact gl (gl_tup (h := 0) (W := 12) 2 (gl_allc (gl_nat (n := 0) (by decide)) (gl_all1 (gl_nat (by omega)))) (Nat.le_refl 2)) (by decide) (by decide) rfl (by simp [stkB, sq_tup, itD, bel_self])
  · exact cl (by decide +kernel) (by simp [stkB, sq_tup, itD, belB])
  · exact cl (by decide +kernel) rfl
theorem badSt_ok {M : Ma} {u : List Nat} {odd d : PyData} (ku : StOk M u) (lu : u.length ≤ 4) (o : OkD odd ∧ repOk odd ∧ stkB M odd = false) (hi : M.im ≤ 20) (ht : M.tn ≤ 20) (m : d ∈ [PyData.tuple (u.map nD ++ [.int 0]), .tuple (Dl.cutD (u.map nD) none (some (-1))), odd]) : OkD d ∧ repOk d ∧ (stkB M d = false ∨ (stkB M d = true ∧ u.length ≠ (itD d).length)) := by
  have un : ∀ x ∈ u, x < 20 := fun x hx => by
    cases u with
    | nil => exact nomatch hx
    | cons t r =>
      rcases List.mem_cons.mp hx with rfl | hx
      · have := ku.hd _ rfl; omega
      · have := ku.tl x hx; omega
  have rowOk : ∀ {r : List Nat}, (∀ x ∈ r, x < 20) → r.length ≤ 6 → OkD (.tuple (r.map nD)) ∧ repOk (.tuple (r.map nD)) := fun {r} h l => by
    have g : GL 1 (6 * 13) (.tuple (r.map nD)) := gl_mapT (h := 0) (W := 12) 6 (fun x hx => gl_nat (by have := h x hx; omega)) l
    exact ⟨(okn_T (n := 0) (all_m fun _ _ => okn_int) (by rw [List.length_map]; omega)).ok (by decide), gl_repT g (by decide) (by decide)⟩
  have dec : ∀ {V : PyData}, u.length ≠ (itD V).length → stkB M V = false ∨ (stkB M V = true ∧ u.length ≠ (itD V).length) := fun {V} h => by
    cases e : stkB M V with
    | false => exact .inl rfl
    | true => exact .inr ⟨rfl, h⟩
  simp only [List.mem_cons, List.not_mem_nil, or_false] at m
  rcases m with rfl | rfl | rfl
  · have e : PyData.tuple (u.map nD ++ [.int 0]) = .tuple ((u ++ [0]).map nD) := by rw [List.map_append]; rfl
    rw [e]
    obtain ⟨a, b⟩ := rowOk (r := u ++ [0]) (fun x hx => (List.mem_append.mp hx).elim (un x) fun h => by rw [List.mem_singleton.mp h]; decide) (by rw [List.length_append, List.length_singleton]; omega)
    exact ⟨a, b, dec (by show u.length ≠ ((u ++ [0]).map nD).length; rw [List.length_map, List.length_append, List.length_singleton]; omega)⟩
  · obtain q | ⟨r, x, rfl⟩ := snoc u
    · exact absurd q ku.ne
    rw [List.map_append, List.map_cons, List.map_nil, cut_m1]
    obtain ⟨a, b⟩ := rowOk (r := r) (fun y hy => un y (List.mem_append_left _ hy)) (by rw [List.length_append, List.length_singleton] at lu; omega)
    exact ⟨a, b, dec (by show (r ++ [x]).length ≠ (r.map nD).length; rw [List.length_map, List.length_append, List.length_singleton]; omega)⟩
  · exact ⟨o.1, o.2.1, .inl o.2.2⟩
/-- what is asked of two stacks: all let the same errors out -/
def AskP (B R : Addr) (l : List Nat × LW2) : Prop := l.1 = [] ∧ ∀ (D X Y : PyData) (Ro : Out → Prop), OkD X → OkD Y → BadSt B R D X Y (fun er => Ro (.err er.1 er.2)) → l.2 [] [D, X, Y] Ro
def LwJ (S : PyData) (ρ : Sto) : Prop := ρ.length = 19 ∧ ρ[0]? = some (.sh S) ∧ ∀ i : Nat, i ≠ 2 → i ≠ 12 → nbO ρ[i]?
theorem lwj_of {S : PyData} {ρ : Sto} (h : LwJ S ρ) : ∃ s1 s2 s3 s4 s5 s6 s7 s8 s9 s10 s11 s12 s13 s14 s15 s16 s17 s18, ρ = [.sh S, s1, s2, s3, s4, s5, s6, s7, s8, s9, s10, s11, s12, s13, s14, s15, s16, s17, s18] ∧ nbO (some s1) ∧ nbO (some s3) ∧ nbO (some s4) ∧ nbO (some s5) ∧ nbO (some s6) ∧ nbO (some s7) ∧ nbO (some s8) ∧ nbO (some s9) ∧ nbO (some s10) ∧ nbO (some s11) ∧ nbO (some s13) ∧ nbO (some s14) ∧ nbO (some s15) ∧ nbO (some s16) ∧ nbO (some s17) ∧ nbO (some s18) := by
  obtain ⟨h1, h2, h3⟩ := h
  match ρ, h1 with
  | [s0, s1, s2, s3, s4, s5, s6, s7, s8, s9, s10, s11, s12, s13, s14, s15, s16, s17, s18], _ =>
    cases h2
    exact ⟨s1, s2, s3, s4, s5, s6, s7, s8, s9, s10, s11, s12, s13, s14, s15, s16, s17, s18, rfl, h3 1 (by decide) (by decide), h3 3 (by decide) (by decide), h3 4 (by decide) (by decide), h3 5 (by decide) (by decide), h3 6 (by decide) (by decide), h3 7 (by decide) (by decide), h3 8 (by decide) (by decide), h3 9 (by decide) (by decide), h3 10 (by decide) (by decide), h3 11 (by decide) (by decide), h3 13 (by decide) (by decide), h3 14 (by decide) (by decide), h3 15 (by decide) (by decide), h3 16 (by decide) (by decide), h3 17 (by decide) (by decide), h3 18 (by decide) (by decide)⟩
abbrev T_law : TD := T1 fun D Q _ => ∃ ns : List Int, D = .list (ns.map .int) ∧ ns.length ≤ 1000000 ∧ Q (.bool true)
abbrev s_law : Stmt := top 104
theorem sc_law : FnScope ["script", "k", "box", "inner", "top", "machine", "depth", "one", "other", "turn", "odd", "bad", "asks", "ask", "value", "due", "told", "each", "level"] ["script"] (defScope s_law) := ⟨rfl, rfl, rfl, by decide +kernel, rfl, by decide +kernel, by decide +kernel⟩
local macro_rules | `(tactic| walk_at "d") => `(tactic| simp only [↓dSeq, ↓dFor, ↓reprD, ↓dCallK, ↓dIfS, ↓dAndV, ↓dOrV, ↓dUn, ↓dOp, ↓dC, ↓dVar, ↓derefW, ↓deref, ↓known, ↓noOb, ↓nbO, ↓start0, ↓endsOf, ↓outA, ↓toB, ↓dAnd, ↓dOr, ↓dNot, ↓ofB, ↓dIf, ↓dChain, ↓dgName, ↓dgSeq, ↓dgCons, ↓dgNil, ↓dLc, ↓popW, ↓atOl, ↓isOl, ↓ownS, ↓frzD, ↓dCall, argsOf, argLc, obSlots, upS, upO, ↓noObs, ↓wipeD, List.map_cons, List.map_nil, List.length_cons, List.length_nil, Nat.sub_self, Nat.zero_add, Nat.reduceAdd, Nat.reduceSub, List.replicate, List.append_nil, List.cons_append, List.nil_append, List.getElem?_cons_zero, List.getElem?_cons_succ, List.getElem?_nil, List.set, List.head?, List.tail, Option.getD_some, Option.getD_none, List.nodup_nil, List.nodup_cons, List.not_mem_nil, List.mem_cons, List.mem_singleton, or_false, Nat.reduceEqDiff, true_and, and_true, Bool.not_true, Bool.not_false, if_true, Bool.false_eq_true, if_false, ite_true, ite_false, not_false_eq_true, reduceCtorEq, eqD_int, eqD_str, eqD_bl, eqD_tuple, eqD_list, eqD_tupleR, eqD_listR, eqD_non, neD_int, neD_str, neD_bl, neD_tuple, neD_list, neD_tupleR, neD_listR, neD_non, ↓isD, ↓notD, ix_0, ix_1, ix_2, ix_3, ix_4, ix_L0, ix_L1, ix_L2, itemsD_L, itemsD_T, tupleD_L, tupleD_T, listD_L, listD_T, lenD_L, lenD_T, lenD_S, slD_L, slD_T, addD_I, addD_S, addD_T, addD_L, subD_I, mulD_I, ltD_I, ltD_S, leD_I, gtD_I, geD_I, modD_I, fdivD_I, powD_I, intD_I, intD_B, negD_I, isND_N, isND_I, isND_S, isND_B, isND_T, isND_L, sq_T, sq_L, sq_N, sq_I, sq_S, sq_B, at_0, at_1, at_2, at_3, at_4, ↓isiD, pick, List.filterMap_cons_some, List.filterMap_nil, List.filterMap_cons, ↓ownC, ↓T1, ↓T2, ↓T3, ↓T4, ↓dHeard, ↓capsD, ↓slotsD, ↓lamW, lamSto, cpLc, ↓dHeardS, ↓dAsks, ↓asksW, ↓heardT, ↓Tbox, ↓Ttake, ↓intW, ix_ma0, ix_ma1, ix_ma2, ix_ma3, ix_inn0, ix_inn1, ix_inn2, ix_inn3, ix_top0, ix_top1, ix_top2, ix_top3, ix_top4, ↓T_lead_on, ↓T_law_pick, ↓T_law_map, ↓T_law_machine, chD, andD, ↓T_law_ending, dForL, dAskE])
theorem ok_law {f c Pl : Addr} {fd : FuncData} (F : DfC Z.K Z.mg "law" s_law ["script"] f fd c) (T : Tz Z.K Z.mg) (hst : ∀ s, Z.T.st s = none)
    (TB : LamX.TabB Z.base Z.mg c Pl) (hm : (Pl, fun _ _ => ("law" : Str) ++ ".<locals>." ++ "<lambda>") ∈ Z.T.L) (hu : ∀ p ∈ Z.T.L, p.1 = Pl → p.2 = fun _ _ => ("law" : Str) ++ ".<locals>." ++ "<lambda>") (hP : Pl ≠ Z.T.P) {C_BadMachine : Addr} {C_BadStream : Addr} {C_Refused : Addr}
    {f_law_box : Addr} {fd_law_box : FuncData} (D_law_box : Df Z.K Z.mg "_law_box" s_law_box ["script", "k"] f_law_box fd_law_box) (G_law_box : FnD Z.Pg Z.w Z.K Z.mg Z.base CX0 63 f_law_box fd_law_box ["script", "k"] (spO Z (Tbox)))
    {f_law_take : Addr} {fd_law_take : FuncData} (D_law_take : Df Z.K Z.mg "_law_take" s_law_take ["box", "many"] f_law_take fd_law_take) (G_law_take : FnD Z.Pg Z.w Z.K Z.mg Z.base CX0 63 f_law_take fd_law_take ["box", "many"] (spT Z (Ttake)))
    {f_law_machine : Addr} {fd_law_machine : FuncData} (D_law_machine : Df Z.K Z.mg "_law_machine" s_law_machine ["box", "inner", "top"] f_law_machine fd_law_machine) (G_law_machine : FnD Z.Pg Z.w Z.K Z.mg Z.base CX0 63 f_law_machine fd_law_machine ["box", "inner", "top"] (spT Z (T_law_machine)))
    {f_law_ending : Addr} {fd_law_ending : FuncData} (D_law_ending : Df Z.K Z.mg "_law_ending" s_law_ending ["box", "depth"] f_law_ending fd_law_ending) (G_law_ending : FnD Z.Pg Z.w Z.K Z.mg Z.base CX0 63 f_law_ending fd_law_ending ["box", "depth"] (spT Z (T_law_ending)))
    {f_law_due : Addr} {fd_law_due : FuncData} (D_law_due : Df Z.K Z.mg "_law_due" s_law_due ["machine", "one", "other", "value"] f_law_due fd_law_due) (G_law_due : FnD Z.Pg Z.w Z.K Z.mg Z.base CX0 63 f_law_due fd_law_due ["machine", "one", "other", "value"] (spT Z (T_law_due)))
    {f_parting_holds : Addr} {fd_parting_holds : FuncData} (D_parting_holds : Df Z.K Z.mg "parting_holds" s_parting_holds ["machine", "one", "other", "value"] f_parting_holds fd_parting_holds) (G_parting_holds : FnD Z.Pg Z.w Z.K Z.mg Z.base (L2.CX Z.Pg Z.w) 59 f_parting_holds fd_parting_holds ["machine", "one", "other", "value"] (spT Z (T_parting_holds C_BadMachine C_Refused C_BadStream)))
    {f_law_pick : Addr} {fd_law_pick : FuncData} (D_law_pick : Df Z.K Z.mg "_law_pick" s_law_pick ["box", "some"] f_law_pick fd_law_pick) (G_law_pick : FnD Z.Pg Z.w Z.K Z.mg Z.base CX0 63 f_law_pick fd_law_pick ["box", "some"] (spT Z (T_law_pick)))
    {f_alike : Addr} {fd_alike : FuncData} (D_alike : Df Z.K Z.mg "alike" s_alike ["machine", "one", "other"] f_alike fd_alike) (G_alike : FnD Z.Pg Z.w Z.K Z.mg Z.base (L2.CX Z.Pg Z.w) 59 f_alike fd_alike ["machine", "one", "other"] (spT Z (T_alike C_BadMachine C_Refused)))
    {f_pair_lots : Addr} {fd_pair_lots : FuncData} (D_pair_lots : Df Z.K Z.mg "pair_lots" s_pair_lots ["machine", "one", "other"] f_pair_lots fd_pair_lots) (G_pair_lots : FnD Z.Pg Z.w Z.K Z.mg Z.base (L2.CX Z.Pg Z.w) 59 f_pair_lots fd_pair_lots ["machine", "one", "other"] (spT Z (T_pair_lots C_BadMachine C_Refused)))
    {f_parting : Addr} {fd_parting : FuncData} (D_parting : Df Z.K Z.mg "parting" s_parting ["machine", "one", "other"] f_parting fd_parting) (G_parting : FnD Z.Pg Z.w Z.K Z.mg Z.base (L2.CX Z.Pg Z.w) 59 f_parting fd_parting ["machine", "one", "other"] (spT Z (T_parting C_BadMachine C_Refused)))
    {f_law_heard : Addr} {fd_law_heard : FuncData} (D_law_heard : Df Z.K Z.mg "_law_heard" s_law_heard ["ask"] f_law_heard fd_law_heard) (G_law_heard : FnD Z.Pg Z.w Z.K Z.mg Z.base CX0 63 f_law_heard fd_law_heard ["ask"] (spT Z (heardT 62 (TH_heard C_BadMachine C_Refused)))) : FnD Z.Pg Z.w Z.K Z.mg Z.base CX0 64 f fd ["script"] (spT Z (T_law)) := by
  refine okDC F sc_law (fun as Q er h => ?_) (fun A outer s H E G0 ca hr hgd hca => (dss_cons (ds_for PassesOwn.never rfl (di_range (by rfl) T.range (de_max2 rfl (by rfl) T.max de_int (de_min2 rfl (by rfl) T.min (de_callB call_lenA cd_len (by rfl) T.len (by decide +kernel) (dr_var 0)) de_int))) (dg_name (i := 1) sc_law.nd rfl (Or.inl rfl))
        (dss_cons (ds_drop 2 (by decide) (ds_ownCall (i := 2) sc_law.nd rfl (Or.inr rfl) G_law_box hr hgd (by rfl) D_law_box.g D_law_box.F.kp D_law_box.b (drs_cons (dr_var 0) (drs_cons (dr_var 1) drs_nil))))
        (dss_cons (ds_asg (de_tup (da_cons (de_op op_addA od_add (dr_of de_int) (dr_of (de_call G_law_take hr hgd (by rfl) D_law_take.g D_law_take.F.kp D_law_take.b (drs_cons (dr_var 2) (drs_cons (dr_of de_int) drs_nil))))) (da_cons (de_op op_addA od_add (dr_of de_int) (dr_of (de_call G_law_take hr hgd (by rfl) D_law_take.g D_law_take.F.kp D_law_take.b (drs_cons (dr_var 2) (drs_cons (dr_of de_int) drs_nil))))) da_nil))) (dg_seq (m := 2) rfl (dgs_cons (dg_name (i := 3) sc_law.nd rfl (Or.inr rfl)) (dgs_cons (dg_name (i := 4) sc_law.nd rfl (Or.inr rfl)) dgs_nil))))
        (dss_cons (ds_asg (de_tup (da_cons (de_call G_law_machine hr hgd (by rfl) D_law_machine.g D_law_machine.F.kp D_law_machine.b (drs_cons (dr_var 2) (drs_cons (dr_var 3) (drs_cons (dr_var 4) drs_nil)))) (da_cons (de_call G_law_take hr hgd (by rfl) D_law_take.g D_law_take.F.kp D_law_take.b (drs_cons (dr_var 2) (drs_cons (dr_of de_int) drs_nil))) da_nil))) (dg_seq (m := 2) rfl (dgs_cons (dg_name (i := 5) sc_law.nd rfl (Or.inr rfl)) (dgs_cons (dg_name (i := 6) sc_law.nd rfl (Or.inr rfl)) dgs_nil))))
        (dss_cons (ds_asg (de_of_df (df_lc (own := [("each", 17)]) rfl sc_law.nd (di_range (by rfl) T.range de_int) (blkOk_by (own := [("each", 17)]) (N := ["script", "k", "box", "inner", "top", "machine", "depth", "one", "other", "turn", "odd", "bad", "asks", "ask", "value", "due", "told", "each", "level"]) (sc := defScope s_law) (by decide +kernel)) (fun _ _ _ _ _ => (dg_name (i := 17) sc_law.nd rfl (Or.inl rfl))) (fun _ _ _ _ _ => dts_nil) (fun _ _ _ _ _ => (de_op op_addA od_add (dr_of (de_tup (da_cons (de_call G_law_take hr hgd (by rfl) D_law_take.g D_law_take.F.kp D_law_take.b (drs_cons (dr_var 2) (drs_cons (dr_var 4) drs_nil))) da_nil))) (dr_of (de_callTy call_tupleF cd_tuple (by rfl) T.tuple (by decide +kernel) (dr_of (de_of_df (df_lc (own := [("level", 18)]) rfl sc_law.nd (di_range (by rfl) T.range (de_var 6)) (blkOk_by (own := [("level", 18)]) (N := ["script", "k", "box", "inner", "top", "machine", "depth", "one", "other", "turn", "odd", "bad", "asks", "ask", "value", "due", "told", "each", "level"]) (sc := { kind := ScopeKind.function, names := [(".0", NameKind.local), ("each", NameKind.local), ("_law_take", NameKind.globalImplicit), ("tuple", NameKind.globalImplicit), ("range", NameKind.globalImplicit), ("box", NameKind.cell), ("depth", NameKind.cell), ("inner", NameKind.cell), ("top", NameKind.cell)], isGenerator := false, isCoroutine := false }) (by decide +kernel)) (fun _ _ _ _ _ => (dg_name (i := 18) sc_law.nd rfl (Or.inl rfl))) (fun _ _ _ _ _ => dts_nil) (fun _ _ _ _ _ => (de_call G_law_take hr hgd (by rfl) D_law_take.g D_law_take.F.kp D_law_take.b (drs_cons (dr_var 2) (drs_cons (dr_var 3) drs_nil))))))))))))) (dg_seq (m := 2) rfl (dgs_cons (dg_name (i := 7) sc_law.nd rfl (Or.inr rfl)) (dgs_cons (dg_name (i := 8) sc_law.nd rfl (Or.inl rfl)) dgs_nil))))
        (dss_cons (ds_for PassesOwn.never rfl (di_range (by rfl) T.range de_int) (dg_name (i := 9) sc_law.nd rfl (Or.inl rfl))
          (dss_cons (ds_set (i := 14) sc_law.nd rfl (Or.inl rfl) (de_call G_law_ending hr hgd (by rfl) D_law_ending.g D_law_ending.F.kp D_law_ending.b (drs_cons (dr_var 2) (drs_cons (dr_var 6) drs_nil))))
          (dss_cons (ds_set (i := 15) sc_law.nd rfl (Or.inl rfl) (de_call G_law_due hr hgd (by rfl) D_law_due.g D_law_due.F.kp D_law_due.b (drs_cons (dr_var 5) (drs_cons (dr_var 7) (drs_cons (dr_var 8) (drs_cons (dr_var 14) drs_nil))))))
          (dss_cons (ds_set (i := 16) sc_law.nd rfl (Or.inl rfl) (de_of_df (df_lst (da_cons (de_callX errL_no passes_no (G_parting_holds.mono (by decide)) hr hgd (by rfl) D_parting_holds.g D_parting_holds.F.kp D_parting_holds.b (drs_cons (dr_var 5) (drs_cons (dr_var 7) (drs_cons (dr_var 8) (drs_cons (dr_var 14) drs_nil))))) (da_cons (de_callKX errL_no passes_no (is := [3, 2, 1, 0]) (G_parting_holds.mono (by decide)) hr hgd (by rfl) D_parting_holds.g D_parting_holds.F.kp (kbPick [3, 2, 1, 0] D_parting_holds.F (by decide) (fun _ _ _ _ _ _ ws hl => match ws, hl with | _ :: _ :: _ :: _ :: _, _ => rfl | [], hl => nomatch (show (0 : Nat) = 4 from hl) | [_], hl => nomatch (show (1 : Nat) = 4 from hl) | [_, _], hl => nomatch (show (2 : Nat) = 4 from hl) | [_, _, _], hl => nomatch (show (3 : Nat) = 4 from hl))) (fun _ => rfl) (dks_cons (dr_var 14) (dks_cons (dr_var 8) (dks_cons (dr_of (de_of_df (df_list (by rfl) T.list (dr_var 7)))) (dks_cons (dr_var 5) dks_nil))))) da_nil)))))
          (dss_one (ds_if (dt_cmp (op_neA hr.units) od_ne (dr_of (de_callB (call_reprA hgd hr.units) cd_repr (by rfl) T.repr (by decide +kernel) (dr_var 16))) (dr_of (de_callB (call_reprA hgd hr.units) cd_repr (by rfl) T.repr (by decide +kernel) (dr_of (de_of_df (df_lst (da_cons (de_var 15) (da_cons (de_var 15) da_nil))))))) (nomark _))
            (dss_one (ds_ret de_bl))
            dss_nil))))))
        (dss_cons (ds_set (i := 10) sc_law.nd rfl (Or.inr rfl) (de_call G_law_pick hr hgd (by rfl) D_law_pick.g D_law_pick.F.kp D_law_pick.b (drs_cons (dr_var 2) (drs_cons (dr_of (de_of_df (df_lst (da_cons de_non (da_cons (de_tup da_nil) (da_cons (de_tup (da_cons (de_var 4) da_nil)) (da_cons (de_tup (da_cons de_int (da_cons (de_var 3) da_nil))) (da_cons (de_tup (da_cons de_bl da_nil)) (da_cons de_str da_nil))))))))) drs_nil))))
        (dss_cons (ds_set (i := 11) sc_law.nd rfl (Or.inr rfl) (de_call G_law_pick hr hgd (by rfl) D_law_pick.g D_law_pick.F.kp D_law_pick.b (drs_cons (dr_var 2) (drs_cons (dr_of (de_of_df (df_lst (da_cons (de_op op_addA od_add (dr_var 7) (dr_of (de_tup (da_cons de_int da_nil)))) (da_cons (de_slice (dr_var 7) do_none (do_some (de_neg de_int))) (da_cons (de_var 10) da_nil)))))) drs_nil))))
        (dss_cons (ds_drop 12 (by decide) (ds_lams (ca := ca) (i := 12) sc_law.nd rfl (Or.inl rfl) (dl_cons hca (LamIs.mk (k := 59) (N := ["first", "second", "third"]) (ps := ["first", "second", "third"]) (fr := []) (js := []) (NdefX.nscope_by (by decide +kernel)) (free_by (sc := defScope s_law) rfl (by decide +kernel)) (by decide) rfl (fun _ _ _ _ _ us hl => match us, hl with | [_, _, _], _ => rfl) (fun _ _ _ _ _ _ _ _ _ hEL hrL hgL => (de_callX hEL (passes_call (takes_of rfl rfl rfl rfl) fun _ _ _ _ h => h) G_alike hrL hgL (by rfl) D_alike.g D_alike.F.kp D_alike.b (drs_cons (dr_var 0) (drs_cons (dr_var 1) (drs_cons (dr_var 2) drs_nil)))))) TB hm hu hP dl_nil)))
        (dss_cons (ds_appLam (ps_expr (pe_bm PySem.F.plainAttrs_list PySem.F.slot_list_append PySem.F.type_list_append mt_append (pv 12) (dl_cons hca (LamIs.mk (k := 59) (N := ["first", "second", "third"]) (ps := ["first", "second", "third"]) (fr := []) (js := []) (NdefX.nscope_by (by decide +kernel)) (free_by (sc := defScope s_law) rfl (by decide +kernel)) (by decide) rfl (fun _ _ _ _ _ us hl => match us, hl with | [_, _, _], _ => rfl) (fun _ _ _ _ _ _ _ _ _ hEL hrL hgL => (de_callX hEL (passes_call (takes_of rfl rfl rfl rfl) fun _ _ _ _ h => h) G_pair_lots hrL hgL (by rfl) D_pair_lots.g D_pair_lots.F.kp D_pair_lots.b (drs_cons (dr_var 0) (drs_cons (dr_var 1) (drs_cons (dr_var 2) drs_nil)))))) TB hm hu hP dl_nil))))
        (dss_cons (ds_appLam (ps_expr (pe_bm PySem.F.plainAttrs_list PySem.F.slot_list_append PySem.F.type_list_append mt_append (pv 12) (dl_cons hca (LamIs.mk (k := 59) (N := ["first", "second", "third"]) (ps := ["first", "second", "third"]) (fr := []) (js := []) (NdefX.nscope_by (by decide +kernel)) (free_by (sc := defScope s_law) rfl (by decide +kernel)) (by decide) rfl (fun _ _ _ _ _ us hl => match us, hl with | [_, _, _], _ => rfl) (fun _ _ _ _ _ _ _ _ _ hEL hrL hgL => (de_callX hEL (passes_call (takes_of rfl rfl rfl rfl) fun _ _ _ _ h => h) G_parting hrL hgL (by rfl) D_parting.g D_parting.F.kp D_parting.b (drs_cons (dr_var 0) (drs_cons (dr_var 1) (drs_cons (dr_var 2) drs_nil)))))) TB hm hu hP dl_nil))))
        (dss_cons (ds_appLam (ps_expr (pe_bm PySem.F.plainAttrs_list PySem.F.slot_list_append PySem.F.type_list_append mt_append (pv 12) (dl_cons hca (LamIs.mk (k := 59) (N := ["first", "second", "third"]) (ps := ["first", "second", "third"]) (fr := []) (js := []) (NdefX.nscope_by (by decide +kernel)) (free_by (sc := defScope s_law) rfl (by decide +kernel)) (by decide) rfl (fun _ _ _ _ _ us hl => match us, hl with | [_, _, _], _ => rfl) (fun _ _ _ _ _ _ _ _ _ hEL hrL hgL => (de_callX hEL (passes_call (takes_of rfl rfl rfl rfl) fun _ _ _ _ h => h) G_parting_holds hrL hgL (by rfl) D_parting_holds.g D_parting_holds.F.kp D_parting_holds.b (drs_cons (dr_var 0) (drs_cons (dr_var 1) (drs_cons (dr_var 2) (drs_cons (dr_of de_non) drs_nil))))))) TB hm hu hP dl_nil))))
        (dss_one (ds_forLams (ca := ca) (ia := 12) (ik := 13) PassesOwn.never rfl sc_law.nd rfl (Or.inl rfl) (by decide) (by decide) (pg_name (i := 13) sc_law.nd rfl (Or.inr rfl) (by first | exact .inl rfl | exact .inr rfl))
          (dss_cons (ds_if (dt_cmp (op_neA hr.units) od_ne (dr_of (de_heardL (ja := [2, 3, 4, 5, 6, 7, 10, 11, 13]) sc_law.nd hca (cj_cons ⟨_, rfl, rfl, rfl⟩ (cj_cons ⟨_, rfl, rfl, rfl⟩ (cj_cons ⟨_, rfl, rfl, rfl⟩ (cj_cons ⟨_, rfl, rfl, rfl⟩ (cj_cons ⟨_, rfl, rfl, rfl⟩ (cj_cons ⟨_, rfl, rfl, rfl⟩ (cj_cons ⟨_, rfl, rfl, rfl⟩ (cj_cons ⟨_, rfl, rfl, rfl⟩ (cj_cons ⟨_, rfl, rfl, rfl⟩ cj_nil))))))))) (LamIs.mk (k := 61) (N := ["ask", "odd", "machine"]) (ps := []) (fr := ["ask", "odd", "machine"]) (js := [13, 10, 5]) (NdefX.nscope_by (by decide +kernel)) (free_by (sc := defScope s_law) rfl (by decide +kernel)) (by decide) rfl (fun _ _ _ _ _ us hl => match us, hl with | [], _ => rfl) (fun _ _ _ _ _ _ _ _ _ hEL hrL hgL => (de_askAL hEL (passes_call (takes_of rfl rfl rfl rfl) fun _ _ _ _ h => h) hrL hgL (rfl : 0 = 0) (da_cons (de_slice (dr_var 2) do_none (do_some de_int)) (da_cons (de_var 1) (da_cons (de_var 1) da_nil))) (by rfl) (by first | exact Or.inl rfl | exact Or.inr (Or.inl rfl) | exact Or.inr (Or.inr rfl)) (by decide) (by decide) (by rfl) (by rfl)))) (by decide) (by decide) hst TB hm hu hP G_law_heard hr hgd (by rfl) D_law_heard.g D_law_heard.F.kp D_law_heard.b)) (dr_of (de_tup (da_cons de_str (da_cons (de_op op_sub od_sub (dr_of de_int) (dr_of de_int)) (da_cons de_bl da_nil))))) (nomark _))
            (dss_one (ds_ret de_bl))
            dss_nil)
          (dss_cons (ds_if (dt_cmp (op_neA hr.units) od_ne (dr_of (de_heardL (ja := [2, 3, 4, 5, 6, 7, 10, 11, 13]) sc_law.nd hca (cj_cons ⟨_, rfl, rfl, rfl⟩ (cj_cons ⟨_, rfl, rfl, rfl⟩ (cj_cons ⟨_, rfl, rfl, rfl⟩ (cj_cons ⟨_, rfl, rfl, rfl⟩ (cj_cons ⟨_, rfl, rfl, rfl⟩ (cj_cons ⟨_, rfl, rfl, rfl⟩ (cj_cons ⟨_, rfl, rfl, rfl⟩ (cj_cons ⟨_, rfl, rfl, rfl⟩ (cj_cons ⟨_, rfl, rfl, rfl⟩ cj_nil))))))))) (LamIs.mk (k := 61) (N := ["ask", "machine", "odd", "bad"]) (ps := []) (fr := ["ask", "machine", "odd", "bad"]) (js := [13, 5, 10, 11]) (NdefX.nscope_by (by decide +kernel)) (free_by (sc := defScope s_law) rfl (by decide +kernel)) (by decide) rfl (fun _ _ _ _ _ us hl => match us, hl with | [], _ => rfl) (fun _ _ _ _ _ _ _ _ _ hEL hrL hgL => (de_askAL hEL (passes_call (takes_of rfl rfl rfl rfl) fun _ _ _ _ h => h) hrL hgL (rfl : 0 = 0) (da_cons (de_var 1) (da_cons (de_var 2) (da_cons (de_var 3) da_nil))) (by rfl) (by first | exact Or.inl rfl | exact Or.inr (Or.inl rfl) | exact Or.inr (Or.inr rfl)) (by decide) (by decide) (by rfl) (by rfl)))) (by decide) (by decide) hst TB hm hu hP G_law_heard hr hgd (by rfl) D_law_heard.g D_law_heard.F.kp D_law_heard.b)) (dr_of (de_tup (da_cons de_str (da_cons (de_callB (call_reprA hgd hr.units) cd_repr (by rfl) T.repr (by decide +kernel) (dr_var 10)) (da_cons de_bl da_nil))))) (nomark _))
            (dss_one (ds_ret de_bl))
            dss_nil)
          (dss_one (ds_if (dt_cmp (op_neA hr.units) od_ne (dr_of (de_heardL (ja := [2, 3, 4, 5, 6, 7, 10, 11, 13]) sc_law.nd hca (cj_cons ⟨_, rfl, rfl, rfl⟩ (cj_cons ⟨_, rfl, rfl, rfl⟩ (cj_cons ⟨_, rfl, rfl, rfl⟩ (cj_cons ⟨_, rfl, rfl, rfl⟩ (cj_cons ⟨_, rfl, rfl, rfl⟩ (cj_cons ⟨_, rfl, rfl, rfl⟩ (cj_cons ⟨_, rfl, rfl, rfl⟩ (cj_cons ⟨_, rfl, rfl, rfl⟩ (cj_cons ⟨_, rfl, rfl, rfl⟩ cj_nil))))))))) (LamIs.mk (k := 61) (N := ["ask", "machine", "one", "bad"]) (ps := []) (fr := ["ask", "machine", "one", "bad"]) (js := [13, 5, 7, 11]) (NdefX.nscope_by (by decide +kernel)) (free_by (sc := defScope s_law) rfl (by decide +kernel)) (by decide) rfl (fun _ _ _ _ _ us hl => match us, hl with | [], _ => rfl) (fun _ _ _ _ _ _ _ _ _ hEL hrL hgL => (de_askAL hEL (passes_call (takes_of rfl rfl rfl rfl) fun _ _ _ _ h => h) hrL hgL (rfl : 0 = 0) (da_cons (de_var 1) (da_cons (de_var 2) (da_cons (de_var 3) da_nil))) (by rfl) (by first | exact Or.inl rfl | exact Or.inr (Or.inl rfl) | exact Or.inr (Or.inr rfl)) (by decide) (by decide) (by rfl) (by rfl)))) (by decide) (by decide) hst TB hm hu hP G_law_heard hr hgd (by rfl) D_law_heard.g D_law_heard.F.kp D_law_heard.b)) (dr_of (de_tup (da_cons de_str (da_cons (de_callB (call_reprA hgd hr.units) cd_repr (by rfl) T.repr (by decide +kernel) (dr_var 11)) (da_cons de_bl da_nil))))) (nomark _))
            (dss_one (ds_ret de_bl))
            dss_nil))))))))))))))))))
      (dss_one (ds_ret de_bl)))) (fun ca as Q er h => ?_)
  · obtain ⟨D, rfl, _⟩ := t1_inv h
    rfl
  · obtain ⟨D, rfl, ns, rfl, hl, q⟩ := t1_inv h
    refine dSeq_for fun B N hB hN => ?_
    walk_at "d"
    have b62 : (2 : Int) ^ 62 = 4611686018427387904 := by decide
    rw [b62]
    refine ⟨by split <;> omega, by split <;> (split <;> omega), ?_⟩
    have rm : ∀ d ∈ rngD 0 (if (if 6 < ((List.map PyData.int ns).length : Int) then 6 else ((List.map PyData.int ns).length : Int)) > 3 then if 6 < ((List.map PyData.int ns).length : Int) then 6 else ((List.map PyData.int ns).length : Int) else 3).toNat, ∃ k : Nat, d = .int (k : Nat) ∧ k < 1000 := fun d m => by
      unfold rngD at m
      obtain ⟨k, mk, rfl⟩ := List.mem_map.mp m
      have := List.mem_range.mp mk
      exact ⟨k, by rw [Int.zero_add], by revert this; split <;> (try split) <;> omega⟩
    refine forW_go (fun ds ρ => (∀ d ∈ ds, ∃ k : Nat, d = .int (k : Nat) ∧ k < 1000) ∧ LwJ (.list (ns.map .int)) ρ) ?_ ?_ _ _ ⟨rm, rfl, rfl, fun i _ _ => ?_⟩
    · rintro ρ ⟨_, j⟩
      obtain ⟨s1, s2, s3, s4, s5, s6, s7, s8, s9, s10, s11, s12, s13, s14, s15, s16, s17, s18, rfl, h1, h3, h4, h5, h6, h7, h8, h9, h10, h11, h13, h14, h15, h16, h17, h18⟩ := lwj_of j
      subst hN
      walk_at "d"
      exact q
    · rintro K d ds ρ ⟨hd, j⟩ ih
      obtain ⟨k, rfl, hk⟩ := hd d List.mem_cons_self
      obtain ⟨s1, s2, s3, s4, s5, s6, s7, s8, s9, s10, s11, s12, s13, s14, s15, s16, s17, s18, rfl, h1, h3, h4, h5, h6, h7, h8, h9, h10, h11, h13, h14, h15, h16, h17, h18⟩ := lwj_of j
      walk_at "d"
      refine ⟨h1, ?_⟩
      subst hB
      refine dSeq_go fun N1 hN1 => ?_
      walk_at "d"
      refine ⟨ns, k, rfl, hl, by omega, by decide, fun b => ?_⟩
      subst hN1
      refine dSeq_go fun N2 hN2 => ?_
      walk_at "d"
      refine ⟨by decide, by decide, fun r r0 r1 => ⟨by decide, by decide, fun s s0 s1 => ?_⟩⟩
      obtain ⟨n, en, n1, n2⟩ : ∃ n : Nat, 2 + r = (n : Int) ∧ 2 ≤ n ∧ n ≤ 3 := ⟨(2 + r).toNat, by omega, by omega, by omega⟩
      obtain ⟨m, em, m1, m2⟩ : ∃ m : Nat, 2 + s = (m : Int) ∧ 2 ≤ m ∧ m ≤ 3 := ⟨(2 + s).toNat, by omega, by omega, by omega⟩
      rw [en, em]
      refine ⟨by decide, h3, h4, ?_⟩
      subst hN2
      refine dSeq_go fun N1 hN1 => ?_
      walk_at "d"
      refine ⟨n, m, rfl, rfl, by omega, by omega, by omega, by omega, fun M ok ⟨lm, eim, etn⟩ => ⟨by decide, by decide, fun dp d0 d1 => ⟨by decide, h5, h6, ?_⟩⟩⟩
      obtain ⟨dp, rfl⟩ : ∃ x : Nat, dp = (x : Int) := ⟨dp.toNat, by omega⟩
      subst hN1
      refine dSeq_go fun N2 hN2 => ?_
      walk_at "d"
      refine ⟨by decide, by decide, h17, lcW_of (fun u : List Nat => .tuple (u.map nD)) (fun u => StOk M u ∧ u.length = dp + 1) (by show (rngD 0 ((2 : Nat) : Int).toNat).length ≤ _; rw [rng_len]; decide) (fun d _ R hR => ?_) fun us lus pus => ?_⟩
      · walk_at "d"
        refine ⟨by omega, by omega, fun t t0 t1 => ⟨by decide, by omega, by omega, h18, lcW_of nD (fun s => s < n) (by rw [rng_len]; omega) (fun d _ R hR => ?_) fun r lr pr => ?_⟩⟩
        · walk_at "d"
          refine ⟨by omega, by omega, fun s s0 s1 => ?_⟩
          obtain ⟨j, rfl⟩ : ∃ j : Nat, s = (j : Int) := ⟨s.toNat, by omega⟩
          exact hR j (by omega)
        · rw [rng_len] at lr
          obtain ⟨j, rfl⟩ : ∃ j : Nat, t = (j : Int) := ⟨t.toNat, by omega⟩
          refine ⟨Nat.le_trans (by rw [List.length_map]; omega : _ ≤ 100) (by decide), hR (j :: r) ⟨⟨fun x hx => by cases hx; omega, fun x hx => by rw [eim]; exact pr x hx, fun z => nomatch z⟩, by rw [List.length_cons, lr]⟩⟩
      have lus : us.length = 2 := lus.trans (rng_len (m := 2))
      obtain ⟨u, v, rfl⟩ : ∃ u v, us = [u, v] := by
        match us, lus with
        | [u, v], _ => exact ⟨u, v, rfl⟩
      obtain ⟨ku, lu⟩ := pus u (by simp)
      obtain ⟨kv, lv⟩ := pus v (by simp)
      refine ⟨rfl, h7, h8, rfl, ?_⟩
      clear pus lus
      subst hN2
      have lu100 : u.length ≤ 100 := by omega
      have oU : OkD (.tuple (u.map nD)) := (okn_T (n := 0) (all_m fun _ _ => okn_int) (by rw [List.length_map]; omega)).ok (by decide)
      have oV : OkD (.tuple (v.map nD)) := (okn_T (n := 0) (all_m fun _ _ => okn_int) (by rw [List.length_map]; omega)).ok (by decide)
      have oUL : OkD (.list (u.map nD)) := (okn_L (n := 0) (all_m fun _ _ => okn_int) (by rw [List.length_map]; omega)).ok (by decide)
      refine dSeq_for fun B N1 hB hN1 => ?_
      walk_at "d"
      refine ⟨by decide, by decide, ?_⟩
      refine forW_go (fun ds ρ => ∃ t9 t14 t15 t16, nbO (some t9) ∧ nbO (some t14) ∧ nbO (some t15) ∧ nbO (some t16) ∧ ρ = [.sh (.list (ns.map .int)), .sh (.int (k : Nat)), .ob b .box, .sh (.int (n : Nat)), .sh (.int (m : Nat)), .sh (maD M), .sh (.int (dp : Nat)), .sh (.tuple (u.map nD)), .sh (.tuple (v.map nD)), t9, s10, s11, s12, s13, t14, t15, t16, s17, s18]) ?_ ?_ _ _ ⟨s9, s14, s15, s16, h9, h14, h15, h16, rfl⟩
      · rintro ρ ⟨t9, t14, t15, t16, k9, k14, k15, k16, rfl⟩
        dsimp only
        subst hN1
        refine dSeq_go fun N2 hN2 => ?_
        walk_at "d"
        refine ⟨by decide, by decide, by decide, by decide, by decide, (by show 0 < 6; decide), (by show 6 < 1000; decide), fun odd mo => ⟨h10, ?_⟩⟩
        have mo : odd ∈ oddSt M := by rw [← eim, ← etn] at mo; exact mo
        obtain ⟨oo, ro, so⟩ := oddSt_ok (by omega) (by omega) mo
        subst hN2
        refine dSeq_go fun N3 hN3 => ?_
        walk_at "d"
        have lu5 : u.length ≤ 4 := by omega
        have bb : 1000 ≤ sizeLine := by decide
        refine ⟨by decide, by rw [List.length_map]; omega, by decide, (by show 0 < 3; decide), (by show 3 < 1000; decide), fun bad mb => ⟨h11, ?_⟩⟩
        obtain ⟨ob, rb, sb⟩ := badSt_ok ku lu5 ⟨oo, ro, so⟩ (by omega) (by omega) mb
        subst hN3
        refine dSeq_go fun N2 hN2 => ?_
        walk_at "d"
        refine ⟨⟨by decide, by decide⟩, fun a => ?_⟩
        subst hN2
        refine dSeq_go fun N3 hN3 => ?_
        walk_at "d"
        refine ⟨by decide, ?_⟩
        subst hN3
        refine dSeq_go fun N2 hN2 => ?_
        walk_at "d"
        refine ⟨by decide, ?_⟩
        subst hN2
        refine dSeq_go fun N3 hN3 => ?_
        walk_at "d"
        refine ⟨by decide, ?_⟩
        subst hN3
        simp only [dForL, List.getElem?_cons_zero, List.getElem?_cons_succ, List.set]
        refine ⟨⟨trivial, by decide⟩, ?_⟩
        refine forLW_go (fun ls ρ => (∀ l ∈ ls, AskP C_BadMachine C_Refused l) ∧ ∃ t13, nbO (some t13) ∧ ρ = [.sh (.list (ns.map .int)), .sh (.int (k : Nat)), .ob b .box, .sh (.int (n : Nat)), .sh (.int (m : Nat)), .sh (maD M), .sh (.int (dp : Nat)), .sh (.tuple (u.map nD)), .sh (.tuple (v.map nD)), t9, .sh odd, .sh bad, .un, t13, t14, t15, t16, s17, s18]) ?_ ?_ _ _ ⟨fun l ml => ?_, s13, h13, rfl⟩
        · rintro ρ ⟨_, t13, k13, rfl⟩
          exact ih _ ⟨fun x m => hd x (List.mem_cons_of_mem _ m), rfl, rfl, fun j e1 e2 => match j, e1, e2 with
            | 0, _, _ => trivial
            | 1, _, _ => trivial
            | 3, _, _ => trivial
            | 4, _, _ => trivial
            | 5, _, _ => trivial
            | 6, _, _ => trivial
            | 7, _, _ => trivial
            | 8, _, _ => trivial
            | 9, _, _ => k9
            | 10, _, _ => trivial
            | 11, _, _ => trivial
            | 13, _, _ => k13
            | 14, _, _ => k14
            | 15, _, _ => k15
            | 16, _, _ => k16
            | 17, _, _ => h17
            | 18, _, _ => h18
            | _ + 19, _, _ => trivial⟩
        · rintro K2 l ls ρ ⟨hl2, t13, k13, rfl⟩ ih2
          obtain ⟨js, W⟩ := l
          obtain ⟨e0, hW⟩ := hl2 _ List.mem_cons_self
          cases e0
          refine ⟨k13, ?_⟩
          refine dSeq_go fun N2 hN2 => ?_
          simp only [maD]
          walk_at "d"
          have b3 : 3 ≤ sizeLine := by decide
          have sm : SeqAt.shaped (.tuple [.str "machine", .int (0 - 1), .bool true]) = true := by decide +kernel
          have sm' : SeqAt.shaped (.tuple [.str "machine", .int (-1), .bool true]) = true := by decide +kernel
          have em : PyData.eqv (.tuple [.str "machine", .int (-1), .bool true]) (.tuple [.str "machine", .int (0 - 1), .bool true]) = true := by decide +kernel
          have rf : ∀ {d : PyData}, d.canLay0 = true → SeqAt.shaped (.tuple [.str "refused", .str (repD d), .bool true]) = true := fun hl => sh_flat fun x m => by
            simp only [List.mem_cons, List.not_mem_nil, or_false] at m
            rcases m with rfl | rfl | rfl
            · exact ⟨by decide +kernel, rfl⟩
            · exact ⟨so_rep hl, rfl⟩
            · exact ⟨rfl, rfl⟩
          have rl : ∀ {d : PyData}, d.canLay0 = true → (PyData.tuple [.str "refused", .str (repD d), .bool true]).canLay0 = true := fun hl => by
            have := rf hl
            unfold SeqAt.shaped at this
            exact (Bool.and_eq_true_iff.mp this).1
          have su := (stk_ok ku).1
          refine ⟨fun j z => z.elim, by decide, fun o => o = .err C_BadMachine (.int (-1)), hW _ _ _ _ oo oo (.inr ⟨-1, ⟨rfl, rfl⟩, rfl⟩), fun o ho => ?_⟩
          subst ho
          refine th_ma ⟨b3, sm', sm, ?_⟩
          rw [em, if_neg (by decide)]
          subst hN2
          refine dSeq_go fun N3 hN3 => ?_
          walk_at "d"
          refine ⟨fun j z => z.elim, by decide, fun o => o = .err C_Refused odd, hW _ _ _ _ oo ob (.inl ⟨M, .inl rfl, ok, .inl ⟨so, rfl⟩⟩), fun o ho => ?_⟩
          subst ho
          refine th_re ro ⟨ro, b3, rf oo.lay, rf oo.lay, ?_⟩
          rw [eqv_l (rl oo.lay), if_neg (by decide)]
          subst hN3
          walk_at "d"
          refine ⟨fun j z => z.elim, by decide, fun o => o = .err C_Refused bad, hW _ _ _ _ oU ob (.inl ⟨M, .inl rfl, ok, .inr ⟨su, ?_⟩⟩), fun o ho => ?_⟩
          · rcases sb with e | ⟨e, e2⟩
            · exact .inl ⟨e, rfl⟩
            · exact .inr ⟨e, by show (u.map nD).length ≠ _; rw [List.length_map]; exact e2, rfl⟩
          subst ho
          refine th_re rb ⟨rb, b3, rf ob.lay, rf ob.lay, ?_⟩
          rw [eqv_l (rl ob.lay), if_neg (by decide)]
          exact ih2 _ ⟨fun l m => hl2 l (List.mem_cons_of_mem _ m), .ask _, trivial, rfl⟩
        · simp only [List.mem_cons, List.not_mem_nil, or_false] at ml
          rcases ml with rfl | rfl | rfl | rfl
          · refine ⟨rfl, fun D X Y Ro hX hY h => ⟨rfl, ?_⟩⟩
            simp only [lamSto, List.map_cons, List.map_nil, List.length_cons, List.length_nil, List.cons_append, List.nil_append]
            walk_at "d"
            exact ⟨hX, hY, h⟩
          · refine ⟨rfl, fun D X Y Ro hX hY h => ⟨rfl, ?_⟩⟩
            simp only [lamSto, List.map_cons, List.map_nil, List.length_cons, List.length_nil, List.cons_append, List.nil_append]
            walk_at "d"
            exact ⟨hX, hY, h⟩
          · refine ⟨rfl, fun D X Y Ro hX hY h => ⟨rfl, ?_⟩⟩
            simp only [lamSto, List.map_cons, List.map_nil, List.length_cons, List.length_nil, List.cons_append, List.nil_append]
            walk_at "d"
            exact ⟨hX, hY, h⟩
          · refine ⟨rfl, fun D X Y Ro hX hY h => ⟨rfl, ?_⟩⟩
            simp only [lamSto, List.map_cons, List.map_nil, List.length_cons, List.length_nil, List.cons_append, List.nil_append]
            walk_at "d"
            exact ⟨hX, hY, ⟨rfl, rfl, Nat.zero_le _⟩, .inl h⟩
      · rintro K2 x ds2 ρ ⟨t9, t14, t15, t16, k9, k14, k15, k16, rfl⟩ ih2
        walk_at "d"
        refine ⟨k9, ?_⟩
        subst hB
        refine dSeq_go fun N2 hN2 => ?_
        walk_at "d"
        refine ⟨dp, rfl, by omega, fun V hV => ⟨k14, ?_⟩⟩
        obtain ⟨vo, vl, vd⟩ := endV_ok hV
        subst hN2
        refine dSeq_go fun N3 hN3 => ?_
        walk_at "d"
        refine ⟨M, u, v, rfl, ok, rfl, rfl, ku, kv, by omega, lu100, vl, vd, k15, ?_⟩
        subst hN3
        refine dSeq_go fun N4 hN4 => ?_
        walk_at "d"
        refine ⟨oU, oV, vo, .inr ⟨M, u, v, .inl rfl, ok, rfl, rfl, ku, kv, by omega, ?_⟩⟩
        refine ⟨oUL, oV, vo, .inr ⟨M, u, v, .inl rfl, ok, rfl, rfl, ku, kv, by omega, by decide, k16, ?_⟩⟩
        subst hN4
        walk_at "d"
        have rb : repOk (PyData.list [.bool (partB M u v V), .bool (partB M u v V)]) := gl_repL (gl_lst (h := 0) (W := 12) 2 (gl_allc (gl_bool _) (gl_all1 (gl_bool _))) (Nat.le_refl 2)) (by decide) (by decide)
        refine ⟨rb, by decide, rb, ?_⟩
        rw [if_neg (by simp)]
        exact ih2 _ ⟨_, _, _, _, (show nbO (some (Lc.sh _)) from trivial), (show nbO (some (Lc.sh _)) from trivial), (show nbO (some (Lc.sh _)) from trivial), (show nbO (some (Lc.sh _)) from trivial), rfl⟩
    · match i with
      | 0 => trivial
      | 1 => trivial
      | 2 => trivial
      | 3 => trivial
      | 4 => trivial
      | 5 => trivial
      | 6 => trivial
      | 7 => trivial
      | 8 => trivial
      | 9 => trivial
      | 10 => trivial
      | 11 => trivial
      | 12 => trivial
      | 13 => trivial
      | 14 => trivial
      | 15 => trivial
      | 16 => trivial
      | 17 => trivial
      | 18 => trivial
      | _ + 19 => trivial
end
end Lw
set_option Elab.async false
set_option linter.all false
set_option maxRecDepth 100000
set_option maxHeartbeats 8000000
namespace K6
open PySem PySem.Spec PyProof PyProof.Rows L2 So Dl Lw
theorem scIni_BadMachine : FnScope ["self", "at"] ["self", "at"] (defScope (inClass c_BadMachine 0)) := ⟨rfl, rfl, rfl, by decide +kernel, rfl, by decide +kernel, by decide +kernel⟩
theorem ok_ini_BadMachine {Z : Zw} {C fI : Addr} {fdI : FuncData} (B : Er Z.K Z.mg "BadMachine" "BadMachine.__init__" "at" c_BadMachine C fI fdI) : FnOk Z.Pg Z.w Z.K Z.mg Z.base CX0 1 fI fdI ["self", "at"] (spIni C "at") := by
  refine B.F.ok scIni_BadMachine (fun vs H Q E h => ?_) (fun cdv A outer s H vs Q E hr h => ?_)
  · obtain ⟨a, v, rfl, _⟩ := h
    rfl
  · obtain ⟨a, v, rfl, ha, k⟩ := h
    exact ⟨_, pss_one (ps_ost (pv 0) (pv 1)), _, rfl, _, rfl, a, C, rfl, B.T, B.na, .inl ⟨ha, fun dx n ne => k dx n ne⟩⟩
theorem scIni_Refused : FnScope ["self", "at"] ["self", "at"] (defScope (inClass c_Refused 0)) := ⟨rfl, rfl, rfl, by decide +kernel, rfl, by decide +kernel, by decide +kernel⟩
theorem ok_ini_Refused {Z : Zw} {C fI : Addr} {fdI : FuncData} (B : Er Z.K Z.mg "Refused" "Refused.__init__" "at" c_Refused C fI fdI) : FnOk Z.Pg Z.w Z.K Z.mg Z.base CX0 1 fI fdI ["self", "at"] (spIni C "at") := by
  refine B.F.ok scIni_Refused (fun vs H Q E h => ?_) (fun cdv A outer s H vs Q E hr h => ?_)
  · obtain ⟨a, v, rfl, _⟩ := h
    rfl
  · obtain ⟨a, v, rfl, ha, k⟩ := h
    exact ⟨_, pss_one (ps_ost (pv 0) (pv 1)), _, rfl, _, rfl, a, C, rfl, B.T, B.na, .inl ⟨ha, fun dx n ne => k dx n ne⟩⟩
theorem scIni_BadStream : FnScope ["self", "at"] ["self", "at"] (defScope (inClass c_BadStream 0)) := ⟨rfl, rfl, rfl, by decide +kernel, rfl, by decide +kernel, by decide +kernel⟩
theorem ok_ini_BadStream {Z : Zw} {C fI : Addr} {fdI : FuncData} (B : Er Z.K Z.mg "BadStream" "BadStream.__init__" "at" c_BadStream C fI fdI) : FnOk Z.Pg Z.w Z.K Z.mg Z.base CX0 1 fI fdI ["self", "at"] (spIni C "at") := by
  refine B.F.ok scIni_BadStream (fun vs H Q E h => ?_) (fun cdv A outer s H vs Q E hr h => ?_)
  · obtain ⟨a, v, rfl, _⟩ := h
    rfl
  · obtain ⟨a, v, rfl, ha, k⟩ := h
    exact ⟨_, pss_one (ps_ost (pv 0) (pv 1)), _, rfl, _, rfl, a, C, rfl, B.T, B.na, .inl ⟨ha, fun dx n ne => k dx n ne⟩⟩
def tabL (P1 : Addr) : List Addr := [P1]
/-- what is known of the program behind its top -/
def Known (Pg : Program) (w : World) (K : PySem.W.Frag) (mg : Str → Option Value) (fa : Addr) : Prop := ∃ (c0 P0 c1 P1 : Addr) (fd : FuncData), PySem.W.tabIn K "is_label" = some (c0, P0) ∧ K.lookup P0 = none ∧ PySem.W.tabIn K "law" = some (c1, P1) ∧ K.lookup P1 = none ∧
  (∀ (s : Shared) (u : Value), BindsTo s fd ⟨[u], []⟩ [("script", u)]) ∧
  ∀ base : Heap, K.In base → base.Ns mainGlobals mg → GxR.TabB base mg c0 P0 → GxR.TabB base mg c1 P1 → SoG.GOk Pg w K mg base fa fd (spLawS K (P0 :: tabL P1))
theorem all_mk {Pg : Program} {w : World} {K : PySem.W.Frag} {h : Heap} {mg : Str → Option Value} {fa O : Addr} (X : K.In h) (G : h.Ns mainGlobals mg) (hfa : mg "law" = some (.ref fa))
    {f1 f2 f3 f4 f5 f6 f7 f8 f9 f10 f11 f12 f13 f14 f15 f16 f17 f18 f19 f20 f21 f22 f23 f24 f25 f26 f27 f28 f29 f30 f31 f32 f33 f34 f35 f36 f37 f38 f39 f40 f41 f42 f43 f44 f45 f46 f47 f48 f49 q8 P8 q49 P49 : Addr}
    {od1 an1 od2 an2 od3 an3 od4 an4 od5 an5 od6 an6 od7 an7 od8 an8 od9 an9 od10 an10 od11 an11 od12 an12 od13 an13 od14 an14 od15 an15 od16 an16 od17 an17 od18 an18 od19 an19 od20 an20 od21 an21 od22 an22 od23 an23 od24 an24 od25 an25 od26 an26 od27 an27 od28 an28 od29 an29 od30 an30 od31 an31 od32 an32 od33 an33 od34 an34 od35 an35 od36 an36 od37 an37 od38 an38 od39 an39 od40 an40 od41 an41 od42 an42 od43 an43 od44 an44 od45 an45 od46 an46 od47 an47 od48 an48 od49 an49 u8 u49 : Option Addr} {sl1 sl2 sl3 sl4 sl5 sl6 sl7 sl8 sl9 sl10 sl11 sl12 sl13 sl14 sl15 sl16 sl17 sl18 sl19 sl20 sl21 sl22 sl23 sl24 sl25 sl26 sl27 sl28 sl29 sl30 sl31 sl32 sl33 sl34 sl35 sl36 sl37 sl38 sl39 sl40 sl41 sl42 sl43 sl44 sl45 sl46 sl47 sl48 sl49 x8 x49 : Array (Option Value)} {oc1 kV1 dc1 pm1 ct1 oc2 kV2 dc2 pm2 ct2 oc3 kV3 dc3 pm3 ct3 oc4 kV4 dc4 pm4 ct4 oc5 kV5 dc5 pm5 ct5 oc6 kV6 dc6 pm6 ct6 oc7 kV7 dc7 pm7 ct7 oc8 kV8 dc8 pm8 ct8 oc9 kV9 dc9 pm9 ct9 oc10 kV10 dc10 pm10 ct10 oc11 kV11 dc11 pm11 ct11 oc12 kV12 dc12 pm12 ct12 oc13 kV13 dc13 pm13 ct13 oc14 kV14 dc14 pm14 ct14 oc15 kV15 dc15 pm15 ct15 oc16 kV16 dc16 pm16 ct16 oc17 kV17 dc17 pm17 ct17 oc18 kV18 dc18 pm18 ct18 oc19 kV19 dc19 pm19 ct19 oc20 kV20 dc20 pm20 ct20 oc21 kV21 dc21 pm21 ct21 oc22 kV22 dc22 pm22 ct22 oc23 kV23 dc23 pm23 ct23 oc24 kV24 dc24 pm24 ct24 oc25 kV25 dc25 pm25 ct25 oc26 kV26 dc26 pm26 ct26 oc27 kV27 dc27 pm27 ct27 oc28 kV28 dc28 pm28 ct28 oc29 kV29 dc29 pm29 ct29 oc30 kV30 dc30 pm30 ct30 oc31 kV31 dc31 pm31 ct31 oc32 kV32 dc32 pm32 ct32 oc33 kV33 dc33 pm33 ct33 oc34 kV34 dc34 pm34 ct34 oc35 kV35 dc35 pm35 ct35 oc36 kV36 dc36 pm36 ct36 oc37 kV37 dc37 pm37 ct37 oc38 kV38 dc38 pm38 ct38 oc39 kV39 dc39 pm39 ct39 oc40 kV40 dc40 pm40 ct40 oc41 kV41 dc41 pm41 ct41 oc42 kV42 dc42 pm42 ct42 oc43 kV43 dc43 pm43 ct43 oc44 kV44 dc44 pm44 ct44 oc45 kV45 dc45 pm45 ct45 oc46 kV46 dc46 pm46 ct46 oc47 kV47 dc47 pm47 ct47 oc48 kV48 dc48 pm48 ct48 oc49 kV49 dc49 pm49 ct49 cd1 cd2 cd3 cd4 cd5 cd6 cd7 cd9 cd10 cd11 cd12 cd13 cd14 cd15 cd16 cd17 cd18 cd19 cd20 cd21 cd22 cd23 cd24 cd25 cd26 cd27 cd28 cd29 cd30 cd31 cd32 cd33 cd34 cd35 cd36 cd37 cd38 cd39 cd40 cd41 cd42 cd43 cd44 cd45 cd46 cd47 cd48 y8 y49 : Value} {vs8 vs49 : Array Value} {t_LETTERS t_LABEL_MOST t_TEXT_MOST t_LABELS_MOST t_TEXTS_MOST t_STATES_MOST t_WORDS_MOST : Tok}
    (a1 : PySem.W.nsIn K mainGlobals "is_number" = some (some (.ref f1))) (l1 : K.lookup f1 = some ⟨oc1, od1, .func (PySem.W.fnOf "is_number" "is_number" (defArgs s_is_number) (defBody s_is_number) (defScope s_is_number) .none kV1 dc1 pm1 an1 cd1 ct1), sl1⟩) (c1 : PySem.W.codeIn K cd1 "is_number" = true) (k1 : PySem.W.keepIn K (.ref f1) = true)
    (a2 : PySem.W.nsIn K mainGlobals "is_number_below" = some (some (.ref f2))) (l2 : K.lookup f2 = some ⟨oc2, od2, .func (PySem.W.fnOf "is_number_below" "is_number_below" (defArgs s_is_number_below) (defBody s_is_number_below) (defScope s_is_number_below) .none kV2 dc2 pm2 an2 cd2 ct2), sl2⟩) (c2 : PySem.W.codeIn K cd2 "is_number_below" = true) (k2 : PySem.W.keepIn K (.ref f2) = true)
    (a3 : PySem.W.nsIn K mainGlobals "is_sequence" = some (some (.ref f3))) (l3 : K.lookup f3 = some ⟨oc3, od3, .func (PySem.W.fnOf "is_sequence" "is_sequence" (defArgs s_is_sequence) (defBody s_is_sequence) (defScope s_is_sequence) .none kV3 dc3 pm3 an3 cd3 ct3), sl3⟩) (c3 : PySem.W.codeIn K cd3 "is_sequence" = true) (k3 : PySem.W.keepIn K (.ref f3) = true)
    (a4 : PySem.W.nsIn K mainGlobals "is_row_of" = some (some (.ref f4))) (l4 : K.lookup f4 = some ⟨oc4, od4, .func (PySem.W.fnOf "is_row_of" "is_row_of" (defArgs s_is_row_of) (defBody s_is_row_of) (defScope s_is_row_of) .none kV4 dc4 pm4 an4 cd4 ct4), sl4⟩) (c4 : PySem.W.codeIn K cd4 "is_row_of" = true) (k4 : PySem.W.keepIn K (.ref f4) = true)
    (a5 : PySem.W.nsIn K mainGlobals "is_text" = some (some (.ref f5))) (l5 : K.lookup f5 = some ⟨oc5, od5, .func (PySem.W.fnOf "is_text" "is_text" (defArgs s_is_text) (defBody s_is_text) (defScope s_is_text) .none kV5 dc5 pm5 an5 cd5 ct5), sl5⟩) (c5 : PySem.W.codeIn K cd5 "is_text" = true) (k5 : PySem.W.keepIn K (.ref f5) = true)
    (a6 : PySem.W.nsIn K mainGlobals "is_map" = some (some (.ref f6))) (l6 : K.lookup f6 = some ⟨oc6, od6, .func (PySem.W.fnOf "is_map" "is_map" (defArgs s_is_map) (defBody s_is_map) (defScope s_is_map) .none kV6 dc6 pm6 an6 cd6 ct6), sl6⟩) (c6 : PySem.W.codeIn K cd6 "is_map" = true) (k6 : PySem.W.keepIn K (.ref f6) = true)
    (a7 : PySem.W.nsIn K mainGlobals "are_maps" = some (some (.ref f7))) (l7 : K.lookup f7 = some ⟨oc7, od7, .func (PySem.W.fnOf "are_maps" "are_maps" (defArgs s_are_maps) (defBody s_are_maps) (defScope s_are_maps) .none kV7 dc7 pm7 an7 cd7 ct7), sl7⟩) (c7 : PySem.W.codeIn K cd7 "are_maps" = true) (k7 : PySem.W.keepIn K (.ref f7) = true)
    (a8 : PySem.W.nsIn K mainGlobals "is_label" = some (some (.ref f8))) (l8 : K.lookup f8 = some ⟨oc8, od8, .func (PySem.W.fnOf "is_label" "is_label" (defArgs s_is_label) (defBody s_is_label) (defScope s_is_label) .none kV8 dc8 pm8 an8 (.ref q8) ct8), sl8⟩) (c8 : PySem.W.codeIn K (.ref q8) "is_label" = true) (k8 : PySem.W.keepIn K (.ref f8) = true)
    (a9 : PySem.W.nsIn K mainGlobals "_is_ascending" = some (some (.ref f9))) (l9 : K.lookup f9 = some ⟨oc9, od9, .func (PySem.W.fnOf "_is_ascending" "_is_ascending" (defArgs s_is_ascending) (defBody s_is_ascending) (defScope s_is_ascending) .none kV9 dc9 pm9 an9 cd9 ct9), sl9⟩) (c9 : PySem.W.codeIn K cd9 "_is_ascending" = true) (k9 : PySem.W.keepIn K (.ref f9) = true)
    (a10 : PySem.W.nsIn K mainGlobals "is_state_count" = some (some (.ref f10))) (l10 : K.lookup f10 = some ⟨oc10, od10, .func (PySem.W.fnOf "is_state_count" "is_state_count" (defArgs s_is_state_count) (defBody s_is_state_count) (defScope s_is_state_count) .none kV10 dc10 pm10 an10 cd10 ct10), sl10⟩) (c10 : PySem.W.codeIn K cd10 "is_state_count" = true) (k10 : PySem.W.keepIn K (.ref f10) = true)
    (a11 : PySem.W.nsIn K mainGlobals "is_answer" = some (some (.ref f11))) (l11 : K.lookup f11 = some ⟨oc11, od11, .func (PySem.W.fnOf "is_answer" "is_answer" (defArgs s_is_answer) (defBody s_is_answer) (defScope s_is_answer) .none kV11 dc11 pm11 an11 cd11 ct11), sl11⟩) (c11 : PySem.W.codeIn K cd11 "is_answer" = true) (k11 : PySem.W.keepIn K (.ref f11) = true)
    (a12 : PySem.W.nsIn K mainGlobals "as_tuples" = some (some (.ref f12))) (l12 : K.lookup f12 = some ⟨oc12, od12, .func (PySem.W.fnOf "as_tuples" "as_tuples" (defArgs s_as_tuples) (defBody s_as_tuples) (defScope s_as_tuples) .none kV12 dc12 pm12 an12 cd12 ct12), sl12⟩) (c12 : PySem.W.codeIn K cd12 "as_tuples" = true) (k12 : PySem.W.keepIn K (.ref f12) = true)
    (a13 : PySem.W.nsIn K mainGlobals "kind_of" = some (some (.ref f13))) (l13 : K.lookup f13 = some ⟨oc13, od13, .func (PySem.W.fnOf "kind_of" "kind_of" (defArgs s_kind_of) (defBody s_kind_of) (defScope s_kind_of) .none kV13 dc13 pm13 an13 cd13 ct13), sl13⟩) (c13 : PySem.W.codeIn K cd13 "kind_of" = true) (k13 : PySem.W.keepIn K (.ref f13) = true)
    (a14 : PySem.W.nsIn K mainGlobals "are_labels" = some (some (.ref f14))) (l14 : K.lookup f14 = some ⟨oc14, od14, .func (PySem.W.fnOf "are_labels" "are_labels" (defArgs s_are_labels) (defBody s_are_labels) (defScope s_are_labels) .none kV14 dc14 pm14 an14 cd14 ct14), sl14⟩) (c14 : PySem.W.codeIn K cd14 "are_labels" = true) (k14 : PySem.W.keepIn K (.ref f14) = true)
    (a15 : PySem.W.nsIn K mainGlobals "are_texts" = some (some (.ref f15))) (l15 : K.lookup f15 = some ⟨oc15, od15, .func (PySem.W.fnOf "are_texts" "are_texts" (defArgs s_are_texts) (defBody s_are_texts) (defScope s_are_texts) .none kV15 dc15 pm15 an15 cd15 ct15), sl15⟩) (c15 : PySem.W.codeIn K cd15 "are_texts" = true) (k15 : PySem.W.keepIn K (.ref f15) = true)
    (a16 : PySem.W.nsIn K mainGlobals "are_answers" = some (some (.ref f16))) (l16 : K.lookup f16 = some ⟨oc16, od16, .func (PySem.W.fnOf "are_answers" "are_answers" (defArgs s_are_answers) (defBody s_are_answers) (defScope s_are_answers) .none kV16 dc16 pm16 an16 cd16 ct16), sl16⟩) (c16 : PySem.W.codeIn K cd16 "are_answers" = true) (k16 : PySem.W.keepIn K (.ref f16) = true)
    (a17 : PySem.W.nsIn K mainGlobals "are_inners" = some (some (.ref f17))) (l17 : K.lookup f17 = some ⟨oc17, od17, .func (PySem.W.fnOf "are_inners" "are_inners" (defArgs s_are_inners) (defBody s_are_inners) (defScope s_are_inners) .none kV17 dc17 pm17 an17 cd17 ct17), sl17⟩) (c17 : PySem.W.codeIn K cd17 "are_inners" = true) (k17 : PySem.W.keepIn K (.ref f17) = true)
    (a18 : PySem.W.nsIn K mainGlobals "are_tops" = some (some (.ref f18))) (l18 : K.lookup f18 = some ⟨oc18, od18, .func (PySem.W.fnOf "are_tops" "are_tops" (defArgs s_are_tops) (defBody s_are_tops) (defScope s_are_tops) .none kV18 dc18 pm18 an18 cd18 ct18), sl18⟩) (c18 : PySem.W.codeIn K cd18 "are_tops" = true) (k18 : PySem.W.keepIn K (.ref f18) = true)
    (a19 : PySem.W.nsIn K mainGlobals "_sign_fault" = some (some (.ref f19))) (l19 : K.lookup f19 = some ⟨oc19, od19, .func (PySem.W.fnOf "_sign_fault" "_sign_fault" (defArgs s_sign_fault) (defBody s_sign_fault) (defScope s_sign_fault) .none kV19 dc19 pm19 an19 cd19 ct19), sl19⟩) (c19 : PySem.W.codeIn K cd19 "_sign_fault" = true) (k19 : PySem.W.keepIn K (.ref f19) = true)
    (a20 : PySem.W.nsIn K mainGlobals "is_sign" = some (some (.ref f20))) (l20 : K.lookup f20 = some ⟨oc20, od20, .func (PySem.W.fnOf "is_sign" "is_sign" (defArgs s_is_sign) (defBody s_is_sign) (defScope s_is_sign) .none kV20 dc20 pm20 an20 cd20 ct20), sl20⟩) (c20 : PySem.W.codeIn K cd20 "is_sign" = true) (k20 : PySem.W.keepIn K (.ref f20) = true)
    (a21 : PySem.W.nsIn K mainGlobals "check_machine" = some (some (.ref f21))) (l21 : K.lookup f21 = some ⟨oc21, od21, .func (PySem.W.fnOf "check_machine" "check_machine" (defArgs s_check_machine) (defBody s_check_machine) (defScope s_check_machine) .none kV21 dc21 pm21 an21 cd21 ct21), sl21⟩) (c21 : PySem.W.codeIn K cd21 "check_machine" = true) (k21 : PySem.W.keepIn K (.ref f21) = true)
    (a22 : PySem.W.nsIn K mainGlobals "stack_in" = some (some (.ref f22))) (l22 : K.lookup f22 = some ⟨oc22, od22, .func (PySem.W.fnOf "stack_in" "stack_in" (defArgs s_stack_in) (defBody s_stack_in) (defScope s_stack_in) .none kV22 dc22 pm22 an22 cd22 ct22), sl22⟩) (c22 : PySem.W.codeIn K cd22 "stack_in" = true) (k22 : PySem.W.keepIn K (.ref f22) = true)
    (a23 : PySem.W.nsIn K mainGlobals "_step_of" = some (some (.ref f23))) (l23 : K.lookup f23 = some ⟨oc23, od23, .func (PySem.W.fnOf "_step_of" "_step_of" (defArgs s_step_of) (defBody s_step_of) (defScope s_step_of) .none kV23 dc23 pm23 an23 cd23 ct23), sl23⟩) (c23 : PySem.W.codeIn K cd23 "_step_of" = true) (k23 : PySem.W.keepIn K (.ref f23) = true)
    (a24 : PySem.W.nsIn K mainGlobals "read_levels" = some (some (.ref f24))) (l24 : K.lookup f24 = some ⟨oc24, od24, .func (PySem.W.fnOf "read_levels" "read_levels" (defArgs s_read_levels) (defBody s_read_levels) (defScope s_read_levels) .none kV24 dc24 pm24 an24 cd24 ct24), sl24⟩) (c24 : PySem.W.codeIn K cd24 "read_levels" = true) (k24 : PySem.W.keepIn K (.ref f24) = true)
    (a25 : PySem.W.nsIn K mainGlobals "_read_whole" = some (some (.ref f25))) (l25 : K.lookup f25 = some ⟨oc25, od25, .func (PySem.W.fnOf "_read_whole" "_read_whole" (defArgs s_read_whole) (defBody s_read_whole) (defScope s_read_whole) .none kV25 dc25 pm25 an25 cd25 ct25), sl25⟩) (c25 : PySem.W.codeIn K cd25 "_read_whole" = true) (k25 : PySem.W.keepIn K (.ref f25) = true)
    (a26 : PySem.W.nsIn K mainGlobals "check_ending" = some (some (.ref f26))) (l26 : K.lookup f26 = some ⟨oc26, od26, .func (PySem.W.fnOf "check_ending" "check_ending" (defArgs s_check_ending) (defBody s_check_ending) (defScope s_check_ending) .none kV26 dc26 pm26 an26 cd26 ct26), sl26⟩) (c26 : PySem.W.codeIn K cd26 "check_ending" = true) (k26 : PySem.W.keepIn K (.ref f26) = true)
    (a27 : PySem.W.nsIn K mainGlobals "behind_sign" = some (some (.ref f27))) (l27 : K.lookup f27 = some ⟨oc27, od27, .func (PySem.W.fnOf "behind_sign" "behind_sign" (defArgs s_behind_sign) (defBody s_behind_sign) (defScope s_behind_sign) .none kV27 dc27 pm27 an27 cd27 ct27), sl27⟩) (c27 : PySem.W.codeIn K cd27 "behind_sign" = true) (k27 : PySem.W.keepIn K (.ref f27) = true)
    (a28 : PySem.W.nsIn K mainGlobals "_behind_all" = some (some (.ref f28))) (l28 : K.lookup f28 = some ⟨oc28, od28, .func (PySem.W.fnOf "_behind_all" "_behind_all" (defArgs s_behind_all) (defBody s_behind_all) (defScope s_behind_all) .none kV28 dc28 pm28 an28 cd28 ct28), sl28⟩) (c28 : PySem.W.codeIn K cd28 "_behind_all" = true) (k28 : PySem.W.keepIn K (.ref f28) = true)
    (a29 : PySem.W.nsIn K mainGlobals "answer_by" = some (some (.ref f29))) (l29 : K.lookup f29 = some ⟨oc29, od29, .func (PySem.W.fnOf "answer_by" "answer_by" (defArgs s_answer_by) (defBody s_answer_by) (defScope s_answer_by) .none kV29 dc29 pm29 an29 cd29 ct29), sl29⟩) (c29 : PySem.W.codeIn K cd29 "answer_by" = true) (k29 : PySem.W.keepIn K (.ref f29) = true)
    (a30 : PySem.W.nsIn K mainGlobals "is_ending" = some (some (.ref f30))) (l30 : K.lookup f30 = some ⟨oc30, od30, .func (PySem.W.fnOf "is_ending" "is_ending" (defArgs s_is_ending) (defBody s_is_ending) (defScope s_is_ending) .none kV30 dc30 pm30 an30 cd30 ct30), sl30⟩) (c30 : PySem.W.codeIn K cd30 "is_ending" = true) (k30 : PySem.W.keepIn K (.ref f30) = true)
    (a31 : PySem.W.nsIn K mainGlobals "_checked" = some (some (.ref f31))) (l31 : K.lookup f31 = some ⟨oc31, od31, .func (PySem.W.fnOf "_checked" "_checked" (defArgs s_checked) (defBody s_checked) (defScope s_checked) .none kV31 dc31 pm31 an31 cd31 ct31), sl31⟩) (c31 : PySem.W.codeIn K cd31 "_checked" = true) (k31 : PySem.W.keepIn K (.ref f31) = true)
    (a32 : PySem.W.nsIn K mainGlobals "_lots" = some (some (.ref f32))) (l32 : K.lookup f32 = some ⟨oc32, od32, .func (PySem.W.fnOf "_lots" "_lots" (defArgs s_lots) (defBody s_lots) (defScope s_lots) .none kV32 dc32 pm32 an32 cd32 ct32), sl32⟩) (c32 : PySem.W.codeIn K cd32 "_lots" = true) (k32 : PySem.W.keepIn K (.ref f32) = true)
    (a33 : PySem.W.nsIn K mainGlobals "pair_lots" = some (some (.ref f33))) (l33 : K.lookup f33 = some ⟨oc33, od33, .func (PySem.W.fnOf "pair_lots" "pair_lots" (defArgs s_pair_lots) (defBody s_pair_lots) (defScope s_pair_lots) .none kV33 dc33 pm33 an33 cd33 ct33), sl33⟩) (c33 : PySem.W.codeIn K cd33 "pair_lots" = true) (k33 : PySem.W.keepIn K (.ref f33) = true)
    (a34 : PySem.W.nsIn K mainGlobals "alike" = some (some (.ref f34))) (l34 : K.lookup f34 = some ⟨oc34, od34, .func (PySem.W.fnOf "alike" "alike" (defArgs s_alike) (defBody s_alike) (defScope s_alike) .none kV34 dc34 pm34 an34 cd34 ct34), sl34⟩) (c34 : PySem.W.codeIn K cd34 "alike" = true) (k34 : PySem.W.keepIn K (.ref f34) = true)
    (a35 : PySem.W.nsIn K mainGlobals "parting" = some (some (.ref f35))) (l35 : K.lookup f35 = some ⟨oc35, od35, .func (PySem.W.fnOf "parting" "parting" (defArgs s_parting) (defBody s_parting) (defScope s_parting) .none kV35 dc35 pm35 an35 cd35 ct35), sl35⟩) (c35 : PySem.W.codeIn K cd35 "parting" = true) (k35 : PySem.W.keepIn K (.ref f35) = true)
    (a36 : PySem.W.nsIn K mainGlobals "parting_holds" = some (some (.ref f36))) (l36 : K.lookup f36 = some ⟨oc36, od36, .func (PySem.W.fnOf "parting_holds" "parting_holds" (defArgs s_parting_holds) (defBody s_parting_holds) (defScope s_parting_holds) .none kV36 dc36 pm36 an36 cd36 ct36), sl36⟩) (c36 : PySem.W.codeIn K cd36 "parting_holds" = true) (k36 : PySem.W.keepIn K (.ref f36) = true)
    (a37 : PySem.W.nsIn K mainGlobals "_law_box" = some (some (.ref f37))) (l37 : K.lookup f37 = some ⟨oc37, od37, .func (PySem.W.fnOf "_law_box" "_law_box" (defArgs s_law_box) (defBody s_law_box) (defScope s_law_box) .none kV37 dc37 pm37 an37 cd37 ct37), sl37⟩) (c37 : PySem.W.codeIn K cd37 "_law_box" = true) (k37 : PySem.W.keepIn K (.ref f37) = true)
    (a38 : PySem.W.nsIn K mainGlobals "_law_take" = some (some (.ref f38))) (l38 : K.lookup f38 = some ⟨oc38, od38, .func (PySem.W.fnOf "_law_take" "_law_take" (defArgs s_law_take) (defBody s_law_take) (defScope s_law_take) .none kV38 dc38 pm38 an38 cd38 ct38), sl38⟩) (c38 : PySem.W.codeIn K cd38 "_law_take" = true) (k38 : PySem.W.keepIn K (.ref f38) = true)
    (a39 : PySem.W.nsIn K mainGlobals "_law_pick" = some (some (.ref f39))) (l39 : K.lookup f39 = some ⟨oc39, od39, .func (PySem.W.fnOf "_law_pick" "_law_pick" (defArgs s_law_pick) (defBody s_law_pick) (defScope s_law_pick) .none kV39 dc39 pm39 an39 cd39 ct39), sl39⟩) (c39 : PySem.W.codeIn K cd39 "_law_pick" = true) (k39 : PySem.W.keepIn K (.ref f39) = true)
    (a40 : PySem.W.nsIn K mainGlobals "_law_map" = some (some (.ref f40))) (l40 : K.lookup f40 = some ⟨oc40, od40, .func (PySem.W.fnOf "_law_map" "_law_map" (defArgs s_law_map) (defBody s_law_map) (defScope s_law_map) .none kV40 dc40 pm40 an40 cd40 ct40), sl40⟩) (c40 : PySem.W.codeIn K cd40 "_law_map" = true) (k40 : PySem.W.keepIn K (.ref f40) = true)
    (a41 : PySem.W.nsIn K mainGlobals "_law_machine" = some (some (.ref f41))) (l41 : K.lookup f41 = some ⟨oc41, od41, .func (PySem.W.fnOf "_law_machine" "_law_machine" (defArgs s_law_machine) (defBody s_law_machine) (defScope s_law_machine) .none kV41 dc41 pm41 an41 cd41 ct41), sl41⟩) (c41 : PySem.W.codeIn K cd41 "_law_machine" = true) (k41 : PySem.W.keepIn K (.ref f41) = true)
    (a42 : PySem.W.nsIn K mainGlobals "_law_kind" = some (some (.ref f42))) (l42 : K.lookup f42 = some ⟨oc42, od42, .func (PySem.W.fnOf "_law_kind" "_law_kind" (defArgs s_law_kind) (defBody s_law_kind) (defScope s_law_kind) .none kV42 dc42 pm42 an42 cd42 ct42), sl42⟩) (c42 : PySem.W.codeIn K cd42 "_law_kind" = true) (k42 : PySem.W.keepIn K (.ref f42) = true)
    (a43 : PySem.W.nsIn K mainGlobals "_law_after" = some (some (.ref f43))) (l43 : K.lookup f43 = some ⟨oc43, od43, .func (PySem.W.fnOf "_law_after" "_law_after" (defArgs s_law_after) (defBody s_law_after) (defScope s_law_after) .none kV43 dc43 pm43 an43 cd43 ct43), sl43⟩) (c43 : PySem.W.codeIn K cd43 "_law_after" = true) (k43 : PySem.W.keepIn K (.ref f43) = true)
    (a44 : PySem.W.nsIn K mainGlobals "_law_after_all" = some (some (.ref f44))) (l44 : K.lookup f44 = some ⟨oc44, od44, .func (PySem.W.fnOf "_law_after_all" "_law_after_all" (defArgs s_law_after_all) (defBody s_law_after_all) (defScope s_law_after_all) .none kV44 dc44 pm44 an44 cd44 ct44), sl44⟩) (c44 : PySem.W.codeIn K cd44 "_law_after_all" = true) (k44 : PySem.W.keepIn K (.ref f44) = true)
    (a45 : PySem.W.nsIn K mainGlobals "_law_is_sign" = some (some (.ref f45))) (l45 : K.lookup f45 = some ⟨oc45, od45, .func (PySem.W.fnOf "_law_is_sign" "_law_is_sign" (defArgs s_law_is_sign) (defBody s_law_is_sign) (defScope s_law_is_sign) .none kV45 dc45 pm45 an45 cd45 ct45), sl45⟩) (c45 : PySem.W.codeIn K cd45 "_law_is_sign" = true) (k45 : PySem.W.keepIn K (.ref f45) = true)
    (a46 : PySem.W.nsIn K mainGlobals "_law_due" = some (some (.ref f46))) (l46 : K.lookup f46 = some ⟨oc46, od46, .func (PySem.W.fnOf "_law_due" "_law_due" (defArgs s_law_due) (defBody s_law_due) (defScope s_law_due) .none kV46 dc46 pm46 an46 cd46 ct46), sl46⟩) (c46 : PySem.W.codeIn K cd46 "_law_due" = true) (k46 : PySem.W.keepIn K (.ref f46) = true)
    (a47 : PySem.W.nsIn K mainGlobals "_law_ending" = some (some (.ref f47))) (l47 : K.lookup f47 = some ⟨oc47, od47, .func (PySem.W.fnOf "_law_ending" "_law_ending" (defArgs s_law_ending) (defBody s_law_ending) (defScope s_law_ending) .none kV47 dc47 pm47 an47 cd47 ct47), sl47⟩) (c47 : PySem.W.codeIn K cd47 "_law_ending" = true) (k47 : PySem.W.keepIn K (.ref f47) = true)
    (a48 : PySem.W.nsIn K mainGlobals "_law_heard" = some (some (.ref f48))) (l48 : K.lookup f48 = some ⟨oc48, od48, .func (PySem.W.fnOf "_law_heard" "_law_heard" (defArgs s_law_heard) (defBody s_law_heard) (defScope s_law_heard) .none kV48 dc48 pm48 an48 cd48 ct48), sl48⟩) (c48 : PySem.W.codeIn K cd48 "_law_heard" = true) (k48 : PySem.W.keepIn K (.ref f48) = true)
    (a49 : PySem.W.nsIn K mainGlobals "law" = some (some (.ref f49))) (l49 : K.lookup f49 = some ⟨oc49, od49, .func (PySem.W.fnOf "law" "law" (defArgs s_law) (defBody s_law) (defScope s_law) .none kV49 dc49 pm49 an49 (.ref q49) ct49), sl49⟩) (c49 : PySem.W.codeIn K (.ref q49) "law" = true) (k49 : PySem.W.keepIn K (.ref f49) = true)
    (lc8 : K.lookup q8 = some ⟨y8, u8, .fields vs8, x8⟩) (hp8 : vs8[11]? = some (.ref P8)) (nT8 : K.lookup P8 = none)
    (lc49 : K.lookup q49 = some ⟨y49, u49, .fields vs49, x49⟩) (hp49 : vs49[11]? = some (.ref P49)) (nT49 : K.lookup P49 = none)
    (d8x49 : P8 ≠ P49)
    (z_abs : PySem.W.nsIn K mainGlobals "abs" = some none)
    (z_all : PySem.W.nsIn K mainGlobals "all" = some none)
    (z_bool : PySem.W.nsIn K mainGlobals "bool" = some none)
    (z_enumerate : PySem.W.nsIn K mainGlobals "enumerate" = some none)
    (z_int : PySem.W.nsIn K mainGlobals "int" = some none)
    (z_isinstance : PySem.W.nsIn K mainGlobals "isinstance" = some none)
    (z_len : PySem.W.nsIn K mainGlobals "len" = some none)
    (z_list : PySem.W.nsIn K mainGlobals "list" = some none)
    (z_max : PySem.W.nsIn K mainGlobals "max" = some none)
    (z_min : PySem.W.nsIn K mainGlobals "min" = some none)
    (z_range : PySem.W.nsIn K mainGlobals "range" = some none)
    (z_repr : PySem.W.nsIn K mainGlobals "repr" = some none)
    (z_reversed : PySem.W.nsIn K mainGlobals "reversed" = some none)
    (z_set : PySem.W.nsIn K mainGlobals "set" = some none)
    (z_sorted : PySem.W.nsIn K mainGlobals "sorted" = some none)
    (z_str : PySem.W.nsIn K mainGlobals "str" = some none)
    (z_tuple : PySem.W.nsIn K mainGlobals "tuple" = some none)
    (z_zip : PySem.W.nsIn K mainGlobals "zip" = some none)
    (v_LETTERS : PySem.W.nsIn K mainGlobals "LETTERS" = some (some (.str "abcdefghijklmnopqrstuvwxyz" t_LETTERS)))
    (v_LABEL_MOST : PySem.W.nsIn K mainGlobals "LABEL_MOST" = some (some (.int 12 t_LABEL_MOST)))
    (v_TEXT_MOST : PySem.W.nsIn K mainGlobals "TEXT_MOST" = some (some (.int 65535 t_TEXT_MOST)))
    (v_LABELS_MOST : PySem.W.nsIn K mainGlobals "LABELS_MOST" = some (some (.int 6 t_LABELS_MOST)))
    (v_TEXTS_MOST : PySem.W.nsIn K mainGlobals "TEXTS_MOST" = some (some (.int 4 t_TEXTS_MOST)))
    (v_STATES_MOST : PySem.W.nsIn K mainGlobals "STATES_MOST" = some (some (.int 200 t_STATES_MOST)))
    (v_WORDS_MOST : PySem.W.nsIn K mainGlobals "WORDS_MOST" = some (some (.int 8 t_WORDS_MOST)))
    (hkd : kdIn K = true)
    (aO : PySem.W.nsIn K mainGlobals "OpenError" = some (some (.ref O)))
    (cg : PySem.W.specialIn K (.builtin "object.__class__") "__get__" = some (some (.builtin "getset_descriptor.__get__"))) (ctk : PySem.W.takesIn K (.builtin "object.__class__") = some true)
    {C_BadMachine fI_BadMachine : Addr} {nm_BadMachine qq_BadMachine : Str} {N_BadMachine : Addr} {bs_BadMachine : List Value} {sn_BadMachine : List Str} {sub_BadMachine : List Value} {ab_BadMachine : Bool} {col_BadMachine : Option Bool} {dd_BadMachine : Option Addr} {m0_BadMachine m1_BadMachine m2_BadMachine m3_BadMachine m5_BadMachine : Option Value} {od_BadMachine an_BadMachine : Option Addr} {sl_BadMachine : Array (Option Value)} {oc_BadMachine kV_BadMachine dc_BadMachine pm_BadMachine cd_BadMachine ct_BadMachine : Value}
    (aC_BadMachine : PySem.W.nsIn K mainGlobals "BadMachine" = some (some (.ref C_BadMachine)))
    (xL_BadMachine : K.lookup C_BadMachine = some (excClassObj nm_BadMachine qq_BadMachine C_BadMachine N_BadMachine bs_BadMachine [.ref O, .type "ValueError", .type "Exception", .type "BaseException", .type "object"] true sn_BadMachine sub_BadMachine ab_BadMachine col_BadMachine dd_BadMachine m0_BadMachine m1_BadMachine m2_BadMachine m3_BadMachine m5_BadMachine "ValueError.__new__"))
    (sa_BadMachine : PySem.W.findIn K (.ref C_BadMachine) "__setattr__" = some (some (.builtin "object.__setattr__"))) (na_BadMachine : PySem.W.findIn K (.ref C_BadMachine) "at" = some none)
    (aI_BadMachine : PySem.W.findIn K (.ref C_BadMachine) "__init__" = some (some (.ref fI_BadMachine))) (tI_BadMachine : PySem.W.typeIn K (.ref fI_BadMachine) = some (.type "function"))
    (lI_BadMachine : K.lookup fI_BadMachine = some ⟨oc_BadMachine, od_BadMachine, .func (PySem.W.fnOf "__init__" "BadMachine.__init__" (defArgs (inClass c_BadMachine 0)) (defBody (inClass c_BadMachine 0)) (defScope (inClass c_BadMachine 0)) .none kV_BadMachine dc_BadMachine pm_BadMachine an_BadMachine cd_BadMachine ct_BadMachine), sl_BadMachine⟩) (cI_BadMachine : PySem.W.codeIn K cd_BadMachine "BadMachine.__init__" = true) (kI_BadMachine : PySem.W.keepIn K (.ref fI_BadMachine) = true)
    (kC_BadMachine : PySem.W.keepIn K (.ref C_BadMachine) = true) (eC_BadMachine : PySem.W.subIn K (.ref C_BadMachine) (.type "BaseException") = some true) (tC_BadMachine : PySem.W.typeIn K (.ref C_BadMachine) = some (.type "type")) (iC_BadMachine : PySem.W.isClsIn K C_BadMachine = true) (sC_BadMachine : PySem.W.subIn K (.ref C_BadMachine) (.ref C_BadMachine) = some true)
    (ga_BadMachine : PySem.W.findIn K (.ref C_BadMachine) "__getattribute__" = some (some (.builtin "BaseException.__getattribute__"))) (gg_BadMachine : PySem.W.findIn K (.ref C_BadMachine) "__getattr__" = some none) (hd_BadMachine : PySem.W.hasDictIn K C_BadMachine = true)
    (ca_BadMachine : PySem.W.findIn K (.ref C_BadMachine) "__class__" = some (some (.builtin "object.__class__"))) (mo_BadMachine : PySem.W.mroIn K C_BadMachine (.type "object") = some true) (op_BadMachine : PySem.W.kitOne K (.ref C_BadMachine) (.ref O) = some true)
    {C_Refused fI_Refused : Addr} {nm_Refused qq_Refused : Str} {N_Refused : Addr} {bs_Refused : List Value} {sn_Refused : List Str} {sub_Refused : List Value} {ab_Refused : Bool} {col_Refused : Option Bool} {dd_Refused : Option Addr} {m0_Refused m1_Refused m2_Refused m3_Refused m5_Refused : Option Value} {od_Refused an_Refused : Option Addr} {sl_Refused : Array (Option Value)} {oc_Refused kV_Refused dc_Refused pm_Refused cd_Refused ct_Refused : Value}
    (aC_Refused : PySem.W.nsIn K mainGlobals "Refused" = some (some (.ref C_Refused)))
    (xL_Refused : K.lookup C_Refused = some (excClassObj nm_Refused qq_Refused C_Refused N_Refused bs_Refused [.ref O, .type "ValueError", .type "Exception", .type "BaseException", .type "object"] true sn_Refused sub_Refused ab_Refused col_Refused dd_Refused m0_Refused m1_Refused m2_Refused m3_Refused m5_Refused "ValueError.__new__"))
    (sa_Refused : PySem.W.findIn K (.ref C_Refused) "__setattr__" = some (some (.builtin "object.__setattr__"))) (na_Refused : PySem.W.findIn K (.ref C_Refused) "at" = some none)
    (aI_Refused : PySem.W.findIn K (.ref C_Refused) "__init__" = some (some (.ref fI_Refused))) (tI_Refused : PySem.W.typeIn K (.ref fI_Refused) = some (.type "function"))
    (lI_Refused : K.lookup fI_Refused = some ⟨oc_Refused, od_Refused, .func (PySem.W.fnOf "__init__" "Refused.__init__" (defArgs (inClass c_Refused 0)) (defBody (inClass c_Refused 0)) (defScope (inClass c_Refused 0)) .none kV_Refused dc_Refused pm_Refused an_Refused cd_Refused ct_Refused), sl_Refused⟩) (cI_Refused : PySem.W.codeIn K cd_Refused "Refused.__init__" = true) (kI_Refused : PySem.W.keepIn K (.ref fI_Refused) = true)
    (kC_Refused : PySem.W.keepIn K (.ref C_Refused) = true) (eC_Refused : PySem.W.subIn K (.ref C_Refused) (.type "BaseException") = some true) (tC_Refused : PySem.W.typeIn K (.ref C_Refused) = some (.type "type")) (iC_Refused : PySem.W.isClsIn K C_Refused = true) (sC_Refused : PySem.W.subIn K (.ref C_Refused) (.ref C_Refused) = some true)
    (ga_Refused : PySem.W.findIn K (.ref C_Refused) "__getattribute__" = some (some (.builtin "BaseException.__getattribute__"))) (gg_Refused : PySem.W.findIn K (.ref C_Refused) "__getattr__" = some none) (hd_Refused : PySem.W.hasDictIn K C_Refused = true)
    (ca_Refused : PySem.W.findIn K (.ref C_Refused) "__class__" = some (some (.builtin "object.__class__"))) (mo_Refused : PySem.W.mroIn K C_Refused (.type "object") = some true) (op_Refused : PySem.W.kitOne K (.ref C_Refused) (.ref O) = some true)
    {C_BadStream fI_BadStream : Addr} {nm_BadStream qq_BadStream : Str} {N_BadStream : Addr} {bs_BadStream : List Value} {sn_BadStream : List Str} {sub_BadStream : List Value} {ab_BadStream : Bool} {col_BadStream : Option Bool} {dd_BadStream : Option Addr} {m0_BadStream m1_BadStream m2_BadStream m3_BadStream m5_BadStream : Option Value} {od_BadStream an_BadStream : Option Addr} {sl_BadStream : Array (Option Value)} {oc_BadStream kV_BadStream dc_BadStream pm_BadStream cd_BadStream ct_BadStream : Value}
    (aC_BadStream : PySem.W.nsIn K mainGlobals "BadStream" = some (some (.ref C_BadStream)))
    (xL_BadStream : K.lookup C_BadStream = some (excClassObj nm_BadStream qq_BadStream C_BadStream N_BadStream bs_BadStream [.ref O, .type "ValueError", .type "Exception", .type "BaseException", .type "object"] true sn_BadStream sub_BadStream ab_BadStream col_BadStream dd_BadStream m0_BadStream m1_BadStream m2_BadStream m3_BadStream m5_BadStream "ValueError.__new__"))
    (sa_BadStream : PySem.W.findIn K (.ref C_BadStream) "__setattr__" = some (some (.builtin "object.__setattr__"))) (na_BadStream : PySem.W.findIn K (.ref C_BadStream) "at" = some none)
    (aI_BadStream : PySem.W.findIn K (.ref C_BadStream) "__init__" = some (some (.ref fI_BadStream))) (tI_BadStream : PySem.W.typeIn K (.ref fI_BadStream) = some (.type "function"))
    (lI_BadStream : K.lookup fI_BadStream = some ⟨oc_BadStream, od_BadStream, .func (PySem.W.fnOf "__init__" "BadStream.__init__" (defArgs (inClass c_BadStream 0)) (defBody (inClass c_BadStream 0)) (defScope (inClass c_BadStream 0)) .none kV_BadStream dc_BadStream pm_BadStream an_BadStream cd_BadStream ct_BadStream), sl_BadStream⟩) (cI_BadStream : PySem.W.codeIn K cd_BadStream "BadStream.__init__" = true) (kI_BadStream : PySem.W.keepIn K (.ref fI_BadStream) = true)
    (kC_BadStream : PySem.W.keepIn K (.ref C_BadStream) = true) (eC_BadStream : PySem.W.subIn K (.ref C_BadStream) (.type "BaseException") = some true) (tC_BadStream : PySem.W.typeIn K (.ref C_BadStream) = some (.type "type")) (iC_BadStream : PySem.W.isClsIn K C_BadStream = true) (sC_BadStream : PySem.W.subIn K (.ref C_BadStream) (.ref C_BadStream) = some true)
    (ga_BadStream : PySem.W.findIn K (.ref C_BadStream) "__getattribute__" = some (some (.builtin "BaseException.__getattribute__"))) (gg_BadStream : PySem.W.findIn K (.ref C_BadStream) "__getattr__" = some none) (hd_BadStream : PySem.W.hasDictIn K C_BadStream = true)
    (ca_BadStream : PySem.W.findIn K (.ref C_BadStream) "__class__" = some (some (.builtin "object.__class__"))) (mo_BadStream : PySem.W.mroIn K C_BadStream (.type "object") = some true) (op_BadStream : PySem.W.kitOne K (.ref C_BadStream) (.ref O) = some true)
    (ns_Refused_BadMachine : PySem.W.subIn K (.ref C_Refused) (.ref C_BadMachine) = some false) :
    Known Pg w K mg fa := by
  have e := hfa.symm.trans (PySem.W.mg_of X G a49)
  cases e
  have T : Lw.Tz K mg := ⟨kd_of hkd, PySem.W.mg_none_of X G z_abs, PySem.W.mg_none_of X G z_all, PySem.W.mg_none_of X G z_bool, PySem.W.mg_none_of X G z_enumerate, PySem.W.mg_none_of X G z_int, PySem.W.mg_none_of X G z_isinstance, PySem.W.mg_none_of X G z_len, PySem.W.mg_none_of X G z_list, PySem.W.mg_none_of X G z_max, PySem.W.mg_none_of X G z_min, PySem.W.mg_none_of X G z_range, PySem.W.mg_none_of X G z_repr, PySem.W.mg_none_of X G z_reversed, PySem.W.mg_none_of X G z_set, PySem.W.mg_none_of X G z_sorted, PySem.W.mg_none_of X G z_str, PySem.W.mg_none_of X G z_tuple, PySem.W.mg_none_of X G z_zip, ⟨t_LETTERS, PySem.W.mg_of X G v_LETTERS⟩, ⟨t_LABEL_MOST, PySem.W.mg_of X G v_LABEL_MOST⟩, ⟨t_TEXT_MOST, PySem.W.mg_of X G v_TEXT_MOST⟩, ⟨t_LABELS_MOST, PySem.W.mg_of X G v_LABELS_MOST⟩, ⟨t_TEXTS_MOST, PySem.W.mg_of X G v_TEXTS_MOST⟩, ⟨t_STATES_MOST, PySem.W.mg_of X G v_STATES_MOST⟩, ⟨t_WORDS_MOST, PySem.W.mg_of X G v_WORDS_MOST⟩⟩
  have FI_BadMachine := fun_mk (st := inClass c_BadMachine 0) lI_BadMachine cI_BadMachine kI_BadMachine
  have bI_BadMachine := FI_BadMachine.binds (ps := ["self", "at"]) fun _ _ _ _ _ _ us hl => match us, hl with | [_, _], _ => rfl
  have B_BadMachine : Er K mg "BadMachine" "BadMachine.__init__" "at" c_BadMachine C_BadMachine fI_BadMachine _ := ⟨⟨⟨nm_BadMachine, qq_BadMachine, N_BadMachine, bs_BadMachine, _, sn_BadMachine, sub_BadMachine, ab_BadMachine, col_BadMachine, dd_BadMachine, m0_BadMachine, m1_BadMachine, m2_BadMachine, m3_BadMachine, m5_BadMachine, xL_BadMachine, by rfl⟩, sa_BadMachine, eC_BadMachine, tC_BadMachine, kC_BadMachine⟩, na_BadMachine, aI_BadMachine, tI_BadMachine, FI_BadMachine, bI_BadMachine, PySem.W.mg_of X G aC_BadMachine, exm_self eC_BadMachine iC_BadMachine tC_BadMachine sC_BadMachine⟩
  have E_BadMachine : ErC K mg "BadMachine" "at" C_BadMachine := ⟨⟨ga_BadMachine, gg_BadMachine, eC_BadMachine, hd_BadMachine⟩, ⟨iC_BadMachine, ga_BadMachine, gg_BadMachine, eC_BadMachine, ca_BadMachine, cg, ctk, mo_BadMachine⟩, na_BadMachine, exm_self eC_BadMachine iC_BadMachine tC_BadMachine sC_BadMachine, PySem.W.mg_of X G aC_BadMachine⟩
  have FI_Refused := fun_mk (st := inClass c_Refused 0) lI_Refused cI_Refused kI_Refused
  have bI_Refused := FI_Refused.binds (ps := ["self", "at"]) fun _ _ _ _ _ _ us hl => match us, hl with | [_, _], _ => rfl
  have B_Refused : Er K mg "Refused" "Refused.__init__" "at" c_Refused C_Refused fI_Refused _ := ⟨⟨⟨nm_Refused, qq_Refused, N_Refused, bs_Refused, _, sn_Refused, sub_Refused, ab_Refused, col_Refused, dd_Refused, m0_Refused, m1_Refused, m2_Refused, m3_Refused, m5_Refused, xL_Refused, by rfl⟩, sa_Refused, eC_Refused, tC_Refused, kC_Refused⟩, na_Refused, aI_Refused, tI_Refused, FI_Refused, bI_Refused, PySem.W.mg_of X G aC_Refused, exm_self eC_Refused iC_Refused tC_Refused sC_Refused⟩
  have E_Refused : ErC K mg "Refused" "at" C_Refused := ⟨⟨ga_Refused, gg_Refused, eC_Refused, hd_Refused⟩, ⟨iC_Refused, ga_Refused, gg_Refused, eC_Refused, ca_Refused, cg, ctk, mo_Refused⟩, na_Refused, exm_self eC_Refused iC_Refused tC_Refused sC_Refused, PySem.W.mg_of X G aC_Refused⟩
  have FI_BadStream := fun_mk (st := inClass c_BadStream 0) lI_BadStream cI_BadStream kI_BadStream
  have bI_BadStream := FI_BadStream.binds (ps := ["self", "at"]) fun _ _ _ _ _ _ us hl => match us, hl with | [_, _], _ => rfl
  have B_BadStream : Er K mg "BadStream" "BadStream.__init__" "at" c_BadStream C_BadStream fI_BadStream _ := ⟨⟨⟨nm_BadStream, qq_BadStream, N_BadStream, bs_BadStream, _, sn_BadStream, sub_BadStream, ab_BadStream, col_BadStream, dd_BadStream, m0_BadStream, m1_BadStream, m2_BadStream, m3_BadStream, m5_BadStream, xL_BadStream, by rfl⟩, sa_BadStream, eC_BadStream, tC_BadStream, kC_BadStream⟩, na_BadStream, aI_BadStream, tI_BadStream, FI_BadStream, bI_BadStream, PySem.W.mg_of X G aC_BadStream, exm_self eC_BadStream iC_BadStream tC_BadStream sC_BadStream⟩
  have E_BadStream : ErC K mg "BadStream" "at" C_BadStream := ⟨⟨ga_BadStream, gg_BadStream, eC_BadStream, hd_BadStream⟩, ⟨iC_BadStream, ga_BadStream, gg_BadStream, eC_BadStream, ca_BadStream, cg, ctk, mo_BadStream⟩, na_BadStream, exm_self eC_BadStream iC_BadStream tC_BadStream sC_BadStream, PySem.W.mg_of X G aC_BadStream⟩
  have x_Refused_BadMachine := exm_no eC_BadMachine iC_BadMachine tC_BadMachine ns_Refused_BadMachine
  have F1 := fun_mk (st := s_is_number) l1 c1 k1
  have b1 := F1.binds (ps := ["value"]) fun _ _ _ _ _ _ us hl => match us, hl with | [_], _ => rfl
  have D1 : Df K mg "is_number" s_is_number ["value"] f1 _ := ⟨F1, PySem.W.mg_of X G a1, b1⟩
  have F2 := fun_mk (st := s_is_number_below) l2 c2 k2
  have b2 := F2.binds (ps := ["value", "bound"]) fun _ _ _ _ _ _ us hl => match us, hl with | [_, _], _ => rfl
  have D2 : Df K mg "is_number_below" s_is_number_below ["value", "bound"] f2 _ := ⟨F2, PySem.W.mg_of X G a2, b2⟩
  have F3 := fun_mk (st := s_is_sequence) l3 c3 k3
  have b3 := F3.binds (ps := ["value"]) fun _ _ _ _ _ _ us hl => match us, hl with | [_], _ => rfl
  have D3 : Df K mg "is_sequence" s_is_sequence ["value"] f3 _ := ⟨F3, PySem.W.mg_of X G a3, b3⟩
  have F4 := fun_mk (st := s_is_row_of) l4 c4 k4
  have b4 := F4.binds (ps := ["value", "many"]) fun _ _ _ _ _ _ us hl => match us, hl with | [_, _], _ => rfl
  have D4 : Df K mg "is_row_of" s_is_row_of ["value", "many"] f4 _ := ⟨F4, PySem.W.mg_of X G a4, b4⟩
  have F5 := fun_mk (st := s_is_text) l5 c5 k5
  have b5 := F5.binds (ps := ["value"]) fun _ _ _ _ _ _ us hl => match us, hl with | [_], _ => rfl
  have D5 : Df K mg "is_text" s_is_text ["value"] f5 _ := ⟨F5, PySem.W.mg_of X G a5, b5⟩
  have F6 := fun_mk (st := s_is_map) l6 c6 k6
  have b6 := F6.binds (ps := ["value", "length", "many"]) fun _ _ _ _ _ _ us hl => match us, hl with | [_, _, _], _ => rfl
  have D6 : Df K mg "is_map" s_is_map ["value", "length", "many"] f6 _ := ⟨F6, PySem.W.mg_of X G a6, b6⟩
  have F7 := fun_mk (st := s_are_maps) l7 c7 k7
  have b7 := F7.binds (ps := ["value", "length", "many"]) fun _ _ _ _ _ _ us hl => match us, hl with | [_, _, _], _ => rfl
  have D7 : Df K mg "are_maps" s_are_maps ["value", "length", "many"] f7 _ := ⟨F7, PySem.W.mg_of X G a7, b7⟩
  have F8 := fun_mk (st := s_is_label) l8 c8 k8
  have b8 := F8.binds (ps := ["value"]) fun _ _ _ _ _ _ us hl => match us, hl with | [_], _ => rfl
  have D8 : Df K mg "is_label" s_is_label ["value"] f8 _ := ⟨F8, PySem.W.mg_of X G a8, b8⟩
  have DC8 : DfC K mg "is_label" s_is_label ["value"] f8 _ q8 := ⟨⟨oc8, od8, kV8, dc8, pm8, an8, ct8, sl8, rfl, l8, c8⟩, k8, PySem.W.mg_of X G a8, b8⟩
  have F9 := fun_mk (st := s_is_ascending) l9 c9 k9
  have b9 := F9.binds (ps := ["names"]) fun _ _ _ _ _ _ us hl => match us, hl with | [_], _ => rfl
  have D9 : Df K mg "_is_ascending" s_is_ascending ["names"] f9 _ := ⟨F9, PySem.W.mg_of X G a9, b9⟩
  have F10 := fun_mk (st := s_is_state_count) l10 c10 k10
  have b10 := F10.binds (ps := ["value"]) fun _ _ _ _ _ _ us hl => match us, hl with | [_], _ => rfl
  have D10 : Df K mg "is_state_count" s_is_state_count ["value"] f10 _ := ⟨F10, PySem.W.mg_of X G a10, b10⟩
  have F11 := fun_mk (st := s_is_answer) l11 c11 k11
  have b11 := F11.binds (ps := ["value", "length"]) fun _ _ _ _ _ _ us hl => match us, hl with | [_, _], _ => rfl
  have D11 : Df K mg "is_answer" s_is_answer ["value", "length"] f11 _ := ⟨F11, PySem.W.mg_of X G a11, b11⟩
  have F12 := fun_mk (st := s_as_tuples) l12 c12 k12
  have b12 := F12.binds (ps := ["rows"]) fun _ _ _ _ _ _ us hl => match us, hl with | [_], _ => rfl
  have D12 : Df K mg "as_tuples" s_as_tuples ["rows"] f12 _ := ⟨F12, PySem.W.mg_of X G a12, b12⟩
  have F13 := fun_mk (st := s_kind_of) l13 c13 k13
  have b13 := F13.binds (ps := ["names", "value"]) fun _ _ _ _ _ _ us hl => match us, hl with | [_, _], _ => rfl
  have D13 : Df K mg "kind_of" s_kind_of ["names", "value"] f13 _ := ⟨F13, PySem.W.mg_of X G a13, b13⟩
  have F14 := fun_mk (st := s_are_labels) l14 c14 k14
  have b14 := F14.binds (ps := ["value"]) fun _ _ _ _ _ _ us hl => match us, hl with | [_], _ => rfl
  have D14 : Df K mg "are_labels" s_are_labels ["value"] f14 _ := ⟨F14, PySem.W.mg_of X G a14, b14⟩
  have F15 := fun_mk (st := s_are_texts) l15 c15 k15
  have b15 := F15.binds (ps := ["value"]) fun _ _ _ _ _ _ us hl => match us, hl with | [_], _ => rfl
  have D15 : Df K mg "are_texts" s_are_texts ["value"] f15 _ := ⟨F15, PySem.W.mg_of X G a15, b15⟩
  have F16 := fun_mk (st := s_are_answers) l16 c16 k16
  have b16 := F16.binds (ps := ["value", "many"]) fun _ _ _ _ _ _ us hl => match us, hl with | [_, _], _ => rfl
  have D16 : Df K mg "are_answers" s_are_answers ["value", "many"] f16 _ := ⟨F16, PySem.W.mg_of X G a16, b16⟩
  have F17 := fun_mk (st := s_are_inners) l17 c17 k17
  have b17 := F17.binds (ps := ["value", "labels", "texts"]) fun _ _ _ _ _ _ us hl => match us, hl with | [_, _, _], _ => rfl
  have D17 : Df K mg "are_inners" s_are_inners ["value", "labels", "texts"] f17 _ := ⟨F17, PySem.W.mg_of X G a17, b17⟩
  have F18 := fun_mk (st := s_are_tops) l18 c18 k18
  have b18 := F18.binds (ps := ["value", "texts", "inner_many"]) fun _ _ _ _ _ _ us hl => match us, hl with | [_, _, _], _ => rfl
  have D18 : Df K mg "are_tops" s_are_tops ["value", "texts", "inner_many"] f18 _ := ⟨F18, PySem.W.mg_of X G a18, b18⟩
  have F19 := fun_mk (st := s_sign_fault) l19 c19 k19
  have b19 := F19.binds (ps := ["value"]) fun _ _ _ _ _ _ us hl => match us, hl with | [_], _ => rfl
  have D19 : Df K mg "_sign_fault" s_sign_fault ["value"] f19 _ := ⟨F19, PySem.W.mg_of X G a19, b19⟩
  have F20 := fun_mk (st := s_is_sign) l20 c20 k20
  have b20 := F20.binds (ps := ["value"]) fun _ _ _ _ _ _ us hl => match us, hl with | [_], _ => rfl
  have D20 : Df K mg "is_sign" s_is_sign ["value"] f20 _ := ⟨F20, PySem.W.mg_of X G a20, b20⟩
  have F21 := fun_mk (st := s_check_machine) l21 c21 k21
  have b21 := F21.binds (ps := ["value"]) fun _ _ _ _ _ _ us hl => match us, hl with | [_], _ => rfl
  have D21 : Df K mg "check_machine" s_check_machine ["value"] f21 _ := ⟨F21, PySem.W.mg_of X G a21, b21⟩
  have F22 := fun_mk (st := s_stack_in) l22 c22 k22
  have b22 := F22.binds (ps := ["machine", "value"]) fun _ _ _ _ _ _ us hl => match us, hl with | [_, _], _ => rfl
  have D22 : Df K mg "stack_in" s_stack_in ["machine", "value"] f22 _ := ⟨F22, PySem.W.mg_of X G a22, b22⟩
  have F23 := fun_mk (st := s_step_of) l23 c23 k23
  have b23 := F23.binds (ps := ["sign"]) fun _ _ _ _ _ _ us hl => match us, hl with | [_], _ => rfl
  have D23 : Df K mg "_step_of" s_step_of ["sign"] f23 _ := ⟨F23, PySem.W.mg_of X G a23, b23⟩
  have F24 := fun_mk (st := s_read_levels) l24 c24 k24
  have b24 := F24.binds (ps := ["value", "ahead"]) fun _ _ _ _ _ _ us hl => match us, hl with | [_, _], _ => rfl
  have D24 : Df K mg "read_levels" s_read_levels ["value", "ahead"] f24 _ := ⟨F24, PySem.W.mg_of X G a24, b24⟩
  have F25 := fun_mk (st := s_read_whole) l25 c25 k25
  have b25 := F25.binds (ps := ["value", "ahead"]) fun _ _ _ _ _ _ us hl => match us, hl with | [_, _], _ => rfl
  have D25 : Df K mg "_read_whole" s_read_whole ["value", "ahead"] f25 _ := ⟨F25, PySem.W.mg_of X G a25, b25⟩
  have F26 := fun_mk (st := s_check_ending) l26 c26 k26
  have b26 := F26.binds (ps := ["depth", "value"]) fun _ _ _ _ _ _ us hl => match us, hl with | [_, _], _ => rfl
  have D26 : Df K mg "check_ending" s_check_ending ["depth", "value"] f26 _ := ⟨F26, PySem.W.mg_of X G a26, b26⟩
  have F27 := fun_mk (st := s_behind_sign) l27 c27 k27
  have b27 := F27.binds (ps := ["machine", "stack", "sign"]) fun _ _ _ _ _ _ us hl => match us, hl with | [_, _, _], _ => rfl
  have D27 : Df K mg "behind_sign" s_behind_sign ["machine", "stack", "sign"] f27 _ := ⟨F27, PySem.W.mg_of X G a27, b27⟩
  have F28 := fun_mk (st := s_behind_all) l28 c28 k28
  have b28 := F28.binds (ps := ["machine", "stack", "signs"]) fun _ _ _ _ _ _ us hl => match us, hl with | [_, _, _], _ => rfl
  have D28 : Df K mg "_behind_all" s_behind_all ["machine", "stack", "signs"] f28 _ := ⟨F28, PySem.W.mg_of X G a28, b28⟩
  have F29 := fun_mk (st := s_answer_by) l29 c29 k29
  have b29 := F29.binds (ps := ["machine", "stack", "ending"]) fun _ _ _ _ _ _ us hl => match us, hl with | [_, _, _], _ => rfl
  have D29 : Df K mg "answer_by" s_answer_by ["machine", "stack", "ending"] f29 _ := ⟨F29, PySem.W.mg_of X G a29, b29⟩
  have F30 := fun_mk (st := s_is_ending) l30 c30 k30
  have b30 := F30.binds (ps := ["depth", "value"]) fun _ _ _ _ _ _ us hl => match us, hl with | [_, _], _ => rfl
  have D30 : Df K mg "is_ending" s_is_ending ["depth", "value"] f30 _ := ⟨F30, PySem.W.mg_of X G a30, b30⟩
  have F31 := fun_mk (st := s_checked) l31 c31 k31
  have b31 := F31.binds (ps := ["machine", "one", "other"]) fun _ _ _ _ _ _ us hl => match us, hl with | [_, _, _], _ => rfl
  have D31 : Df K mg "_checked" s_checked ["machine", "one", "other"] f31 _ := ⟨F31, PySem.W.mg_of X G a31, b31⟩
  have F32 := fun_mk (st := s_lots) l32 c32 k32
  have b32 := F32.binds (ps := ["machine", "one", "other"]) fun _ _ _ _ _ _ us hl => match us, hl with | [_, _, _], _ => rfl
  have D32 : Df K mg "_lots" s_lots ["machine", "one", "other"] f32 _ := ⟨F32, PySem.W.mg_of X G a32, b32⟩
  have F33 := fun_mk (st := s_pair_lots) l33 c33 k33
  have b33 := F33.binds (ps := ["machine", "one", "other"]) fun _ _ _ _ _ _ us hl => match us, hl with | [_, _, _], _ => rfl
  have D33 : Df K mg "pair_lots" s_pair_lots ["machine", "one", "other"] f33 _ := ⟨F33, PySem.W.mg_of X G a33, b33⟩
  have F34 := fun_mk (st := s_alike) l34 c34 k34
  have b34 := F34.binds (ps := ["machine", "one", "other"]) fun _ _ _ _ _ _ us hl => match us, hl with | [_, _, _], _ => rfl
  have D34 : Df K mg "alike" s_alike ["machine", "one", "other"] f34 _ := ⟨F34, PySem.W.mg_of X G a34, b34⟩
  have F35 := fun_mk (st := s_parting) l35 c35 k35
  have b35 := F35.binds (ps := ["machine", "one", "other"]) fun _ _ _ _ _ _ us hl => match us, hl with | [_, _, _], _ => rfl
  have D35 : Df K mg "parting" s_parting ["machine", "one", "other"] f35 _ := ⟨F35, PySem.W.mg_of X G a35, b35⟩
  have F36 := fun_mk (st := s_parting_holds) l36 c36 k36
  have b36 := F36.binds (ps := ["machine", "one", "other", "value"]) fun _ _ _ _ _ _ us hl => match us, hl with | [_, _, _, _], _ => rfl
  have D36 : Df K mg "parting_holds" s_parting_holds ["machine", "one", "other", "value"] f36 _ := ⟨F36, PySem.W.mg_of X G a36, b36⟩
  have F37 := fun_mk (st := s_law_box) l37 c37 k37
  have b37 := F37.binds (ps := ["script", "k"]) fun _ _ _ _ _ _ us hl => match us, hl with | [_, _], _ => rfl
  have D37 : Df K mg "_law_box" s_law_box ["script", "k"] f37 _ := ⟨F37, PySem.W.mg_of X G a37, b37⟩
  have F38 := fun_mk (st := s_law_take) l38 c38 k38
  have b38 := F38.binds (ps := ["box", "many"]) fun _ _ _ _ _ _ us hl => match us, hl with | [_, _], _ => rfl
  have D38 : Df K mg "_law_take" s_law_take ["box", "many"] f38 _ := ⟨F38, PySem.W.mg_of X G a38, b38⟩
  have F39 := fun_mk (st := s_law_pick) l39 c39 k39
  have b39 := F39.binds (ps := ["box", "some"]) fun _ _ _ _ _ _ us hl => match us, hl with | [_, _], _ => rfl
  have D39 : Df K mg "_law_pick" s_law_pick ["box", "some"] f39 _ := ⟨F39, PySem.W.mg_of X G a39, b39⟩
  have F40 := fun_mk (st := s_law_map) l40 c40 k40
  have b40 := F40.binds (ps := ["box", "many"]) fun _ _ _ _ _ _ us hl => match us, hl with | [_, _], _ => rfl
  have D40 : Df K mg "_law_map" s_law_map ["box", "many"] f40 _ := ⟨F40, PySem.W.mg_of X G a40, b40⟩
  have F41 := fun_mk (st := s_law_machine) l41 c41 k41
  have b41 := F41.binds (ps := ["box", "inner", "top"]) fun _ _ _ _ _ _ us hl => match us, hl with | [_, _, _], _ => rfl
  have D41 : Df K mg "_law_machine" s_law_machine ["box", "inner", "top"] f41 _ := ⟨F41, PySem.W.mg_of X G a41, b41⟩
  have F42 := fun_mk (st := s_law_kind) l42 c42 k42
  have b42 := F42.binds (ps := ["names", "name"]) fun _ _ _ _ _ _ us hl => match us, hl with | [_, _], _ => rfl
  have D42 : Df K mg "_law_kind" s_law_kind ["names", "name"] f42 _ := ⟨F42, PySem.W.mg_of X G a42, b42⟩
  have F43 := fun_mk (st := s_law_after) l43 c43 k43
  have b43 := F43.binds (ps := ["machine", "stack", "sign"]) fun _ _ _ _ _ _ us hl => match us, hl with | [_, _, _], _ => rfl
  have D43 : Df K mg "_law_after" s_law_after ["machine", "stack", "sign"] f43 _ := ⟨F43, PySem.W.mg_of X G a43, b43⟩
  have F44 := fun_mk (st := s_law_after_all) l44 c44 k44
  have b44 := F44.binds (ps := ["machine", "stack", "signs"]) fun _ _ _ _ _ _ us hl => match us, hl with | [_, _, _], _ => rfl
  have D44 : Df K mg "_law_after_all" s_law_after_all ["machine", "stack", "signs"] f44 _ := ⟨F44, PySem.W.mg_of X G a44, b44⟩
  have F45 := fun_mk (st := s_law_is_sign) l45 c45 k45
  have b45 := F45.binds (ps := ["value"]) fun _ _ _ _ _ _ us hl => match us, hl with | [_], _ => rfl
  have D45 : Df K mg "_law_is_sign" s_law_is_sign ["value"] f45 _ := ⟨F45, PySem.W.mg_of X G a45, b45⟩
  have F46 := fun_mk (st := s_law_due) l46 c46 k46
  have b46 := F46.binds (ps := ["machine", "one", "other", "value"]) fun _ _ _ _ _ _ us hl => match us, hl with | [_, _, _, _], _ => rfl
  have D46 : Df K mg "_law_due" s_law_due ["machine", "one", "other", "value"] f46 _ := ⟨F46, PySem.W.mg_of X G a46, b46⟩
  have F47 := fun_mk (st := s_law_ending) l47 c47 k47
  have b47 := F47.binds (ps := ["box", "depth"]) fun _ _ _ _ _ _ us hl => match us, hl with | [_, _], _ => rfl
  have D47 : Df K mg "_law_ending" s_law_ending ["box", "depth"] f47 _ := ⟨F47, PySem.W.mg_of X G a47, b47⟩
  have F48 := fun_mk (st := s_law_heard) l48 c48 k48
  have b48 := F48.binds (ps := ["ask"]) fun _ _ _ _ _ _ us hl => match us, hl with | [_], _ => rfl
  have D48 : Df K mg "_law_heard" s_law_heard ["ask"] f48 _ := ⟨F48, PySem.W.mg_of X G a48, b48⟩
  have F49 := fun_mk (st := s_law) l49 c49 k49
  have b49 := F49.binds (ps := ["script"]) fun _ _ _ _ _ _ us hl => match us, hl with | [_], _ => rfl
  have D49 : Df K mg "law" s_law ["script"] fa _ := ⟨F49, PySem.W.mg_of X G a49, b49⟩
  have DC49 : DfC K mg "law" s_law ["script"] fa _ q49 := ⟨⟨oc49, od49, kV49, dc49, pm49, an49, ct49, sl49, rfl, l49, c49⟩, k49, PySem.W.mg_of X G a49, b49⟩
  refine ⟨q8, P8, q49, P49, PySem.W.fnOf "law" "law" (defArgs s_law) (defBody s_law) (defScope s_law) .none kV49 dc49 pm49 an49 (.ref q49) ct49, tab_mk a8 l8 rfl lc8 hp8, nT8, tab_mk a49 l49 rfl lc49 hp49, nT49, fun s u => .of_eq rfl, fun base _ _ TB8 TB49 => ?_⟩
  obtain ⟨L, eL⟩ : ∃ L : List NdefX.NTab, L = [(P49, fun _ _ => ("law" : Str) ++ ".<locals>." ++ "<lambda>")] := ⟨_, rfl⟩
  obtain ⟨Z, eZ⟩ : ∃ Z : Zw, Z = ⟨⟨P8, L, fun _ => none, fun _ => "at"⟩, K, Pg, w, mg, base⟩ := ⟨_, rfl⟩
  have hst : ∀ s, Z.T.st s = none := by rw [eZ]; exact fun _ => rfl
  have ap : Apt Z.T := by
    rw [eZ, eL]
    intro p hp
    simp only [List.mem_cons, List.not_mem_nil, or_false] at hp
    rcases hp with rfl
    · exact Ne.symm d8x49
  have m49 : (P49, fun _ _ => ("law" : Str) ++ ".<locals>." ++ "<lambda>") ∈ Z.T.L := by rw [eZ, eL]; simp
  have w49 : ∀ p ∈ Z.T.L, p.1 = P49 → p.2 = fun _ _ => ("law" : Str) ++ ".<locals>." ++ "<lambda>" := by
    rw [eZ, eL]
    intro p hp e
    simp only [List.mem_cons, List.not_mem_nil, or_false] at hp
    rcases hp with rfl
    · rfl
  have n49 : P49 ≠ Z.T.P := by rw [eZ]; exact Ne.symm d8x49
  have eK : K = Z.K := by rw [eZ]
  have eM : mg = Z.mg := by rw [eZ]
  have eB : base = Z.base := by rw [eZ]
  have ePg : Pg = Z.Pg := by rw [eZ]
  have ew : w = Z.w := by rw [eZ]
  have eP : spLawS K (P8 :: L.map (·.1)) = spLawS Z.K (Z.T.P :: Z.T.L.map (·.1)) := by rw [eZ]
  have A_BadMachine : Z.T.an C_BadMachine = "at" := by rw [eZ]
  have A_Refused : Z.T.an C_Refused = "at" := by rw [eZ]
  have A_BadStream : Z.T.an C_BadStream = "at" := by rw [eZ]
  have tz : Z.T.P = P8 := by rw [eZ]
  rw [show tabL P49 = L.map (·.1) from by rw [eL]; rfl]
  subst eK
  subst eM
  subst eB
  subst ePg
  subst ew
  rw [eP]
  have I_BadMachine := ok_ini_BadMachine (Z := Z) B_BadMachine
  have I_Refused := ok_ini_Refused (Z := Z) B_Refused
  have I_BadStream := ok_ini_BadStream (Z := Z) B_BadStream
  have G_is_number := ok_is_number (Z := Z) (F := F1) (T := T)
  have G_is_number_below := ok_is_number_below (Z := Z) (F := F2) (T := T) (D_is_number := D1) (G_is_number := G_is_number)
  have G_is_sequence := ok_is_sequence (Z := Z) (F := F3) (T := T)
  have G_is_row_of := ok_is_row_of (Z := Z) (F := F4) (T := T) (D_is_sequence := D3) (G_is_sequence := G_is_sequence)
  have G_is_text := ok_is_text (Z := Z) (F := F5) (T := T)
  have G_is_map := ok_is_map (Z := Z) (F := F6) (T := T) (D_is_row_of := D4) (G_is_row_of := G_is_row_of)
  have G_are_maps := ok_are_maps (Z := Z) (F := F7) (T := T) (D_is_row_of := D4) (G_is_row_of := G_is_row_of.mono (by decide)) (D_is_map := D6) (G_is_map := G_is_map)
  have G_is_label := ok_is_label (Z := Z) (F := DC8) (T := T) (TB := tz ▸ TB8) (ap := ap)
  have G_is_ascending := ok_is_ascending (Z := Z) (F := F9) (T := T)
  have G_is_state_count := ok_is_state_count (Z := Z) (F := F10) (T := T) (D_is_number := D1) (G_is_number := G_is_number)
  have G_is_answer := ok_is_answer (Z := Z) (F := F11) (T := T) (D_is_row_of := D4) (G_is_row_of := G_is_row_of)
  have G_as_tuples := ok_as_tuples (Z := Z) (F := F12) (T := T)
  have G_kind_of := ok_kind_of (Z := Z) (F := F13) (T := T)
  have G_are_labels := ok_are_labels (Z := Z) (F := F14) (T := T) (D_is_sequence := D3) (G_is_sequence := G_is_sequence) (D_is_label := D8) (G_is_label := G_is_label) (D_is_ascending := D9) (G_is_ascending := G_is_ascending)
  have G_are_texts := ok_are_texts (Z := Z) (F := F15) (T := T) (D_is_sequence := D3) (G_is_sequence := G_is_sequence) (D_is_text := D5) (G_is_text := G_is_text) (D_is_ascending := D9) (G_is_ascending := G_is_ascending)
  have G_are_answers := ok_are_answers (Z := Z) (F := F16) (T := T) (D_is_row_of := D4) (G_is_row_of := G_is_row_of.mono (by decide)) (D_is_sequence := D3) (G_is_sequence := G_is_sequence.mono (by decide)) (D_is_answer := D11) (G_is_answer := G_is_answer)
  have G_are_inners := ok_are_inners (Z := Z) (F := F17) (T := T) (D_is_row_of := D4) (G_is_row_of := G_is_row_of.mono (by decide)) (D_is_state_count := D10) (G_is_state_count := G_is_state_count.mono (by decide)) (D_is_map := D6) (G_is_map := G_is_map.mono (by decide)) (D_are_maps := D7) (G_are_maps := G_are_maps)
  have G_are_tops := ok_are_tops (Z := Z) (F := F18) (T := T) (D_is_row_of := D4) (G_is_row_of := G_is_row_of.mono (by decide)) (D_is_state_count := D10) (G_is_state_count := G_is_state_count.mono (by decide)) (D_is_number_below := D2) (G_is_number_below := G_is_number_below.mono (by decide)) (D_are_maps := D7) (G_are_maps := G_are_maps) (D_are_answers := D16) (G_are_answers := G_are_answers)
  have G_sign_fault := ok_sign_fault (Z := Z) (F := F19) (T := T) (D_is_sequence := D3) (G_is_sequence := G_is_sequence) (D_is_label := D8) (G_is_label := G_is_label) (D_is_text := D5) (G_is_text := G_is_text)
  have G_is_sign := ok_is_sign (Z := Z) (F := F20) (T := T) (D_sign_fault := D19) (G_sign_fault := G_sign_fault)
  have G_check_machine := ok_check_machine (Z := Z) (F := F21) (T := T) (D_is_row_of := D4) (G_is_row_of := G_is_row_of.mono (by decide)) (D_are_labels := D14) (G_are_labels := G_are_labels.mono (by decide)) (D_are_texts := D15) (G_are_texts := G_are_texts.mono (by decide)) (D_are_inners := D17) (G_are_inners := G_are_inners) (D_are_tops := D18) (G_are_tops := G_are_tops) (D_as_tuples := D12) (G_as_tuples := G_as_tuples.mono (by decide)) (A_BadMachine := A_BadMachine) (B_BadMachine := B_BadMachine) (I_BadMachine := I_BadMachine.mono (by decide))
  have G_stack_in := ok_stack_in (Z := Z) (F := F22) (T := T) (D_is_sequence := D3) (G_is_sequence := G_is_sequence.mono (by decide)) (D_is_number_below := D2) (G_is_number_below := G_is_number_below) (A_Refused := A_Refused) (B_Refused := B_Refused) (I_Refused := I_Refused)
  have G_step_of := ok_step_of (Z := Z) (F := F23) (T := T)
  have G_read_levels := ok_read_levels (Z := Z) (F := F24) (T := T) (D_is_sequence := D3) (G_is_sequence := G_is_sequence.mono (by decide)) (D_is_sign := D20) (G_is_sign := G_is_sign) (D_step_of := D23) (G_step_of := G_step_of.mono (by decide)) (A_BadStream := A_BadStream) (B_BadStream := B_BadStream) (I_BadStream := I_BadStream.mono (by decide))
  have G_read_whole := ok_read_whole (Z := Z) (F := F25) (T := T) (D_read_levels := D24) (G_read_levels := G_read_levels) (A_BadStream := A_BadStream) (B_BadStream := B_BadStream) (I_BadStream := I_BadStream.mono (by decide))
  have G_check_ending := ok_check_ending (Z := Z) (F := F26) (T := T) (D_is_number := D1) (G_is_number := G_is_number.mono (by decide)) (D_read_whole := D25) (G_read_whole := G_read_whole) (A_Refused := A_Refused) (B_Refused := B_Refused) (I_Refused := I_Refused.mono (by decide))
  have G_behind_sign := ok_behind_sign (Z := Z) (F := F27) (T := T) (D_kind_of := D13) (G_kind_of := G_kind_of)
  have G_behind_all := ok_behind_all (Z := Z) (F := F28) (T := T) (D_behind_sign := D27) (G_behind_sign := G_behind_sign)
  have G_answer_by := ok_answer_by (Z := Z) (F := F29) (T := T) (D_check_machine := D21) (G_check_machine := G_check_machine) (D_stack_in := D22) (G_stack_in := G_stack_in.mono (by decide)) (D_check_ending := D26) (G_check_ending := G_check_ending) (D_behind_all := D28) (G_behind_all := G_behind_all.mono (by decide))
  have G_is_ending := ok_is_ending (Z := Z) (F := F30) (T := T) (D_check_ending := D26) (G_check_ending := G_check_ending) (A_BadStream := A_BadStream) (E_BadStream := E_BadStream)
  have G_checked := ok_checked (Z := Z) (F := F31) (T := T) (D_check_machine := D21) (G_check_machine := G_check_machine) (D_stack_in := D22) (G_stack_in := G_stack_in.mono (by decide)) (A_Refused := A_Refused) (B_Refused := B_Refused) (I_Refused := I_Refused.mono (by decide))
  have G_lots := ok_lots (Z := Z) (F := F32) (T := T)
  have G_pair_lots := ok_pair_lots (Z := Z) (F := F33) (T := T) (D_checked := D31) (G_checked := G_checked)
  have G_alike := ok_alike (Z := Z) (F := F34) (T := T) (D_checked := D31) (G_checked := G_checked)
  have G_parting := ok_parting (Z := Z) (F := F35) (T := T) (D_checked := D31) (G_checked := G_checked)
  have G_parting_holds := ok_parting_holds (Z := Z) (F := F36) (T := T) (D_checked := D31) (G_checked := G_checked) (D_is_ending := D30) (G_is_ending := G_is_ending) (D_answer_by := D29) (G_answer_by := G_answer_by)
  have G_law_box := ok_law_box (Z := Z) (F := F37) (T := T)
  have G_law_take := ok_law_take (Z := Z) (F := F38) (T := T)
  have G_law_pick := ok_law_pick (Z := Z) (F := F39) (T := T) (D_law_take := D38) (G_law_take := G_law_take)
  have G_law_map := ok_law_map (Z := Z) (F := F40) (T := T) (D_law_pick := D39) (G_law_pick := G_law_pick) (D_law_take := D38) (G_law_take := G_law_take.mono (by decide))
  have G_law_machine := ok_law_machine (Z := Z) (F := F41) (T := T) (D_law_pick := D39) (G_law_pick := G_law_pick.mono (by decide)) (D_law_map := D40) (G_law_map := G_law_map) (D_law_take := D38) (G_law_take := G_law_take.mono (by decide))
  have G_law_kind := ok_law_kind (Z := Z) (F := F42) (T := T)
  have G_law_after := ok_law_after (Z := Z) (F := F43) (T := T) (D_law_kind := D42) (G_law_kind := G_law_kind)
  have G_law_after_all := ok_law_after_all (Z := Z) (F := F44) (T := T) (D_law_after := D43) (G_law_after := G_law_after)
  have G_law_is_sign := ok_law_is_sign (Z := Z) (F := F45) (T := T)
  have G_law_due := ok_law_due (Z := Z) (F := F46) (T := T) (D_law_is_sign := D45) (G_law_is_sign := G_law_is_sign.mono (by decide)) (D_law_after_all := D44) (G_law_after_all := G_law_after_all)
  have G_law_ending := ok_law_ending (Z := Z) (F := F47) (T := T) (D_law_take := D38) (G_law_take := G_law_take.mono (by decide)) (D_law_pick := D39) (G_law_pick := G_law_pick)
  have G_law_heard := ok_law_heard (Z := Z) (F := F48) (T := T) (A_BadMachine := A_BadMachine) (E_BadMachine := E_BadMachine) (A_Refused := A_Refused) (E_Refused := E_Refused) (g_OpenError := PySem.W.mg_of X G aO) (op_BadMachine_OpenError := op_BadMachine) (op_Refused_OpenError := op_Refused) (x_Refused_BadMachine := x_Refused_BadMachine)
  have G_law := ok_law (Z := Z) (F := DC49) (T := T) (hst := hst) (TB := ⟨TB49.code, TB49.bm, TB49.gP⟩) (hm := m49) (hu := w49) (hP := n49) (D_law_box := D37) (G_law_box := G_law_box.mono (by decide)) (D_law_take := D38) (G_law_take := G_law_take.mono (by decide)) (D_law_machine := D41) (G_law_machine := G_law_machine.mono (by decide)) (D_law_ending := D47) (G_law_ending := G_law_ending.mono (by decide)) (D_law_due := D46) (G_law_due := G_law_due.mono (by decide)) (D_parting_holds := D36) (G_parting_holds := G_parting_holds.mono (by decide)) (D_law_pick := D39) (G_law_pick := G_law_pick.mono (by decide)) (D_alike := D34) (G_alike := G_alike.mono (by decide)) (D_pair_lots := D33) (G_pair_lots := G_pair_lots.mono (by decide)) (D_parting := D35) (G_parting := G_parting.mono (by decide)) (D_law_heard := D48) (G_law_heard := G_law_heard)
  exact law_go G_law ⟨rfl, by decide, by decide⟩ fun ns Q er l q => ⟨ns, rfl, Nat.le_trans l (by decide), q _⟩
theorem walk {l : PySem.W.OpenLaw} {q : Program} {loose : List Str} {XP : (Str → Option Value) → Heap → Prop} {YP : World → Heap → Prop} {d : DefRec} {K : Params → PySem.W.Frag} (hn : l.most = some 63) (hdf : d.params.defaults = [])
    (r0 : ((recsOf q).find? fun e => e.name == ("is_label" : Str)).isSome = true) (r1 : ((recsOf q).find? fun e => e.name == ("law" : Str)).isSome = true) (hY : ∀ (w : World) (h : Heap), YP w h → (K w.params).In h)
    (F : ∀ (w : World) (mg : Str → Option Value) (fa : Addr) (h : Heap), (K w.params).In h → h.Ns mainGlobals mg → mg d.name = some (.ref fa) → Known l.prog w (K w.params) mg fa) :
    PySem.W.WalkO q loose XP YP l.row.toRowW d [] (fun f vs => PySem.call f vs) := by
  refine Att.attach_callB hn hdf fun w s₀ s₁ mg mb fa o pm cd doc a vs ns G Y ho hd hcd hmg hobj hints hlen hbits hg => ?_
  have KX := hY w _ Y
  obtain ⟨c0, P0, c1, P1, fd, ht0, n0, ht1, n1, hb, hF⟩ := F w mg fa _ KX G.T.g hmg
  obtain ⟨dr0, e0⟩ := Option.isSome_iff_exists.mp r0
  obtain ⟨Ch0, hT0⟩ := PySem.W.tab_of G.T KX e0 ht0
  obtain ⟨dr1, e1⟩ := Option.isSome_iff_exists.mp r1
  obtain ⟨Ch1, hT1⟩ := PySem.W.tab_of G.T KX e1 ht1
  have all : ∀ {X : Addr × Addr → Prop}, X (c0, P0) → X (c1, P1) → ∀ p ∈ [(c0, P0), (c1, P1)], X p := by
    intro X x0 x1 p hp
    simp only [List.mem_cons, List.not_mem_nil, or_false] at hp
    rcases hp with rfl | rfl
    · exact x0
    · exact x1
  refine SoG3.law_end (cs := [(c0, P0), (c1, P1)]) KX G.T.g G.T.b G.T.builtins G.T.nolimit hg (all hT0 hT1) (all n0 n1) (all Ch0 Ch1) G.T.bmain hobj hints (Nat.le_trans hlen (by decide))
    (fun base b1 b2 tb => hF base b1 b2 (tb (c0, P0) (by simp)) (tb (c1, P1) (by simp))) hb fun H hH hS => ?_
  refine ⟨a, ns, rfl, fun P hP => ?_, hS, hlen, fun _ => rfl⟩
  unfold tabL at hP
  simp only [List.mem_cons, List.not_mem_nil, or_false] at hP
  rcases hP with rfl | rfl
  · exact hH (c0, _) (by simp)
  · exact hH (c1, _) (by simp)
end K6
set_option Elab.async false
set_option linter.all false
set_option maxRecDepth 100000
open PySem PySem.W PyProof.Rows
set_option maxRecDepth 100000 in
set_option maxHeartbeats 0 in
theorem PySem.Challenge.cw_stillopen_k30_endings_and_what_is_none_holds : PySem.Challenge.rw_stillopen_k30_endings_and_what_is_none.Holds := by
  w_on; o_law; k_head; (case hw => w_witness2)
  k_fill
  refine K6.walk (l := PySem.Challenge.rw_stillopen_k30_endings_and_what_is_none) rfl rfl (by decide +kernel) (by decide +kernel) (fun w h Y => Y.1) ?F
  case F =>
    intro w mg fa h KX G hmg
    refine' K6.all_mk KX G hmg ?a1 ?l1 ?c1 ?k1 ?a2 ?l2 ?c2 ?k2 ?a3 ?l3 ?c3 ?k3 ?a4 ?l4 ?c4 ?k4 ?a5 ?l5 ?c5 ?k5 ?a6 ?l6 ?c6 ?k6 ?a7 ?l7 ?c7 ?k7 ?a8 ?l8 ?c8 ?k8 ?a9 ?l9 ?c9 ?k9 ?a10 ?l10 ?c10 ?k10 ?a11 ?l11 ?c11 ?k11 ?a12 ?l12 ?c12 ?k12 ?a13 ?l13 ?c13 ?k13 ?a14 ?l14 ?c14 ?k14 ?a15 ?l15 ?c15 ?k15 ?a16 ?l16 ?c16 ?k16 ?a17 ?l17 ?c17 ?k17 ?a18 ?l18 ?c18 ?k18 ?a19 ?l19 ?c19 ?k19 ?a20 ?l20 ?c20 ?k20 ?a21 ?l21 ?c21 ?k21 ?a22 ?l22 ?c22 ?k22 ?a23 ?l23 ?c23 ?k23 ?a24 ?l24 ?c24 ?k24 ?a25 ?l25 ?c25 ?k25 ?a26 ?l26 ?c26 ?k26 ?a27 ?l27 ?c27 ?k27 ?a28 ?l28 ?c28 ?k28 ?a29 ?l29 ?c29 ?k29 ?a30 ?l30 ?c30 ?k30 ?a31 ?l31 ?c31 ?k31 ?a32 ?l32 ?c32 ?k32 ?a33 ?l33 ?c33 ?k33 ?a34 ?l34 ?c34 ?k34 ?a35 ?l35 ?c35 ?k35 ?a36 ?l36 ?c36 ?k36 ?a37 ?l37 ?c37 ?k37 ?a38 ?l38 ?c38 ?k38 ?a39 ?l39 ?c39 ?k39 ?a40 ?l40 ?c40 ?k40 ?a41 ?l41 ?c41 ?k41 ?a42 ?l42 ?c42 ?k42 ?a43 ?l43 ?c43 ?k43 ?a44 ?l44 ?c44 ?k44 ?a45 ?l45 ?c45 ?k45 ?a46 ?l46 ?c46 ?k46 ?a47 ?l47 ?c47 ?k47 ?a48 ?l48 ?c48 ?k48 ?a49 ?l49 ?c49 ?k49 ?lc8 ?hp8 ?nT8 ?lc49 ?hp49 ?nT49 ?d8x49 ?z_abs ?z_all ?z_bool ?z_enumerate ?z_int ?z_isinstance ?z_len ?z_list ?z_max ?z_min ?z_range ?z_repr ?z_reversed ?z_set ?z_sorted ?z_str ?z_tuple ?z_zip ?v_LETTERS ?v_LABEL_MOST ?v_TEXT_MOST ?v_LABELS_MOST ?v_TEXTS_MOST ?v_STATES_MOST ?v_WORDS_MOST ?hkd ?aO ?cg ?ctk ?aC_BadMachine ?xL_BadMachine ?sa_BadMachine ?na_BadMachine ?aI_BadMachine ?tI_BadMachine ?lI_BadMachine ?cI_BadMachine ?kI_BadMachine ?kC_BadMachine ?eC_BadMachine ?tC_BadMachine ?iC_BadMachine ?sC_BadMachine ?ga_BadMachine ?gg_BadMachine ?hd_BadMachine ?ca_BadMachine ?mo_BadMachine ?op_BadMachine ?aC_Refused ?xL_Refused ?sa_Refused ?na_Refused ?aI_Refused ?tI_Refused ?lI_Refused ?cI_Refused ?kI_Refused ?kC_Refused ?eC_Refused ?tC_Refused ?iC_Refused ?sC_Refused ?ga_Refused ?gg_Refused ?hd_Refused ?ca_Refused ?mo_Refused ?op_Refused ?aC_BadStream ?xL_BadStream ?sa_BadStream ?na_BadStream ?aI_BadStream ?tI_BadStream ?lI_BadStream ?cI_BadStream ?kI_BadStream ?kC_BadStream ?eC_BadStream ?tC_BadStream ?iC_BadStream ?sC_BadStream ?ga_BadStream ?gg_BadStream ?hd_BadStream ?ca_BadStream ?mo_BadStream ?op_BadStream ?ns_Refused_BadMachine
    (case a1 => k_is)
    (case l1 => k_is)
    (case c1 => k_is)
    (case k1 => k_is)
    (case a2 => k_is)
    (case l2 => k_is)
    (case c2 => k_is)
    (case k2 => k_is)
    (case a3 => k_is)
    (case l3 => k_is)
    (case c3 => k_is)
    (case k3 => k_is)
    (case a4 => k_is)
    (case l4 => k_is)
    (case c4 => k_is)
    (case k4 => k_is)
    (case a5 => k_is)
    (case l5 => k_is)
    (case c5 => k_is)
    (case k5 => k_is)
    (case a6 => k_is)
    (case l6 => k_is)
    (case c6 => k_is)
    (case k6 => k_is)
    (case a7 => k_is)
    (case l7 => k_is)
    (case c7 => k_is)
    (case k7 => k_is)
    (case a8 => k_is)
    (case l8 => k_is)
    (case c8 => k_is)
    (case k8 => k_is)
    (case a9 => k_is)
    (case l9 => k_is)
    (case c9 => k_is)
    (case k9 => k_is)
    (case a10 => k_is)
    (case l10 => k_is)
    (case c10 => k_is)
    (case k10 => k_is)
    (case a11 => k_is)
    (case l11 => k_is)
    (case c11 => k_is)
    (case k11 => k_is)
    (case a12 => k_is)
    (case l12 => k_is)
    (case c12 => k_is)
    (case k12 => k_is)
    (case a13 => k_is)
    (case l13 => k_is)
    (case c13 => k_is)
    (case k13 => k_is)
    (case a14 => k_is)
    (case l14 => k_is)
    (case c14 => k_is)
    (case k14 => k_is)
    (case a15 => k_is)
    (case l15 => k_is)
    (case c15 => k_is)
    (case k15 => k_is)
    (case a16 => k_is)
    (case l16 => k_is)
    (case c16 => k_is)
    (case k16 => k_is)
    (case a17 => k_is)
    (case l17 => k_is)
    (case c17 => k_is)
    (case k17 => k_is)
    (case a18 => k_is)
    (case l18 => k_is)
    (case c18 => k_is)
    (case k18 => k_is)
    (case a19 => k_is)
    (case l19 => k_is)
    (case c19 => k_is)
    (case k19 => k_is)
    (case a20 => k_is)
    (case l20 => k_is)
    (case c20 => k_is)
    (case k20 => k_is)
    (case a21 => k_is)
    (case l21 => k_is)
    (case c21 => k_is)
    (case k21 => k_is)
    (case a22 => k_is)
    (case l22 => k_is)
    (case c22 => k_is)
    (case k22 => k_is)
    (case a23 => k_is)
    (case l23 => k_is)
    (case c23 => k_is)
    (case k23 => k_is)
    (case a24 => k_is)
    (case l24 => k_is)
    (case c24 => k_is)
    (case k24 => k_is)
    (case a25 => k_is)
    (case l25 => k_is)
    (case c25 => k_is)
    (case k25 => k_is)
    (case a26 => k_is)
    (case l26 => k_is)
    (case c26 => k_is)
    (case k26 => k_is)
    (case a27 => k_is)
    (case l27 => k_is)
    (case c27 => k_is)
    (case k27 => k_is)
    (case a28 => k_is)
    (case l28 => k_is)
    (case c28 => k_is)
    (case k28 => k_is)
    (case a29 => k_is)
    (case l29 => k_is)
    (case c29 => k_is)
    (case k29 => k_is)
    (case a30 => k_is)
    (case l30 => k_is)
    (case c30 => k_is)
    (case k30 => k_is)
    (case a31 => k_is)
    (case l31 => k_is)
    (case c31 => k_is)
    (case k31 => k_is)
    (case a32 => k_is)
    (case l32 => k_is)
    (case c32 => k_is)
    (case k32 => k_is)
    (case a33 => k_is)
    (case l33 => k_is)
    (case c33 => k_is)
    (case k33 => k_is)
    (case a34 => k_is)
    (case l34 => k_is)
    (case c34 => k_is)
    (case k34 => k_is)
    (case a35 => k_is)
    (case l35 => k_is)
    (case c35 => k_is)
    (case k35 => k_is)
    (case a36 => k_is)
    (case l36 => k_is)
    (case c36 => k_is)
    (case k36 => k_is)
    (case a37 => k_is)
    (case l37 => k_is)
    (case c37 => k_is)
    (case k37 => k_is)
    (case a38 => k_is)
    (case l38 => k_is)
    (case c38 => k_is)
    (case k38 => k_is)
    (case a39 => k_is)
    (case l39 => k_is)
    (case c39 => k_is)
    (case k39 => k_is)
    (case a40 => k_is)
    (case l40 => k_is)
    (case c40 => k_is)
    (case k40 => k_is)
    (case a41 => k_is)
    (case l41 => k_is)
    (case c41 => k_is)
    (case k41 => k_is)
    (case a42 => k_is)
    (case l42 => k_is)
    (case c42 => k_is)
    (case k42 => k_is)
    (case a43 => k_is)
    (case l43 => k_is)
    (case c43 => k_is)
    (case k43 => k_is)
    (case a44 => k_is)
    (case l44 => k_is)
    (case c44 => k_is)
    (case k44 => k_is)
    (case a45 => k_is)
    (case l45 => k_is)
    (case c45 => k_is)
    (case k45 => k_is)
    (case a46 => k_is)
    (case l46 => k_is)
    (case c46 => k_is)
    (case k46 => k_is)
    (case a47 => k_is)
    (case l47 => k_is)
    (case c47 => k_is)
    (case k47 => k_is)
    (case a48 => k_is)
    (case l48 => k_is)
    (case c48 => k_is)
    (case k48 => k_is)
    (case a49 => k_is)
    (case l49 => k_is)
    (case c49 => k_is)
    (case k49 => k_is)
    (case lc8 => k_is)
    (case hp8 => rfl)
    (case nT8 => first | rfl | kernel_rfl)
    (case lc49 => k_is)
    (case hp49 => rfl)
    (case nT49 => first | rfl | kernel_rfl)
    (case d8x49 => decide)
    (case z_abs => k_is)
    (case z_all => k_is)
    (case z_bool => k_is)
    (case z_enumerate => k_is)
    (case z_int => k_is)
    (case z_isinstance => k_is)
    (case z_len => k_is)
    (case z_list => k_is)
    (case z_max => k_is)
    (case z_min => k_is)
    (case z_range => k_is)
    (case z_repr => k_is)
    (case z_reversed => k_is)
    (case z_set => k_is)
    (case z_sorted => k_is)
    (case z_str => k_is)
    (case z_tuple => k_is)
    (case z_zip => k_is)
    (case v_LETTERS => k_is)
    (case v_LABEL_MOST => k_is)
    (case v_TEXT_MOST => k_is)
    (case v_LABELS_MOST => k_is)
    (case v_TEXTS_MOST => k_is)
    (case v_STATES_MOST => k_is)
    (case v_WORDS_MOST => k_is)
    (case hkd => first | kernel_rfl | rfl | k_is)
    (case aO => k_is)
    (case cg => first | k_is | rfl | kernel_rfl)
    (case ctk => first | k_is | rfl | kernel_rfl)
    (case aC_BadMachine => k_is)
    (case xL_BadMachine => k_is)
    (case sa_BadMachine => k_is)
    (case na_BadMachine => k_is)
    (case aI_BadMachine => k_is)
    (case tI_BadMachine => k_is)
    (case lI_BadMachine => k_is)
    (case cI_BadMachine => k_is)
    (case kI_BadMachine => k_is)
    (case kC_BadMachine => k_is)
    (case eC_BadMachine => k_is)
    (case tC_BadMachine => k_is)
    (case iC_BadMachine => k_is)
    (case sC_BadMachine => first | rfl | k_is)
    (case ga_BadMachine => k_is)
    (case gg_BadMachine => k_is)
    (case hd_BadMachine => first | k_is | rfl | kernel_rfl)
    (case ca_BadMachine => k_is)
    (case mo_BadMachine => first | k_is | rfl | kernel_rfl)
    (case op_BadMachine => first | k_is | rfl | kernel_rfl)
    (case aC_Refused => k_is)
    (case xL_Refused => k_is)
    (case sa_Refused => k_is)
    (case na_Refused => k_is)
    (case aI_Refused => k_is)
    (case tI_Refused => k_is)
    (case lI_Refused => k_is)
    (case cI_Refused => k_is)
    (case kI_Refused => k_is)
    (case kC_Refused => k_is)
    (case eC_Refused => k_is)
    (case tC_Refused => k_is)
    (case iC_Refused => k_is)
    (case sC_Refused => first | rfl | k_is)
    (case ga_Refused => k_is)
    (case gg_Refused => k_is)
    (case hd_Refused => first | k_is | rfl | kernel_rfl)
    (case ca_Refused => k_is)
    (case mo_Refused => first | k_is | rfl | kernel_rfl)
    (case op_Refused => first | k_is | rfl | kernel_rfl)
    (case aC_BadStream => k_is)
    (case xL_BadStream => k_is)
    (case sa_BadStream => k_is)
    (case na_BadStream => k_is)
    (case aI_BadStream => k_is)
    (case tI_BadStream => k_is)
    (case lI_BadStream => k_is)
    (case cI_BadStream => k_is)
    (case kI_BadStream => k_is)
    (case kC_BadStream => k_is)
    (case eC_BadStream => k_is)
    (case tC_BadStream => k_is)
    (case iC_BadStream => k_is)
    (case sC_BadStream => first | rfl | k_is)
    (case ga_BadStream => k_is)
    (case gg_BadStream => k_is)
    (case hd_BadStream => first | k_is | rfl | kernel_rfl)
    (case ca_BadStream => k_is)
    (case mo_BadStream => first | k_is | rfl | kernel_rfl)
    (case op_BadStream => first | k_is | rfl | kernel_rfl)
    (case ns_Refused_BadMachine => first | k_is | rfl | kernel_rfl)
