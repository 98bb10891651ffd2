import PyProof.Rows.All
import Wide.All
import OpenK.AllK
import Wide.FinOn
import HandS.AnyAll
import HandS.ForMost
import HandS.IsInst
import HandS.Conv
import HandS.Exc
import HandS.TryOnly
import HandS.WordsExc
import HandS.ExcInit
import HandS.Wide
import HandS.TupAny
import HandS.TupMul
import HandS.Rev
import HandS.Style
import HandS.EndTab
import HandS.Lambda
import HandS.Nested
import HandS.ForExc
import HandS.ExcOwn
import KE.KDictKeyed
import KE.KeyNested
import PyProof.IsiBase
import PyProof.FactsAll.object
import KE.KIsAll
import HandS.Iter
import HandS.Walk
import KE.GoesEnum
import HandS.Zip
import HandS.NoneIn
import HandS.Deep
import PyProof.ListNew
import HandS.RevTup
import KE.KDictZip
import HandS.Strs
import PyProof.Rows.ReprR
import PyProof.ReprLen
import HandS.ExcField
import HandS.ExcIs
import HandS.TryMany
import KE.KExcIs
import PyProof.P3Eq
import PyProof.AutoSeq1
import PyProof.ListOps
import HandS.WideBits
import HandS.Text
import HandS.Call
import HandS.Replace
import HandS.ReplaceList
import HandS.Codes
import PySem.Challenge.RW_stillopen_k05_whole_markup_cut_anywhere
set_option Elab.async false
set_option linter.all false
set_option maxRecDepth 100000
set_option maxHeartbeats 4000000
namespace SoGx
open PySem PySem.Spec PyProof.Rows L2 GxR
/-- an element that may ask the module's names too -/
def EltG (prog : Program) (w : World) (mg : Str → Option Value) (scope : Scope) (x : Str) (elt : Expr) (pb : Nat → Bool) : Prop :=
  ∀ (cenv : Env) (A' : Around) (E' : Value → Shared → Prop) (c : Nat) (t : Tok) (z : Shared) (m : Str → Option Value),
    cenv.scope = scope → cenv.globals = mainGlobals → z.heap.Ns mainGlobals mg → z.heap.Ns cenv.locals m → m x = some (.str ⟨#[c]⟩ t) →
      wpAny (model prog w) A' (eval elt cenv) (fun y z' => y = .bool (pb c) ∧ Keeps z z') E' z
/-- x in NAME, NAME a text of the module -/
theorem elt_in {prog : Program} {w : World} {mg : Str → Option Value} {scope : Scope} {x g : Str} {l : Str} {tl : Tok} {p1 p2 p3 : Pos}
    (hk : scope.kind = .function) (hl : scope.names.lookup x = some .local) (hgl : scope.names.lookup g = some .globalImplicit) (hm : mg g = some (.str l tl))
    (hd : (x == ("__debug__" : Str)) = false := by decide) (hd2 : (g == ("__debug__" : Str)) = false := by decide) :
    EltG prog w mg scope x (.Compare (.Name x p1) [.In] [.Name g p2] p3) (fun c => decide (c ∈ l.cps.toList)) := by
  intro cenv A' E' c t z m hs hgs hG hn hx
  refine wpAny_Compare1 ?_
  refine wpAny_Name (wpAny_loadName_local (by rw [hs]; exact hk) (show cenv.scope.names.lookup x = some .local by rw [hs]; exact hl) hn hx ?_) hd
  refine Calls.Name_function_global (by rw [hs]; exact hk) (show cenv.scope.names.lookup g = some .globalImplicit by rw [hs]; exact hgl)
    (Calls.loadGlobal_global (by rw [hgs]; exact hG) hm ?_) hd2
  refine PyProof.Rows.in_str ⟨?_, keeps_refl _⟩
  rw [PySem.StrLaws.found_one l c]
section
variable {X : Cx} {pins : List (Addr × Obj)} {σ : L2.St} {H : Hp} {s : Shared}
theorem gen_glob {c P : Addr} {elt iter : Expr} {x : Str} {px gpos : Pos} {scope : Scope} {pb : Nat → Bool} {te : TE} {k : Nat}
    {W' : Value → Shared → Prop} {R : Str → Hp → Prop} (hr : Room k X.A) (TB : TabB X.base X.mg c P) (hcode : X.env.code = .ref c)
    (S : GenS X.env scope x) (hi : PE X iter te) (hel : EltG X.prog X.w X.mg scope x elt pb) (hs : ∀ v, genFold iter X.env v = pure v)
    (I : Inv X pins σ H s) (h : te σ H fun v H1 => ∃ a : Str, v = .str a ∧ TabG H1 P ∧ R a H1)
    (hQ : ∀ a H1 g z, R a H1 → Ready X pins σ H1 P a pb g z → W' (.ref g) z) :
    wpAny (model X.prog X.w) X.A (eval (.GeneratorExp elt [⟨.Name x px, iter, [], 0⟩] scope gpos) X.env) W' X.xe s := by
  have deep : X.A.depth < recursionLimit := by
    have := hr.dp
    omega
  refine wpAny_GeneratorExp_walksQ hr.hd S.co (closure_ok S.free) S.cell S.dot S.loc S.kind deep ?_ hs
  refine thn (hi.run pins s σ H _ I h) fun u z hz => ?_
  obtain ⟨v, J, I1, rv, a, rfl, ⟨ps, hP, ht⟩, hR⟩ := hz
  obtain ⟨t, rfl⟩ := _root_.id rv
  refine wpAny_pyIter_str fun o St W hst => ?_
  have atP : z.heap.get? P = some { cls := .none, data := .fields ps } := I1.hok P _ hP
  have ltP : P < z.heap.objs.size := Heap.lt_size atP
  have atP' : (z.heap.push o).get? P = some { cls := .none, data := .fields ps } := Heap.get?_push_of_some _ atP
  have cd : PySem.W.CodeHd (z.heap.push o) c P := TB.code.keeps fun b u e => Heap.get?_push_of_some _ (I1.bk b u e)
  have noL : (z.heap.push o).NoLimit := I1.nolimit.push o
  have szo : (z.heap.push o).objs.size = z.heap.objs.size + 1 := Heap.size_push ..
  refine ⟨noL, ?_⟩
  -- what comes behind the code object, however it was found
  have cont : ∀ (code : Value) (h3 : Heap) (tk : Nat) (qs : Array Value), Heap.ExtBut P (z.heap.push o) h3 → (z.heap.push o).objs.size ≤ h3.objs.size →
      h3.get? P = some { cls := .none, data := .fields qs } → (∃ more, qs = ps ++ more) → TriplesOk qs.toList →
      wpAny (model X.prog X.w) X.A (builtinsFor X.env.globals X.env.builtins) (fun bi r =>
        ∃ Ia fp wr n₀ Pf St₀ pz F, Value.ref z.heap.objs.size = .ref Ia ∧ (∀ A' : Around, A'.handled = none → Walks X.prog X.w A' Ia fp wr n₀ Pf St₀) ∧
          St₀ 0 r.heap ∧ (∀ b ∈ fp, b < r.heap.objs.size) ∧ r.heap.NoLimit ∧ cStatics ∉ wr ∧
          (∀ href : Heap, (∀ b o, r.heap.get? b = some o → href.get? b = some o) →
            QuietGen X.prog X.w (genEnv scope (cloFrom X.env.cells scope.names []) r.heap.objs.size code bi X.env) x [] elt (List.range r.heap.objs.size) wr Pf pz F href) ∧
          (∀ a h₅ tk gs, gs.bare = true → r.heap.objs.size < a → h₅.objs.size = a + 1 → (∀ b o, r.heap.get? b = some o → h₅.get? b = some o) →
            WalksS X.prog X.w X.A.in4 a (a :: r.heap.objs.size :: List.range r.heap.objs.size) (r.heap.objs.size :: wr) (GenOnlyQ r.gens.size) (passing pz n₀ 0).length
              (fun j y => ∃ i, (passing pz n₀ 0)[j]? = some i ∧ F i y) (GenAt X.prog X.w X.A.in4 a r.gens.size r.heap.objs.size (List.range r.heap.objs.size) wr pz n₀ F) →
            GenAt X.prog X.w X.A.in4 a r.gens.size r.heap.objs.size (List.range r.heap.objs.size) wr pz n₀ F 0 { r with gens := r.gens.push gs, toks := tk, heap := h₅ } →
            W' (.ref a) { r with gens := r.gens.push gs, toks := tk, heap := h₅ })) X.xe { z with heap := h3, toks := tk } := by
    intro code h3 tk qs hx hsz hP3 hmore ht3
    obtain ⟨bm, ob, e1, e2, e3, e4, e5, e6, e7, e8⟩ := TB.bm
    have cP : cStatics ≠ P := fun e => by
      obtain ⟨_, hns, _⟩ := I1.nolimit
      obtain ⟨o', es, ep, ho, hd, _⟩ := hns
      rw [e, atP] at ho
      cases ho
      cases hd
    have cLt : cStatics < z.heap.objs.size := let ⟨_, hns, _⟩ := I1.nolimit; hns.lt
    have stay : ∀ b u, b ≠ P → z.heap.get? b = some u → h3.get? b = some u := fun b u hb e => hx b u hb (Heap.get?_push_of_some _ e)
    have gl3 : h3.Ns mainGlobals X.mg := ((I1.mod.glob.keeps I1.bk).push o).extBut hx TB.gP
    refine wpAny_builtinsFor (m := X.mg) (by rw [I1.ok.glob]; exact gl3) e1 e2 (stay _ _ e4 (I1.bk _ _ e5)) e6 e7 e8 ?_
    refine ⟨z.heap.objs.size, [z.heap.objs.size], [z.heap.objs.size], a.cps.size, SignAt a, St, (fun _ => true),
      (fun i y => ∃ cc, a.cps[i]? = some cc ∧ y = .bool (pb cc)), rfl, W, ?_, ?_, noL.extBut hx cP, ?_, ?_, ?_⟩
    · refine (W X.A hr.hd).frame _ _ _ hst fun b hb u e => hx b u (fun q => ?_) e
      rcases List.mem_cons.mp hb with q2 | q2
      · exact Nat.ne_of_lt ltP (q.symm.trans q2)
      · cases q2
    · intro b hb
      rcases List.mem_cons.mp hb with q | q
      · rw [q]
        show z.heap.objs.size < h3.objs.size
        omega
      · cases q
    · intro q
      rcases List.mem_cons.mp q with q | q
      · exact Nat.ne_of_lt cLt q
      · cases q
    · intro href hh
      refine ⟨fun A' E' i v s₂ m₂ hA hPv hn hm hk => ?_, fun A' E' i v s₂ m₂ hA hPv hp hn hm hk => ?_⟩
      · simp only [List.forIn_nil]
        exact wpAny_pure ⟨rfl, keeps_refl _⟩
      · obtain ⟨cc, u, hcc, rfl⟩ := hPv
        have gl : s₂.heap.Ns mainGlobals X.mg := by
          obtain ⟨og, es, ep, ho, r⟩ := gl3
          have lt3 : mainGlobals < h3.objs.size := Heap.lt_size ho
          refine ⟨og, es, ep, hk mainGlobals (List.mem_range.mpr lt3) (fun q => ?_) og (hh _ _ ho), r⟩
          rcases List.mem_cons.mp q with q | q
          · obtain ⟨o9, _, _, ho9, _⟩ := I1.mod.glob.keeps I1.bk
            have := Heap.lt_size ho9
            rw [q] at this
            exact Nat.lt_irrefl _ this
          · cases q
        exact wpAny_mono (hel _ A' E' cc u s₂ m₂ rfl I1.ok.glob gl hn hm) (fun y s3 r => ⟨⟨cc, hcc, r.1⟩, r.2⟩) fun _ _ e => e
    · intro g h5 tk5 gs hgb hag hsz5 hk5 W5 hat
      simp only [GxR.passing_true, List.length_range] at W5
      refine hQ a J g _ hR ⟨_, _, _, _, _, W5.in4_1, hat, ?_, fun r hm => ?_⟩
      · intro j y sj Qj Ej hy hQj
        obtain ⟨i, hij, cc, hcc, rfl⟩ := hy
        obtain ⟨hj, ej⟩ := List.getElem?_eq_some_iff.mp hij
        rw [List.getElem_range] at ej
        subst ej
        have e9 : a.cps.toList[j]? = some cc := by rw [Array.getElem?_toList]; exact hcc
        have hQ2 : Qj (trF pb a.cps.toList j) sj := hQj
        rw [trF_some e9] at hQ2
        exact wpAny_truthy_bool hQ2
      · obtain ⟨more, em⟩ := hmore
        have nwr : ∀ b u, z.heap.get? b = some u → b ∉ h3.objs.size :: [z.heap.objs.size] := fun b u e hb => by
          have hl := Heap.lt_size e
          have hsz' : z.heap.objs.size + 1 ≤ h3.objs.size := by rw [← szo]; exact hsz
          rcases List.mem_cons.mp hb with q | q
          · have h9 : b = h3.objs.size := q
            have hl' : b < z.heap.objs.size := hl
            rw [h9] at hl'
            exact Nat.lt_irrefl _ (Nat.lt_of_lt_of_le hl' (Nat.le_trans (Nat.le_succ _) hsz'))
          · rcases List.mem_cons.mp q with q | q
            · rw [q] at hl
              exact Nat.lt_irrefl _ hl
            · cases q
        have G1 := inv_tab (more := more) (h' := r.heap) (g' := r.gens) (d' := r.drawn) (t' := r.toks) I1 hP
          (fun b u hb e => hm.heap b u (nwr b u e) (hk5 b u (stay b u hb e))) (by rw [← em]; exact hm.heap P _ (nwr P _ atP) (hk5 P _ hP3)) (AllBare.movedS (I1.bare.push hgb) hm)
        rw [sh_eta z r hm.os] at G1
        exact ⟨upd J P (.tbl (ps ++ more)), ⟨⟨ps ++ more, upd_same, by rw [← em]; exact ht3⟩, fun b hb => upd_ne hb⟩, G1⟩
  cases hf : codeAmong gpos ps.toList with
  | none =>
    refine wpAny_genexprCodeX hcode (cd.code atP' ht) (cd.tab atP') hf fun c' h' tk hx hge hlt hco' _ htab' _ => ?_
    obtain ⟨o1, vs, f1, tf, fl, tg, inF, tx, tt, op, _, _, _, _, _, _, _, _, _, htr, _⟩ := hco'
    exact cont _ h' tk _ hx (Nat.le_trans hge (Nat.le_of_lt hlt)) htab'.2 ⟨_, rfl⟩ htr
  | some cv =>
    refine wpAny_genexprCode_hit hcode (cd.code atP' ht) hf ?_
    exact cont cv (z.heap.push o) z.toks ps (Heap.ExtBut.refl _ _) (Nat.le_refl _) atP' ⟨#[], by simp⟩ ht
/-- all(elt for x in e), e a text, the element asking the module's names -/
theorem pe_allG {c P : Addr} {elt iter : Expr} {x : Str} {px p pos gpos : Pos} {scope : Scope} {pb : Nat → Bool} {te : TE} {k : Nat}
    (hr : Room k X.A) (hg : Gl X "all") (hm : X.mg "all" = none) (hb : bootBuiltins "all" = some (.builtin "all")) (TB : TabB X.base X.mg c P)
    (hcode : X.env.code = .ref c) (S : GenS X.env scope x) (hi : PE X iter te) (hel : EltG X.prog X.w X.mg scope x elt pb) (hs : ∀ v, genFold iter X.env v = pure v)
    (he : starEach [.GeneratorExp elt [⟨.Name x px, iter, [], 0⟩] scope gpos] X.env =
      (false, eval (.GeneratorExp elt [⟨.Name x px, iter, [], 0⟩] scope gpos) X.env) :: starEach [] X.env := by rfl) :
    PE X (.Call (.Name "all" p) [.GeneratorExp elt [⟨.Name x px, iter, [], 0⟩] scope gpos] [] pos) (tAllS P pb te) := by
  refine ⟨fun pins s σ H Q I h => ?_⟩
  refine wpAny_Call_Name_kw (ld_blt I hg hm hb ?_)
  refine PyProof.Rows.callWith_builtin1 ?_ he (by rfl)
  rw [he]
  show wpAny _ _ (spliced ((false, eval (.GeneratorExp elt [⟨.Name x px, iter, [], 0⟩] scope gpos) X.env) :: backTo pos (starEach [] X.env))) _ _ s
  refine Calls.spliced_cons (gen_glob (R := fun a H1 => ∀ H2, Tabbed P H1 H2 → Q (.bl (a.cps.toList.all pb)) H2) hr TB hcode S hi hel hs I h fun a H1 g z hR hG => ?_)
  obtain ⟨fp, wr, G, F, St, W, hst, htr, hI⟩ := hG
  refine Calls.spliced_nil ?_
  refine call_all_walkS (W.self 0 _ _ _ hst ⟨g, fp, wr, G, _, F, St, _, rfl, W, hst, htr, fun r hmv => ?_⟩)
  obtain ⟨H2, hT, J⟩ := hI r hmv
  refine ⟨.bl _, H2, J, rfl, ?_⟩
  rw [all_signs a pb]
  exact hR H2 hT
end
end SoGx
set_option Elab.async false
set_option linter.all false
set_option maxRecDepth 100000
set_option maxHeartbeats 4000000
namespace So
open PySem PySem.Spec PyProof.Rows L2
abbrev TabG := @GxR.TabG
/-- all but the table at P stands as before; the table stands still a table -/
def Sm (P : Addr) (H H' : Hp) : Prop := (∀ b o, b ≠ P → H b = some o → H' b = some o) ∧ GxR.TabG H' P
theorem tab_tup {H : Hp} {P b : Addr} {u : HO} (t : GxR.TabG H P) (h : H b = some u) (n : ∀ ps, u ≠ .tbl ps) : b ≠ P := fun z => by
  obtain ⟨ps, e, _⟩ := t
  rw [z, e] at h
  exact n ps (Option.some.inj h).symm
theorem Sm.refl {P : Addr} {H : Hp} (t : GxR.TabG H P) : Sm P H H := ⟨fun _ _ _ h => h, t⟩
theorem Sm.trans {P : Addr} {H H1 H2 : Hp} (a : Sm P H H1) (b : Sm P H1 H2) : Sm P H H2 := ⟨fun c o n h => b.1 c o n (a.1 c o n h), b.2⟩
theorem Sm.new {P p : Addr} {H : Hp} {o : HO} (t : GxR.TabG H P) (h : H p = none) : Sm P H (upd H p o) := by
  obtain ⟨ps, e, r⟩ := t
  refine ⟨fun b u _ e => ?_, ⟨ps, ?_, r⟩⟩
  · rw [upd_ne (ne_of_none e h)]
    exact e
  · rw [upd_ne (ne_of_none e h)]
    exact e
section
variable {K : PySem.W.Frag} {P a : Addr} {H H' : Hp} {xs : List V}
theorem Sm.tup (t : GxR.TabG H P) (s : Sm P H H') (h : SqT K H a xs) : SqT K H' a xs := by
  rcases h with (h | ⟨o, h⟩) | h
  · exact .inl (.inl (s.1 _ _ (tab_tup t h (fun _ q => nomatch q)) h))
  · exact .inl (.inr ⟨o, s.1 _ _ (tab_tup t h (fun _ q => nomatch q)) h⟩)
  · exact .inr h
theorem Sm.lst (t : GxR.TabG H P) (s : Sm P H H') (h : SqL K H a xs) : SqL K H' a xs := by
  rcases h with (h | ⟨o, h⟩) | h
  · exact .inl (.inl (s.1 _ _ (tab_tup t h (fun _ q => nomatch q)) h))
  · exact .inl (.inr ⟨o, s.1 _ _ (tab_tup t h (fun _ q => nomatch q)) h⟩)
  · exact .inr h
theorem Sm.free (s : Sm P H H') (t : GxR.TabG H P) (h : H' a = none) : H a = none := by
  cases q : H a with
  | none => rfl
  | some o =>
    by_cases e : a = P
    · obtain ⟨ps, z, _⟩ := s.2
      rw [e, z] at h
      cases h
    · rw [s.1 _ _ e q] at h
      cases h
end
/-- a def of the text as its callers need it -/
structure Df (K : PySem.W.Frag) (mg : Str → Option Value) (x : Str) (st : Stmt) (ps : List Str) (f : Addr) (fd : FuncData) : Prop where
  F : Fun K x x st f fd
  g : mg x = some (.ref f)
  b : Binds K fd ps []
/-- .. with its code object -/
structure DfC (K : PySem.W.Frag) (mg : Str → Option Value) (x : Str) (st : Stmt) (ps : List Str) (f : Addr) (fd : FuncData) (c : Addr) : Prop where
  ex : ∃ (oc : Value) (od : Option Addr) (kV doc pm : Value) (an : Option Addr) (ct : Value) (osl : Array (Option Value)),
    fd = PySem.W.fnOf x x (defArgs st) (defBody st) (defScope st) .none kV doc pm an (.ref c) ct ∧ K.lookup f = some ⟨oc, od, .func fd, osl⟩ ∧ PySem.W.codeIn K (.ref c) x = true
  kp : PySem.W.keepIn K (.ref f) = true
  g : mg x = some (.ref f)
  b : Binds K fd ps []
theorem DfC.ok {Pg : Program} {w : World} {K : PySem.W.Frag} {mg : Str → Option Value} {base : Heap} {x : Str} {st : Stmt} {f c : Addr} {fd : FuncData} {N ps : List Str} {k : Nat} {sp : Sp} {CX : CXT}
    (F : DfC K mg x st ps f fd c) (S : FnScope N ps (defScope st)) (len : ∀ vs H Q E, sp vs H Q E → vs.length = ps.length)
    (body : ∀ (A : Around) (outer : List Env) (s : Shared) (H : Hp) (vs : List V) (Q : VK) (E : XK), Room k (A.deeper (envOfC x (defScope st) s.heap.objs.size f (.ref c))) → sp vs H Q E →
      ∃ t, PSs (cxOf CX Pg w K mg base N x (defScope st) f (.ref c) A outer s H E) (defBody st) t ∧ t { nx := fun _ H' => Q .non H', rt := Q } (start N vs) H) :
    FnOk Pg w K mg base CX (k + 1) f fd ps sp := by
  obtain ⟨oc, od, kV, doc, pm, an, ct, osl, rfl, lk, hcd⟩ := F.ex
  exact fn_of lk hcd S len body
end So
set_option Elab.async false
set_option linter.all false
set_option maxRecDepth 100000
set_option maxHeartbeats 4000000
namespace Dl
open PySem PySem.Spec PyProof.Rows L2 So
/-- a place of the text that makes functions: a lambda, a def within a def -/
structure SiteC where
  name : Str
  qual : Str
  params : Arguments
  scope : Scope
  fr : List Str
  body : Sum Expr (List Stmt)
/-- the tables: is_label's, those of defs that make functions; what an error's attribute is called -/
structure Tb where
  P : Addr
  L : List NdefX.NTab
  st : Nat → Option SiteC := fun _ => none
  an : Addr → Str := fun _ => "at"
def Tg (H : Hp) (T : Tb) : Prop := GxR.TabG H T.P ∧ NdefX.TabsN T.L H
/-- is_label's table is none of the others -/
def Apt (T : Tb) : Prop := ∀ p ∈ T.L, p.1 ≠ T.P
/-- all but the tables stays -/
def Ex (T : Tb) (H H' : Hp) : Prop := LamX.ExtN H H' ∧ Tg H' T
section
variable {T : Tb} {H H1 H' : Hp} {p a b : Addr} {o : HO} {xs : List V}
theorem Ex.refl (t : Tg H T) : Ex T H H := ⟨LamX.ExtN.refl H, t⟩
theorem Ex.trans (a : Ex T H H1) (b : Ex T H1 H') : Ex T H H' := ⟨a.1.trans b.1, b.2⟩
theorem Tg.ext (t : Tg H T) (e : ∀ b o, H b = some o → H' b = some o) : Tg H' T := ⟨by
  obtain ⟨⟨ps, h1, h2⟩, _⟩ := t
  exact ⟨ps, e _ _ h1, h2⟩, t.2.ext e⟩
theorem Ex.of (t : Tg H T) (e : ∀ b o, H b = some o → H' b = some o) : Ex T H H' := ⟨LamX.ExtN.of e, t.ext e⟩
theorem Ex.new (t : Tg H T) (h : H p = none) : Ex T H (upd H p o) := Ex.of t fun b u e => by rw [upd_ne (ne_of_none e h)]; exact e
theorem Ex.at (s : Ex T H H') (h : H b = some o) (n : ∀ ps, o ≠ .tbl ps) : H' b = some o := s.1 b o h n
/-- no table, no code object: may be taken away, may change -/
def Free (o : HO) : Prop := (∀ ps, o ≠ .tbl ps) ∧ ∀ c q, o ≠ LamX.CodeO c q
theorem Tg.but (t : Tg H T) (n : ∀ o, H p = some o → Free o) (e : ∀ b, b ≠ p → ∀ o, H b = some o → H' b = some o) : Tg H' T := by
  obtain ⟨⟨ps, h1, h2⟩, t2⟩ := t
  refine ⟨⟨ps, e _ (fun z => (n _ (z ▸ h1)).1 ps rfl) _ h1, h2⟩, fun q hq => ?_⟩
  obtain ⟨qs, a, b, c⟩ := t2 q hq
  refine ⟨qs, e _ (fun z => (n _ (z ▸ a)).1 qs rfl) _ a, b, fun pos cv hc => ?_⟩
  obtain ⟨d, e1, e2⟩ := c pos cv hc
  exact ⟨d, e1, e _ (fun z => (n _ (z ▸ e2)).2 _ _ rfl) _ e2⟩
/-- is_label's table alone has grown -/
theorem Ex.tabbed (ap : Apt T) (t : Tg H T) (g : GxR.Tabbed T.P H H') : Ex T H H' := by
  obtain ⟨⟨ps, h1, h2⟩, t2⟩ := t
  have e : ∀ b, b ≠ T.P → H' b = H b := g.2
  refine ⟨fun b o eb nt => ?_, g.1, fun q hq => ?_⟩
  · rw [e b fun z => ?_]
    · exact eb
    · rw [z, h1] at eb
      exact nt ps (Option.some.inj eb).symm
  · obtain ⟨qs, a, b, c⟩ := t2 q hq
    refine ⟨qs, by rw [e _ (ap q hq)]; exact a, b, fun pos cv hc => ?_⟩
    obtain ⟨d, e1, e2⟩ := c pos cv hc
    refine ⟨d, e1, ?_⟩
    rw [e _ fun z => ?_]
    · exact e2
    · rw [z, h1] at e2
      exact nomatch Option.some.inj e2
variable {K : PySem.W.Frag}
theorem sqt_ext (x : LamX.ExtN H H') {a : Addr} {xs : List V} (h : SqT K H a xs) : SqT K H' a xs := h.imp (fun q => q.imp (fun q => x _ _ q fun _ z => nomatch z) fun ⟨o, q⟩ => ⟨o, x _ _ q fun _ z => nomatch z⟩) _root_.id
theorem sql_ext (x : LamX.ExtN H H') {a : Addr} {xs : List V} (h : SqL K H a xs) : SqL K H' a xs := h.imp (fun q => q.imp (fun q => x _ _ q fun _ z => nomatch z) fun ⟨o, q⟩ => ⟨o, x _ _ q fun _ z => nomatch z⟩) _root_.id
theorem Ex.tup (s : Ex T H H') (h : SqT K H a xs) : SqT K H' a xs := sqt_ext s.1 h
theorem Ex.lst (s : Ex T H H') (h : SqL K H a xs) : SqL K H' a xs := sql_ext s.1 h
end
/-- its object tells all of it -/
structure Lcl (o : HO) : Prop where
  keep : ∀ {Pg : Program} {w : World} {H H' : Hp} {h h' : Heap} {a : Addr}, ObjOk Pg w H h a o → (∀ ob, h.get? a = some ob → h'.get? a = some ob) → ObjOk Pg w H' h' a o
  obj : ∀ {Pg : Program} {w : World} {H : Hp} {h : Heap} {a : Addr}, ObjOk Pg w H h a o → ∃ ob, h.get? a = some ob
  nt : ∀ xs, o ≠ .tup xs
  no : ∀ x, o ≠ .own x
theorem lcl_lst {xs : List V} : Lcl (.lst xs) := ⟨fun ⟨z, its, n, r, e⟩ k => ⟨z, its, n, r, k _ e⟩, fun ⟨_, _, _, _, e⟩ => ⟨_, e⟩, (fun _ z => nomatch z), (fun _ z => nomatch z)⟩
theorem lcl_ext {φ : Heap → Prop} : Lcl (.ext φ) := ⟨fun ⟨p, ⟨o, e⟩, st⟩ k => ⟨st _ _ p k, ⟨o, k _ e⟩, st⟩, fun ⟨_, e, _⟩ => e, (fun _ z => nomatch z), (fun _ z => nomatch z)⟩
theorem lcl_frz {ob : Obj} {u : HO} (l : Lcl u) : Lcl (.frz ob u) := ⟨fun ⟨e, q⟩ k => ⟨k _ e, l.keep q k⟩, fun ⟨e, _⟩ => ⟨_, e⟩, (fun _ z => nomatch z), (fun _ z => nomatch z)⟩
/-- a cell that is known and stays as it is -/
def CellU : HO := .ext fun _ => True
abbrev CellF (ob : Obj) : HO := .frz ob CellU
theorem cellF_ok {Pg : Program} {w : World} {H : Hp} {h : Heap} {a : Addr} {ob : Obj} (e : h.get? a = some ob) : ObjOk Pg w H h a (CellF ob) := ⟨e, trivial, ⟨ob, e⟩, fun _ _ _ _ => trivial⟩
/-- ls hidden, the cells co shown -/
def mask (ls : List Addr) (co : Addr → Option Obj) (H : Hp) : Hp := fun b => if b ∈ ls then none else match co b with
  | some ob => some (CellF ob)
  | none => H b
def unmask (ls : List Addr) (co : Addr → Option Obj) (H H' : Hp) : Hp := fun b => if b ∈ ls then H b else match co b with
  | some _ => none
  | none => H' b
def noCo : Addr → Option Obj := fun _ => none
section
variable {ls : List Addr} {co : Addr → Option Obj} {H H' : Hp} {b : Addr}
theorem mask_in (h : b ∈ ls) : mask ls co H b = none := if_pos h
theorem mask_co {ob : Obj} (h : b ∉ ls) (e : co b = some ob) : mask ls co H b = some (CellF ob) := by unfold mask; rw [if_neg h, e]
theorem mask_out (h : b ∉ ls) (e : co b = none) : mask ls co H b = H b := by unfold mask; rw [if_neg h, e]
theorem unmask_in (h : b ∈ ls) : unmask ls co H H' b = H b := if_pos h
theorem unmask_co {ob : Obj} (h : b ∉ ls) (e : co b = some ob) : unmask ls co H H' b = none := by unfold unmask; rw [if_neg h, e]
theorem unmask_out (h : b ∉ ls) (e : co b = none) : unmask ls co H H' b = H' b := by unfold unmask; rw [if_neg h, e]
/-- what may be hidden, what may be shown -/
structure Msk (fs : List Addr) (ls : List Addr) (co : Addr → Option Obj) (H : Hp) (h : Heap) : Prop where
  hid : ∀ b ∈ ls, ∃ o, H b = some o ∧ Lcl o
  sho : ∀ b ob, co b = some ob → H b = none ∧ h.get? b = some ob ∧ b ∉ fs
variable {Pg : Program} {w : World} {fs : List Addr} {h h' : Heap}
theorem Msk.nl (M : Msk fs ls co H h) (n : H b = none) : b ∉ ls := fun m => by
  obtain ⟨o, e, _⟩ := M.hid b m
  rw [n] at e
  cases e
theorem Msk.nc {o : HO} (M : Msk fs ls co H h) (e : H b = some o) : co b = none := by
  cases q : co b with
  | none => rfl
  | some ob => rw [(M.sho b ob q).1] at e; cases e
theorem Msk.has {o : HO} (M : Msk fs ls co H h) (e : H b = some o) (n : ¬ Lcl o) : mask ls co H b = some o := by
  rw [mask_out (fun m => ?_) (M.nc e)]
  · exact e
  · obtain ⟨u, q, l⟩ := M.hid b m
    rw [e] at q
    cases q
    exact n l
theorem not_lcl_tup {xs : List V} : ¬ Lcl (.tup xs) := fun l => l.nt xs rfl
theorem not_lcl_own {x : Addr} : ¬ Lcl (.own x) := fun l => l.no x rfl
theorem mask_ok (M : Msk fs ls co H h) (ok : HOk Pg w H h) : HOk Pg w (mask ls co H) h := by
  intro a o e
  by_cases m : a ∈ ls
  · rw [mask_in m] at e
    cases e
  · cases q : co a with
    | some ob =>
      rw [mask_co m q] at e
      cases e
      exact cellF_ok (M.sho a ob q).2.1
    | none =>
      rw [mask_out m q] at e
      exact (ok a o e).stay (fun _ _ _ q => q) (fun c q => M.has q not_lcl_own) fun c xs q => M.has q not_lcl_tup
/-- what the called def's end has of it -/
structure Bck (ls : List Addr) (co : Addr → Option Obj) (H' : Hp) : Prop where
  gone : ∀ b ∈ ls, H' b = none
  kept : ∀ b ob, co b = some ob → H' b = some (CellF ob)
theorem unmask_ok (M : Msk fs ls co H h) (ok : HOk Pg w H h) (B : Bck ls co H') (ok' : HOk Pg w H' h') (kp : ∀ c ∈ ls, ∀ o, h.get? c = some o → h'.get? c = some o) : HOk Pg w (unmask ls co H H') h' := by
  have key : ∀ c u, H' c = some u → (∀ ob, u ≠ CellF ob) → unmask ls co H H' c = some u := fun c u q n => by
    have m : c ∉ ls := fun k => by
      rw [B.gone c k] at q
      cases q
    have e : co c = none := by
      cases e : co c with
      | none => rfl
      | some ob =>
        rw [B.kept c ob e] at q
        cases q
        exact absurd rfl (n ob)
    rw [unmask_out m e]
    exact q
  intro a o e
  by_cases m : a ∈ ls
  · rw [unmask_in m] at e
    obtain ⟨u, q, l⟩ := M.hid a m
    rw [q] at e
    cases e
    exact l.keep (ok a _ q) (kp a m)
  · cases q : co a with
    | some ob => rw [unmask_co m q] at e; cases e
    | none =>
      rw [unmask_out m q] at e
      exact (ok' a o e).stay (fun _ _ _ q => q) (fun c q => key c _ q fun _ z => nomatch z) fun c xs q => key c _ q fun _ z => nomatch z
theorem Msk.obj (M : Msk fs ls co H h) (ok : HOk Pg w H h) {c : Addr} (m : c ∈ ls) : ∃ o, h.get? c = some o := by
  obtain ⟨o, e, l⟩ := M.hid c m
  exact l.obj (ok c o e)
end
end Dl
set_option Elab.async false
set_option linter.all false
set_option maxRecDepth 100000
set_option maxHeartbeats 4000000
namespace Dl
open PySem PySem.Spec PyProof.Rows L2 So
section
variable {ls : List Addr} {co : Addr → Option Obj} {H H' : Hp} {b : Addr} {Pg : Program} {w : World} {fs : List Addr} {h h' : Heap}
theorem bck_of (M : Msk fs ls co H h) (ok : HOk Pg w H h) (u : Un fs [] (mask ls co H) H' h h') : Bck ls co H' := by
  refine ⟨fun b m => ?_, fun b ob e => ?_⟩
  · obtain ⟨o, q⟩ := M.obj ok m
    exact u.free b o q (mask_in m) (fun z => nomatch z)
  · exact u.frzs b ob _ (mask_co (M.nl (M.sho b ob e).1) e)
theorem unmask_un (M : Msk fs ls co H h) (ok : HOk Pg w H h) (u : Un fs [] (mask ls co H) H' h h') (ok' : HOk Pg w H' h') : Un fs [] H (unmask ls co H H') h h' := by
  have B := bck_of M ok u
  have out : ∀ {b o}, H b = some o → b ∉ ls → mask ls co H b = some o := fun {b o} e m => by rw [mask_out m (M.nc e)]; exact e
  have nn : ∀ {b}, H b = none → co b = none → mask ls co H b = none := fun {b} n e => by rw [mask_out (M.nl n) e]; exact n
  refine ⟨fun b o g n f x => ?_, fun b o g n f x => ?_, fun b o g n x => ?_, u.there, fun b xs e => ?_, fun b o v e => ?_, fun b ps e => ?_⟩
  · cases q : co b with
    | some ob =>
      have e1 := (M.sho b ob q).2.1
      rw [g] at e1
      cases e1
      exact (ok' b _ (B.kept b o q)).1
    | none => exact u.keep b o g (nn n q) f x
  · cases q : co b with
    | some ob => exact absurd f (M.sho b ob q).2.2
    | none => exact u.slot b o g (nn n q) f x
  · cases q : co b with
    | some ob => exact unmask_co (M.nl n) q
    | none =>
      rw [unmask_out (M.nl n) q]
      exact u.free b o g (nn n q) x
  · have m : b ∉ ls := fun m => by
      obtain ⟨o, q, l⟩ := M.hid b m
      rw [e] at q
      cases q
      exact l.nt _ rfl
    rw [unmask_out m (M.nc e)]
    exact u.tups b xs (out e m)
  · by_cases m : b ∈ ls
    · rw [unmask_in m]
      exact e
    · rw [unmask_out m (M.nc e)]
      exact u.frzs b o v (out e m)
  · by_cases m : b ∈ ls
    · rw [unmask_in m]
      exact ⟨#[], by rw [e]; simp⟩
    · rw [unmask_out m (M.nc e)]
      exact u.tbls b ps (out e m)
theorem cx_unmask {outer : List Env} {s s' : Shared} {E E' : XK} {u : Value} (M : Msk (frs outer) ls co H s.heap) (ok : HOk Pg w H s.heap) (nf : ∀ b ∈ frs outer, H b = none) (h : L2.CX Pg w outer (mask ls co H) s E' u s')
    (hE : ∀ cls d H2, E' cls d H2 → Bck ls co H2 → E cls d (unmask ls co H H2)) : L2.CX Pg w outer H s E u s' := by
  obtain ⟨a, B, H2, cls, d, rfl, fl, hok, ub, na, os, ag, q⟩ := h
  have nfr : ∀ c ∈ ls, c ∉ frs outer := fun c m f => by
    obtain ⟨o, e, _⟩ := M.hid c m
    rw [nf c f] at e
    cases e
  have bk : Bck ls co H2 := ⟨fun c m => by
    obtain ⟨o, g⟩ := M.obj ok m
    exact ub.free c o g (mask_in m), fun c ob e => ub.frzs c ob _ (mask_co (M.nl (M.sho c ob e).1) e)⟩
  have kp : ∀ c ∈ ls, ∀ o, s.heap.get? c = some o → B.get? c = some o := fun c m o g => ub.keep c o g (mask_in m) (nfr c m)
  have out : ∀ {b o}, H b = some o → b ∉ ls → mask ls co H b = some o := fun {b o} e m => by rw [mask_out m (M.nc e)]; exact e
  have nn : ∀ {b}, H b = none → co b = none → mask ls co H b = none := fun {b} n e => by rw [mask_out (M.nl n) e]; exact n
  refine ⟨a, B, unmask ls co H H2, cls, d, rfl, fl, unmask_ok M ok bk hok kp, ?_, ?_, os, ag, hE cls d H2 q bk⟩
  · refine ⟨fun b o g n f => ?_, ub.slot, fun b o g n => ?_, ub.there, fun b xs e => ?_, fun b o v e => ?_, fun b ps e => ?_⟩
    · cases q : co b with
      | some ob =>
        have e1 := (M.sho b ob q).2.1
        rw [g] at e1
        cases e1
        exact (hok b _ (bk.kept b o q)).1
      | none => exact ub.keep b o g (nn n q) f
    · cases q : co b with
      | some ob => exact unmask_co (M.nl n) q
      | none =>
        rw [unmask_out (M.nl n) q]
        exact ub.free b o g (nn n q)
    · have m : b ∉ ls := fun m => by
        obtain ⟨o, q, l⟩ := M.hid b m
        rw [e] at q
        cases q
        exact l.nt _ rfl
      rw [unmask_out m (M.nc e)]
      exact ub.tups b xs (out e m)
    · by_cases m : b ∈ ls
      · rw [unmask_in m]
        exact e
      · rw [unmask_out m (M.nc e)]
        exact ub.frzs b o v (out e m)
    · by_cases m : b ∈ ls
      · rw [unmask_in m]
        exact ⟨#[], by rw [e]; simp⟩
      · rw [unmask_out m (M.nc e)]
        exact ub.tbls b ps (out e m)
  · by_cases m : a ∈ ls
    · obtain ⟨o, g⟩ := M.obj ok m
      have g' := kp a m o g
      rw [fl.2.1] at g'
      cases g'
    · cases q : co a with
      | some ob => exact unmask_co m q
      | none =>
        rw [unmask_out m q]
        exact na
theorem mask_env {K : PySem.W.Frag} {mg : Str → Option Value} {base : Heap} {A : Around} {outer : List Env} {s : Shared} (M : Msk (frs outer) ls co H s.heap) (nb : ∀ b ob, co b = some ob → base.get? b = none) (e0 : Env0 Pg w K mg base A outer s H) : Env0 Pg w K mg base A outer s (mask ls co H) := by
  have nn : ∀ {b}, H b = none → co b = none → mask ls co H b = none := fun {b} n e => by rw [mask_out (M.nl n) e]; exact n
  refine ⟨e0.frames, e0.mod, fun b o g => ⟨(e0.bs b o g).1, nn (e0.bs b o g).2 ?_⟩, e0.bsz, e0.funs, fun b m => nn (e0.frf b m) ?_, mask_ok M e0.hok, e0.bare⟩
  · cases q : co b with
    | none => rfl
    | some ob => rw [nb b ob q] at g; cases g
  · cases q : co b with
    | none => rfl
    | some ob => exact absurd m (M.sho b ob q).2.2
end
structure FnD (Pg : Program) (w : World) (K : PySem.W.Frag) (mg : Str → Option Value) (base : Heap) (CX : CXT) (k : Nat) (f : Addr) (fd : FuncData) (ps : List Str) (sp : Sp) : Prop where
  len : ∀ vs H Q E, sp vs H Q E → vs.length = ps.length
  run : ∀ (A : Around) (outer : List Env) (s : Shared) (H : Hp) (args : Args) (us : List Value) (vs : List V) (Q : VK) (E : XK), Room k A → A.guards = some [] → Env0 Pg w K mg base A outer s H → BindsTo s fd args (ps.zip us) → Vals vs us → sp vs H Q E →
    codeAny (model Pg w) A (.call (.ref f) args) (CR CX outer Pg w H s Q E) s
section
variable {Pg : Program} {w : World} {K : PySem.W.Frag} {mg : Str → Option Value} {base : Heap} {CX : CXT} {k j : Nat} {f : Addr} {fd : FuncData} {ps : List Str} {sp sp' : Sp}
theorem FnD.of (F : FnOk Pg w K mg base CX k f fd ps sp) : FnD Pg w K mg base CX k f fd ps sp := ⟨F.len, fun A outer s H args us vs Q E hr _ e0 hb r h => F.run A outer s H args us vs Q E hr e0 hb r h⟩
theorem FnD.mono (F : FnD Pg w K mg base CX j f fd ps sp) (h : j ≤ k) : FnD Pg w K mg base CX k f fd ps sp := ⟨F.len, fun A outer s H args us vs Q E hr => F.run A outer s H args us vs Q E (hr.mono h)⟩
theorem FnD.imp (F : FnD Pg w K mg base CX k f fd ps sp) (h : ∀ vs H Q E, sp' vs H Q E → sp vs H Q E) : FnD Pg w K mg base CX k f fd ps sp' :=
  ⟨fun vs H Q E q => F.len vs H Q E (h vs H Q E q), fun A outer s H args us vs Q E hr hg e0 hb r q => F.run A outer s H args us vs Q E hr hg e0 hb r (h vs H Q E q)⟩
/-- what lets nothing out may be called where something may be let out -/
theorem FnD.up (F : FnD Pg w K mg base CX0 k f fd ps sp) : FnD Pg w K mg base CX k f fd ps sp := ⟨F.len, fun A outer s H args us vs Q E hr hg e0 hb r q => codeAny_mono (F.run A outer s H args us vs Q E hr hg e0 hb r q) fun z s' hq => by
  match z, hq with
  | .ok (.ret u), hq => exact hq
  | .error e, hq => exact hq.elim⟩
/-- a def by its body -/
theorem FnD.ok {x y : Str} {st : Stmt} {N : List Str} (F : Fun K x y st f fd) (S : FnScope N ps (defScope st)) (len : ∀ vs H Q E, sp vs H Q E → vs.length = ps.length)
    (body : ∀ (cd : Value) (A : Around) (outer : List Env) (s : Shared) (H : Hp) (vs : List V) (Q : VK) (E : XK), Room k (A.deeper (envOfC y (defScope st) s.heap.objs.size f cd)) → (A.deeper (envOfC y (defScope st) s.heap.objs.size f cd)).guards = some [] → sp vs H Q E →
      ∃ t, PSs (cxOf CX0 Pg w K mg base N y (defScope st) f cd A outer s H E).nox (defBody st) t ∧ t { nx := fun _ H' => Q .non H', rt := Q } (start N vs) H) : FnD Pg w K mg base CX0 (k + 1) f fd ps sp := by
  obtain ⟨oc, od, kV, doc, pm, an, cd, ct, osl, rfl, lk, hcd⟩ := F.ex
  refine ⟨len, ?_⟩
  intro A outer s H args us vs Q E hr hg e0 hb r hsp
  have hl := len _ _ _ _ hsp
  have kp : ∀ b o, base.get? b = some o → s.heap.get? b = some o := fun b o z => (e0.bs b o z).1
  have pk : ∀ y ∈ ps.zip us, (defScope st).names.lookup y.1 = some .local ∨ ((defScope st).names.lookup y.1 = some .cell ∧ ((cellsFrom (s.heap.objs.size + 1) (defScope st).names []).lookup y.1).isSome = true) := fun y hy =>
    (S.par y.1 (List.of_mem_zip hy).1).imp id fun q => ⟨q, PySem.W.cellsFrom_some _ _ _ (.inl q)⟩
  have KX := e0.mod.kin.keeps kp
  refine codeAny_call_function hr.depth (KX _ _ lk) rfl S.co S.gen rfl (PySem.W.codeRec_of KX hcd) (hb _ _ _ _ (wpAny_newFunctionEnv_cells S.kind pk fun env he s1 x1 => ?_))
  subst he
  obtain ⟨t, ht, hq⟩ := body cd A outer s H vs Q E (hr.deeper _) hg hsp
  have I := inv_start (CX := CX0) (E := E) (cd := cd) (f := f) (qual := y) (us := us) S hr.hd e0 hl r x1
  refine ⟨(e0.mod.nolimit.keeps kp).keeps x1.toInCall.keep, codeAny_func (wpAny_mono (ht.nox.run [] s1 _ H _ I hq) (fun fl s' hs => ?_) fun _ _ z => z)⟩
  match fl, hs with
  | .ret u, ⟨v, σ', H', J, rv, q⟩ => exact ⟨v, H', J.os, J.bare, J.base, J.hok, rv, q⟩
  | .next, ⟨σ', H', J, q⟩ => exact ⟨V.non, H', J.os, J.bare, J.base, J.hok, rfl, q⟩
  | .brk, ⟨_, _, _, q⟩ => exact q.elim
  | .cont, ⟨_, _, _, q⟩ => exact q.elim
/-- a def that may raise, by its body -/
theorem FnD.okX {x y : Str} {st : Stmt} {N : List Str} (F : Fun K x y st f fd) (S : FnScope N ps (defScope st)) (len : ∀ vs H Q E, sp vs H Q E → vs.length = ps.length)
    (body : ∀ (cd : Value) (A : Around) (outer : List Env) (s : Shared) (H : Hp) (vs : List V) (Q : VK) (E : XK), Room k (A.deeper (envOfC y (defScope st) s.heap.objs.size f cd)) → (A.deeper (envOfC y (defScope st) s.heap.objs.size f cd)).guards = some [] → sp vs H Q E →
      ∃ t, PSs (cxOf CX Pg w K mg base N y (defScope st) f cd A outer s H E) (defBody st) t ∧ t { nx := fun _ H' => Q .non H', rt := Q } (start N vs) H) : FnD Pg w K mg base CX (k + 1) f fd ps sp := by
  obtain ⟨oc, od, kV, doc, pm, an, cd, ct, osl, rfl, lk, hcd⟩ := F.ex
  refine ⟨len, ?_⟩
  intro A outer s H args us vs Q E hr hg e0 hb r hsp
  have hl := len _ _ _ _ hsp
  have kp : ∀ b o, base.get? b = some o → s.heap.get? b = some o := fun b o z => (e0.bs b o z).1
  have pk : ∀ y ∈ ps.zip us, (defScope st).names.lookup y.1 = some .local ∨ ((defScope st).names.lookup y.1 = some .cell ∧ ((cellsFrom (s.heap.objs.size + 1) (defScope st).names []).lookup y.1).isSome = true) := fun y hy =>
    (S.par y.1 (List.of_mem_zip hy).1).imp id fun q => ⟨q, PySem.W.cellsFrom_some _ _ _ (.inl q)⟩
  have KX := e0.mod.kin.keeps kp
  refine codeAny_call_function hr.depth (KX _ _ lk) rfl S.co S.gen rfl (PySem.W.codeRec_of KX hcd) (hb _ _ _ _ (wpAny_newFunctionEnv_cells S.kind pk fun env he s1 x1 => ?_))
  subst he
  obtain ⟨t, ht, hq⟩ := body cd A outer s H vs Q E (hr.deeper _) hg hsp
  have I := inv_start (CX := CX) (E := E) (cd := cd) (f := f) (qual := y) (us := us) S hr.hd e0 hl r x1
  refine ⟨(e0.mod.nolimit.keeps kp).keeps x1.toInCall.keep, codeAny_func (wpAny_mono (ht.run [] s1 _ H _ I hq) (fun fl s' hs => ?_) fun _ _ z => z)⟩
  match fl, hs with
  | .ret u, ⟨v, σ', H', J, rv, q⟩ => exact ⟨v, H', J.os, J.bare, J.base, J.hok, rv, q⟩
  | .next, ⟨σ', H', J, q⟩ => exact ⟨V.non, H', J.os, J.bare, J.base, J.hok, rfl, q⟩
  | .brk, ⟨_, _, _, q⟩ => exact q.elim
  | .cont, ⟨_, _, _, q⟩ => exact q.elim
end
theorem cell_one {h : Heap} {c : Addr} {v u : Option Value} (a : h.IsCell c v) (b : h.IsCell c u) : v = u := by
  obtain ⟨o, e1, e2⟩ := a
  obtain ⟨o', e3, e4⟩ := b
  rw [e1] at e3
  cases e3
  rw [e2] at e4
  cases e4
  rfl
/-- the slots js are cells of the running def's own -/
def CellJ (X : Cx) (js : List Nat) : Prop := ∀ j ∈ js, ∃ y, X.N[j]? = some y ∧ X.env.scope.names.lookup y = some .cell ∧ X.fn y = true
/-- the cells of the slots js, as they stand; where a slot is known, what the cell holds -/
structure Shown (X : Cx) (σ : L2.St) (js : List Nat) (co : Addr → Option Obj) : Prop where
  own : ∀ b ob, co b = some ob → ∃ j y, j ∈ js ∧ X.N[j]? = some y ∧ X.env.cells.lookup y = some b
  at_ : ∀ j ∈ js, ∀ y, X.N[j]? = some y → ∃ c ob, X.env.cells.lookup y = some c ∧ co c = some ob ∧ ∃ x, ob.data = .cell x ∧ ∀ v, σ[j]? = some (some v) → ∃ u, x = some u ∧ RelV v u
section
variable {X : Cx} {pins : List (Addr × Obj)} {σ : L2.St} {H : Hp} {s : Shared}
theorem own_cell (I : Inv X pins σ H s) {y : Str} {b : Addr} (hf : X.fn y = true) (e : X.env.cells.lookup y = some b) : b ∉ frs X.stack ∧ X.base.get? b = none := by
  have ge := I.ok.cab y b hf e
  refine ⟨fun m => ?_, ?_⟩
  · rcases List.mem_cons.mp (I.stkSub b m) with z | z
    · exact I.cne y b e z
    · obtain ⟨_, o, ho, _⟩ := I.ok.funs.mem z
      exact absurd (Nat.lt_of_lt_of_le (Heap.lt_size ho) ge) (Nat.lt_irrefl _)
  · cases q : X.base.get? b with
    | none => rfl
    | some o => exact absurd (Nat.lt_of_lt_of_le (Heap.lt_size (I.ok.bs b o q).1) ge) (Nat.lt_irrefl _)
open Classical in
theorem shown_of (I : Inv X pins σ H s) {js : List Nat} (hj : CellJ X js) : ∃ co, Shown X σ js co ∧ (∀ b ob, co b = some ob → H b = none ∧ s.heap.get? b = some ob ∧ b ∉ frs X.stack) ∧ ∀ b ob, co b = some ob → X.base.get? b = none := by
  have cell : ∀ j ∈ js, ∀ y, X.N[j]? = some y → ∃ c, X.env.cells.lookup y = some c ∧ X.fn y = true ∧ ∃ x, s.heap.IsCell c x ∧ ∀ v, σ[j]? = some (some v) → ∃ u, x = some u ∧ RelV v u := by
    intro j mj y ey
    obtain ⟨y', e1, kd, hf⟩ := hj j mj
    rw [ey] at e1
    cases e1
    obtain ⟨c, hc⟩ := I.ok.has y (.inl kd)
    obtain ⟨x, hx⟩ := I.cell y c hc
    refine ⟨c, hc, hf, x, hx, fun v ev => ?_⟩
    obtain ⟨m, hn, hl⟩ := I.loc
    obtain ⟨u, r, l⟩ := hl j y v ey ev (.inr (.inl kd))
    rcases l with ⟨k', _⟩ | ⟨_, c', hc', hcell⟩
    · have k' : X.env.scope.names.lookup y = some .local := k'
      rw [kd] at k'
      cases k'
    · rw [hc] at hc'
      cases hc'
      exact ⟨u, cell_one hx hcell, r⟩
  refine ⟨fun b => if ∃ j y, j ∈ js ∧ X.N[j]? = some y ∧ X.env.cells.lookup y = some b then s.heap.get? b else none, ⟨fun b ob e => ?_, fun j mj y ey => ?_⟩, fun b ob e => ?_, fun b ob e => ?_⟩
  · split at e
    · rename_i h
      exact h
    · cases e
  · obtain ⟨c, hc, _, x, ⟨ob, ho, hd⟩, hv⟩ := cell j mj y ey
    exact ⟨c, ob, hc, by rw [if_pos ⟨j, y, mj, ey, hc⟩]; exact ho, x, hd, hv⟩
  · dsimp only at e
    split at e
    · rename_i h
      obtain ⟨j, y, mj, ey, hc⟩ := h
      obtain ⟨c, hc', hf, _⟩ := cell j mj y ey
      rw [hc] at hc'
      cases hc'
      exact ⟨I.freeC y b hc, e, (own_cell I hf hc).1⟩
    · cases e
  · dsimp only at e
    split at e
    · rename_i h
      obtain ⟨j, y, mj, ey, hc⟩ := h
      obtain ⟨c, hc', hf, _⟩ := cell j mj y ey
      rw [hc] at hc'
      cases hc'
      exact (own_cell I hf hc).2
    · cases e
end
/-- a call: ls hidden, the cells of the slots js shown -/
@[irreducible] def maskK (X : Cx) (σ : L2.St) (sp : Sp) (E : XK) : List V → Hp → VK → Prop := fun vs H1 Q => ∃ (ls : List Addr) (js : List Nat), (∀ b ∈ ls, ∃ o, H1 b = some o ∧ Lcl o) ∧ CellJ X js ∧ ∀ co, Shown X σ js co → (∀ b ob, co b = some ob → H1 b = none) →
  sp vs (mask ls co H1) (fun v H2 => Bck ls co H2 → Q v (unmask ls co H1 H2)) (fun cls d H2 => Bck ls co H2 → E cls d (unmask ls co H1 H2))
section
variable {X : Cx} {CX : CXT} {k : Nat} {f : Addr} {fd : FuncData} {ps ks : List Str} {sp : Sp} {E : L2.St → XK} {x : Str} {p pos : Pos} {e : Expr} {es : List Expr} {t tk : TA} {kws : List Keyword} {g : List Value → List Value → List Value} {gV : List V → List V → List V}
/-- what lets nothing out, or what tells of errors -/
inductive Lets (X : Cx) : CXT → (L2.St → XK) → Prop
  | non {E : L2.St → XK} : Lets X CX0 E
  | may {E : L2.St → XK} (hx : ∀ σ, PassesAt (L2.CX X.prog X.w) X σ (E σ)) : Lets X (L2.CX X.prog X.w) E
theorem Lets.all {X : Cx} {E : XK} (hx : Passes (L2.CX X.prog X.w) X E) : Lets X (L2.CX X.prog X.w) (fun _ => E) := .may fun σ pins H s e s' I c => hx pins σ H s e s' I c
theorem run_mask {pins : List (Addr × Obj)} {σ : L2.St} {H : Hp} {s : Shared} {Q : VK} {us : List Value} {vs : List V} {args : Args} (F : FnD X.prog X.w X.K X.mg X.base CX k f fd ps sp) (hl : Lets X CX E) (hr : Room k X.A) (hgd : X.A.guards = some []) (I : Inv X pins σ H s) (r : Vals vs us)
    (hb : us.length = ps.length → BindsTo s fd args (ps.zip us)) (h : maskK X σ sp (E σ) vs H Q) : codeAny (model X.prog X.w) X.A (.call (.ref f) args) (fun z s' => match z with
      | .ok (.ret u) => EP X pins σ Q u s'
      | .ok _ => False
      | .error e => X.xe e s') s := by
  unfold maskK at h
  obtain ⟨ls, js, L, hj, q⟩ := h
  obtain ⟨co, sh, c1, c2⟩ := shown_of I hj
  have q := q co sh fun b ob e => (c1 b ob e).1
  have M : Msk (frs X.stack) ls co H s.heap := ⟨L, c1⟩
  have e0 := I.env0
  refine codeAny_mono (F.run X.A X.stack s (mask ls co H) args us vs _ _ hr hgd (mask_env M c2 e0) (hb (r.length.symm.trans (F.len _ _ _ _ q))) r q) fun z s' hq => ?_
  match z, hq with
  | .error e, hq =>
    cases hl with
    | non => exact hq.elim
    | may hx => exact hx σ pins H s e s' I (cx_unmask M e0.hok e0.frf hq fun cls d H2 q g => q g)
  | .ok (.ret u), ⟨v, H2, os, bare, un, hok, rv, z⟩ =>
    have bk := bck_of M e0.hok un
    exact I.after ⟨v, unmask ls co H H2, os, bare, unmask_un M e0.hok un hok, unmask_ok M e0.hok bk hok fun c m o g => un.keep c o g (mask_in m) (fun m2 => by
      obtain ⟨o, e, _⟩ := L c m
      rw [e0.frf c m2] at e
      cases e) (fun z => nomatch z), rv, z bk⟩
theorem run_call {pins : List (Addr × Obj)} {σ : L2.St} {H : Hp} {s : Shared} {Q : VK} {us : List Value} {vs : List V} (F : FnD X.prog X.w X.K X.mg X.base CX k f fd ps sp) (hl : Lets X CX E) (hr : Room k X.A) (hgd : X.A.guards = some []) (hb : Binds X.K fd ps []) (I : Inv X pins σ H s) (r : Vals vs us) (h : maskK X σ sp (E σ) vs H Q) :
    wpAny (model X.prog X.w) X.A (call (.ref f) us) (EP X pins σ Q) X.xe s := by
  refine wpAny_call (codeAny_mono (run_mask F hl hr hgd I r (fun z => ?_) h) fun z s' hq => ?_)
  · have B := hb s us I.kIn (by rw [List.append_nil]; exact z)
    rwa [List.append_nil] at B
  · match z, hq with
    | .error e, hq => exact hq
    | .ok (.ret u), hq => exact hq
def tCallM (X : Cx) (sp : Sp) (E : L2.St → XK) (t : TA) : TE := fun σ H Q => t σ H fun vs H1 => maskK X σ sp (E σ) vs H1 Q
theorem pe_callM (F : FnD X.prog X.w X.K X.mg X.base CX k f fd ps sp) (hl : Lets X CX E) (hr : Room k X.A) (hgd : X.A.guards = some []) (hg : Gl X x) (hm : X.mg x = some (.ref f)) (hk : PySem.W.keepIn X.K (.ref f) = true) (hb : Binds X.K fd ps []) (ha : PA X (e :: es) t)
    (hdb : (x == ("__debug__" : Str)) = false := by decide) (he : starEach (e :: es) X.env = (false, eval e X.env) :: starEach es X.env := by rfl) (hpl : (backTo pos (starEach es X.env)).any (·.1) = false := by rfl) :
    PE X (.Call (.Name x p) (e :: es) [] pos) (tCallM X sp E t) := by
  refine ⟨fun pins s σ H Q I h => wpAny_Call_Name_kw (ld_glob I hg hm ?_ hdb)⟩
  refine PySem.W.callWith_K (h₀ := X.base) I.ok.mod.kin hk ?_ he hpl
  exact thn (ha.run pos pins s σ H _ I h) fun us s1 ⟨vs, H1, J, r, hh⟩ => ⟨J.kIn, run_call F hl hr hgd hb J r hh⟩
/-- a call by keywords alone -/
theorem pe_callMK (F : FnD X.prog X.w X.K X.mg X.base CX k f fd ps sp) (hlt : Lets X CX E) (hr : Room k X.A) (hgd : X.A.guards = some []) (hg : Gl X x) (hm : X.mg x = some (.ref f)) (hk : PySem.W.keepIn X.K (.ref f) = true) (hb : KBinds X.K fd ps ks g gV)
    (hkw : PK X kws tk) (hall : (backToKw pos (keywordEach kws X.env)).all (·.1.isSome) = true := by rfl) (hks : (backToKw pos (keywordEach kws X.env)).filterMap (·.1) = ks := by rfl)
    (hdb : (x == ("__debug__" : Str)) = false := by decide) (hpl : ((backTo pos (starEach [] X.env)).any (·.1) || (backToKw pos (keywordEach kws X.env)).any (·.1.isNone)) = false := by rfl) :
    PE X (.Call (.Name x p) [] kws pos) (fun σ H Q => tk σ H fun zs H1 => maskK X σ sp (E σ) (gV [] zs) H1 Q) := by
  refine ⟨fun pins s σ H Q I h => wpAny_Call_Name_kw (ld_glob I hg hm ?_ hdb)⟩
  refine PySem.W.callWith_KW0 (h₀ := X.base) I.ok.mod.kin hk hall (thn (hkw.run pos pins s σ H _ I h) fun ws s1 ⟨zs, H1, J, rz, hh⟩ => ⟨J.kIn, ?_⟩) hpl
  rw [hks]
  refine wpAny_call (codeAny_mono (run_mask (us := g [] ws) F hlt hr hgd J (hb.rel (vs := []) (us := []) .nil rz) (fun z => hb.to s1 [] ws J.kIn z) hh) fun z s' hq => ?_)
  match z, hq with
  | .error e, hq => exact hq
  | .ok (.ret u), hq => exact hq
end
end Dl
set_option Elab.async false
set_option linter.all false
set_option maxRecDepth 100000
set_option maxHeartbeats 4000000
namespace SoC
open PySem PySem.Spec PyProof.Rows L2 LamX NdefX So
/-- what cells hold, by their addresses -/
abbrev CF := Addr → Option Value → Prop
/-- what is tracked -/
abbrev TR := Addr → HO → Prop
def cellsIn (C : CF) (s : Shared) (H : Hp) : Prop := ∀ c v, C c v → H c = none ∧ s.heap.IsCell c v
def trkIn (T : TR) (H : Hp) : Prop := ∀ a o, T a o → H a = some o
theorem cellsIn.un {C : CF} {s s' : Shared} {H H' : Hp} {fs ex : List Addr} (h : cellsIn C s H) (u : Un fs ex H H' s.heap s'.heap) (hx : ∀ c v, C c v → c ∉ ex) : cellsIn C s' H' := by
  intro c v q
  obtain ⟨n, o, ho, hd⟩ := h c v q
  obtain ⟨sl, e⟩ := u.any ho n (hx c v q)
  exact ⟨u.free c o ho n (hx c v q), _, e, hd⟩
/-- the function at f keeps sp, wherever what it leans on stands -/
def Cal (Pg : Program) (w : World) (K : PySem.W.Frag) (mg : Str → Option Value) (base : Heap) (k : Nat) (C : CF) (T : TR) (f : Addr) (sp : Sp) : Prop :=
  ∀ (A : Around) (outer : List Env) (s : Shared) (H : Hp) (us : List Value) (vs : List V) (Q : VK) (E : XK), Room k A → Env0 Pg w K mg base A outer s H → cellsIn C s H → trkIn T H → Vals vs us → sp vs H Q E →
    codeAny (model Pg w) A (.call (.ref f) ⟨us, []⟩) (CR (L2.CX Pg w) outer Pg w H s Q E) s
section
variable {Pg : Program} {w : World} {K : PySem.W.Frag} {mg : Str → Option Value} {base : Heap} {k j : Nat} {C : CF} {T : TR} {f : Addr} {sp sp' : Sp}
theorem Cal.mono (c : Cal Pg w K mg base j C T f sp) (h : j ≤ k) : Cal Pg w K mg base k C T f sp := fun A outer s H us vs Q E hr => c A outer s H us vs Q E (hr.mono h)
theorem Cal.imp (c : Cal Pg w K mg base k C T f sp) (h : ∀ vs H Q E, trkIn T H → sp' vs H Q E → sp vs H Q E) : Cal Pg w K mg base k C T f sp' := fun A outer s H us vs Q E hr e0 hc ht r q => c A outer s H us vs Q E hr e0 hc ht r (h vs H Q E ht q)
end
/-- a lambda stands at f: its words, its cells, its code -/
def LmO (f : Addr) (F : NF) (body : Expr) : HO := .ext fun h => ∃ pm ctv : Value, h.get? f = some (PySem.W.kla_obj "<lambda>" F.qual F.params body F.scope F.cl pm F.c ctv)
/-- something that is called stands at f -/
def FnK (H : Hp) (f : Addr) : Prop := ∃ φ : Heap → Prop, H f = some (.ext φ) ∧ ∀ h, φ h → PySem.W.FnAt f h
theorem FnK.at {Pg : Program} {w : World} {H : Hp} {h : Heap} {f : Addr} (x : FnK H f) (hok : HOk Pg w H h) : PySem.W.FnAt f h := by
  obtain ⟨φ, e, q⟩ := x
  obtain ⟨z, _, _⟩ := hok f _ e
  exact q h z
section
variable {X : Cx} {k j i : Nat} {C : CF} {T : TR} {f : Addr} {sp : Sp} {E : XK} {t : TA} {x : Str} {e : Expr} {es : List Expr} {p pos : Pos}
end
end SoC
set_option Elab.async false
set_option linter.all false
set_option maxRecDepth 100000
set_option maxHeartbeats 4000000
namespace Dl
open PySem PySem.Spec PyProof.Rows L2 So
/-- what the rules ask of a run: its tables, its program's constants -/
structure Zw where
  T : Tb
  K : PySem.W.Frag
  Pg : Program
  w : World
  mg : Str → Option Value
  base : Heap
abbrev zOf (X : Cx) (T : Tb) : Zw := ⟨T, X.K, X.prog, X.w, X.mg, X.base⟩
def cloD (s : Nat) (Ds : List PyData) : PyData := .dict [(.list [.int s], .tuple Ds)]
def SiteC.nf (sc : SiteC) (cl : List (Str × Addr)) (c : Addr) : NdefX.NF := ⟨sc.name, sc.qual, sc.params, (match sc.body with | .inr b => b | .inl _ => []), sc.scope, cl, c⟩
def FunO (sc : SiteC) (f : Addr) (F : NdefX.NF) : HO := match sc.body with
  | .inl e => SoC.LmO f F e
  | .inr _ => NdefX.FnO f F
theorem funO_ext (sc : SiteC) (f : Addr) (F : NdefX.NF) : ∃ φ : Heap → Prop, FunO sc f F = .ext φ ∧ ∀ h, φ h → PySem.W.FnAt f h := by
  unfold FunO
  split
  · exact ⟨_, rfl, fun h ⟨pm, ctv, z⟩ => ⟨_, _, _, _, z⟩⟩
  · exact ⟨_, rfl, fun h ⟨od, sl, doc, pm, ctv, z⟩ => ⟨_, _, _, _, z⟩⟩
theorem funO_cls (sc : SiteC) (f : Addr) (F : NdefX.NF) : ∃ φ : Heap → Prop, FunO sc f F = .ext φ ∧ ∀ h, φ h → ∃ o, h.get? f = some o ∧ o.cls = .type "function" := by
  unfold FunO
  split
  · exact ⟨_, rfl, fun h ⟨pm, ctv, z⟩ => ⟨_, z, rfl⟩⟩
  · exact ⟨_, rfl, fun h ⟨od, sl, doc, pm, ctv, z⟩ => ⟨_, z, rfl⟩⟩
/-- what the captured cells hold for good -/
structure CellsF (G : Hp) (cl : List (Str × Addr)) (fr : List Str) (as : List Addr) (vs : List V) : Prop where
  la : as.length = fr.length
  lv : vs.length = fr.length
  at_ : ∀ (i : Nat) (y : Str), fr[i]? = some y → ∃ a v u ob, as[i]? = some a ∧ vs[i]? = some v ∧ cl.lookup y = some a ∧ G a = some (CellF ob) ∧ ob.data = .cell (some u) ∧ RelV v u
  all : ∀ y a, cl.lookup y = some a → a ∈ as
  inj : ∀ x y a, cl.lookup x = some a → cl.lookup y = some a → x = y
structure CloAt (T : Tb) (G : Hp) (f : Addr) (s : Nat) (as : List Addr) (vs : List V) : Prop where
  ex : ∃ sc cl c, T.st s = some sc ∧ G f = some (FunO sc f (sc.nf cl c)) ∧ G c = some (LamX.CodeO c sc.qual) ∧ CellsF G cl sc.fr as vs
def dels (as : List Addr) (G : Hp) : Hp := fun b => if b ∈ as then none else G b
theorem dels_ext {as : List Addr} {G G' : Hp} (x : LamX.ExtN G G') : LamX.ExtN (dels as G) (dels as G') := fun b o e n => by
  unfold dels at e ⊢
  split at e
  · cases e
  · rename_i h
    rw [if_neg h]
    exact x b o e n
theorem CellsF.ext {G G' : Hp} {cl : List (Str × Addr)} {fr : List Str} {as : List Addr} {vs : List V} (x : LamX.ExtN G G') (h : CellsF G cl fr as vs) : CellsF G' cl fr as vs :=
  ⟨h.la, h.lv, fun i y e => by
    obtain ⟨a, v, u, ob, h1, h2, h3, h4, h5⟩ := h.at_ i y e
    exact ⟨a, v, u, ob, h1, h2, h3, x _ _ h4 (fun ps z => nomatch z), h5⟩, h.all, h.inj⟩
theorem CloAt.ext {T : Tb} {G G' : Hp} {f : Addr} {s : Nat} {as : List Addr} {vs : List V} (x : LamX.ExtN G G') (h : CloAt T G f s as vs) : CloAt T G' f s as vs := by
  obtain ⟨sc, cl, c, h1, h2, h3, h4⟩ := h.ex
  refine ⟨sc, cl, c, h1, x _ _ h2 (fun ps z => ?_), x _ _ h3 (fun ps z => ?_), h4.ext x⟩
  · obtain ⟨φ, e, _⟩ := funO_ext sc f (sc.nf cl c)
    rw [e] at z
    cases z
  · exact LamX.codeO_ne ps z
/-- a dict by its raw entries -/
def DicO (a : Addr) (es : Array DictEntry) : HO := .ext fun h => ∃ ep, h.DictRaw a es ep
mutual
/-- a key, up to == -/
def nk : PyData → NestedKey
  | .none => .none
  | .bool b => .num (if b = true then 1 else 0)
  | .int i => .num i
  | .str z => .text z
  | .tuple ds => .tup (nks ds)
  | .list _ => .none
  | .dict _ => .none
def nks : List PyData → List NestedKey
  | [] => []
  | d :: ds => nk d :: nks ds
end
mutual
inductive Dw (Z : Zw) : Hp → V → PyData → Prop
  | non {G : Hp} : Dw Z G .non .none
  | bl {G : Hp} (b : Bool) : Dw Z G (.bl b) (.bool b)
  | int {G : Hp} (i : Int) : Dw Z G (.int i) (.int i)
  | str {G : Hp} (x : Str) : Dw Z G (.str x) (.str x)
  | lst {G : Hp} {a : Addr} {xs : List V} {ds : List PyData} : SqL Z.K G a xs → DwAll Z G xs ds → Dw Z G (.ref a) (.list ds)
  | tup {G : Hp} {a : Addr} {xs : List V} {ds : List PyData} : SqT Z.K G a xs → DwAll Z G xs ds → Dw Z G (.ref a) (.tuple ds)
  | dic {G : Hp} {a : Addr} {es : Array DictEntry} {kvs : List (PyData × PyData)} : G a = some (DicO a es) → DwKV Z G es.toList kvs → Dw Z G (.ref a) (.dict kvs)
  | clo {G : Hp} {f : Addr} {s : Nat} {as : List Addr} {vs : List V} {Ds : List PyData} : CloAt Z.T G f s as vs → DwAll Z (dels as G) vs Ds → Dw Z G (.ref f) (cloD s Ds)
inductive DwAll (Z : Zw) : Hp → List V → List PyData → Prop
  | nil {G : Hp} : DwAll Z G [] []
  | cons {G : Hp} {v : V} {vs : List V} {d : PyData} {ds : List PyData} : Dw Z G v d → DwAll Z G vs ds → DwAll Z G (v :: vs) (d :: ds)
inductive DwKV (Z : Zw) : Hp → List DictEntry → List (PyData × PyData) → Prop
  | nil {G : Hp} : DwKV Z G [] []
  | cons {G : Hp} {e : DictEntry} {es : List DictEntry} {k v : V} {dk dv : PyData} {kvs : List (PyData × PyData)} : RelV k e.key → RelV v e.val → e.hash = (nk dk).hash Z.w → Dw Z G k dk → Dw Z G v dv → (∀ p ∈ kvs, nk p.1 ≠ nk dk) → DwKV Z G es kvs → DwKV Z G (e :: es) ((dk, dv) :: kvs)
end
section
variable {Z : Zw} {G G' : Hp} {v : V} {D : PyData}
mutual
theorem Dw.ext : ∀ {G G' : Hp} {v : V} {D : PyData}, LamX.ExtN G G' → Dw Z G v D → Dw Z G' v D
  | _, _, _, _, _, .non => .non
  | _, _, _, _, _, .bl b => .bl b
  | _, _, _, _, _, .int b => .int b
  | _, _, _, _, _, .str b => .str b
  | _, _, _, _, x, .lst a b => .lst (sql_ext x a) (DwAll.ext x b)
  | _, _, _, _, x, .tup a b => .tup (sqt_ext x a) (DwAll.ext x b)
  | _, _, _, _, x, .dic a b => .dic (x _ _ a (fun _ z => nomatch z)) (DwKV.ext x b)
  | _, _, _, _, x, .clo a b => .clo (a.ext x) (DwAll.ext (dels_ext x) b)
theorem DwAll.ext : ∀ {G G' : Hp} {vs : List V} {Ds : List PyData}, LamX.ExtN G G' → DwAll Z G vs Ds → DwAll Z G' vs Ds
  | _, _, _, _, _, .nil => .nil
  | _, _, _, _, x, .cons a b => .cons (Dw.ext x a) (DwAll.ext x b)
theorem DwKV.ext : ∀ {G G' : Hp} {es : List DictEntry} {kvs : List (PyData × PyData)}, LamX.ExtN G G' → DwKV Z G es kvs → DwKV Z G' es kvs
  | _, _, _, _, _, .nil => .nil
  | _, _, _, _, x, .cons r1 r2 h a b n c => .cons r1 r2 h (Dw.ext x a) (Dw.ext x b) n (DwKV.ext x c)
end
theorem Dw.mono {T : Tb} (s : Ex T G G') (h : Dw Z G v D) : Dw Z G' v D := h.ext s.1
theorem DwAll.mono {T : Tb} {vs : List V} {Ds : List PyData} (s : Ex T G G') (h : DwAll Z G vs Ds) : DwAll Z G' vs Ds := h.ext s.1
mutual
/-- no dict, no function in it -/
def plain : PyData → Bool
  | .dict _ => false
  | .list ds => plains ds
  | .tuple ds => plains ds
  | _ => true
def plains : List PyData → Bool
  | [] => true
  | d :: ds => plain d && plains ds
end
mutual
theorem plain_of_lay : ∀ {D : PyData}, D.canLay0 = true → plain D = true
  | .none, _ => rfl
  | .bool _, _ => rfl
  | .int _, _ => rfl
  | .str _, _ => rfl
  | .list ds, h => by
    simp only [PyData.canLay0] at h
    unfold plain
    exact plains_of_lay h
  | .tuple ds, h => by
    simp only [PyData.canLay0] at h
    unfold plain
    exact plains_of_lay h
  | .dict _, h => by simp [PyData.canLay0] at h
theorem plains_of_lay : ∀ {Ds : List PyData}, PyData.canLayAll0 Ds = true → plains Ds = true
  | [], _ => rfl
  | d :: ds, h => by
    unfold PyData.canLayAll0 at h
    rw [Bool.and_eq_true] at h
    unfold plains
    rw [plain_of_lay h.1, plains_of_lay h.2]
    rfl
end
mutual
theorem Dw.dp : ∀ {D : PyData} {v : V}, plain D = true → Dw Z G v D → Dp Z.K G v D
  | .none, _, _, h => by cases h; exact .non
  | .bool _, _, _, h => by cases h; exact .bl _
  | .int _, _, _, h => by cases h; exact .int _
  | .str _, _, _, h => by cases h; exact .str _
  | .list ds, _, p, h => by
    cases h with
    | lst a b => exact .lst a (DwAll.dp (by unfold plain at p; exact p) b)
  | .tuple ds, _, p, h => by
    cases h with
    | tup a b => exact .tup a (DwAll.dp (by unfold plain at p; exact p) b)
  | .dict _, _, p, _ => nomatch p
theorem DwAll.dp : ∀ {Ds : List PyData} {vs : List V}, plains Ds = true → DwAll Z G vs Ds → DpAll Z.K G vs Ds
  | [], _, _, h => by cases h; exact .nil
  | d :: ds, _, p, h => by
    unfold plains at p
    rw [Bool.and_eq_true] at p
    cases h with
    | cons a b => exact .cons (Dw.dp p.1 a) (DwAll.dp p.2 b)
end
end
end Dl
set_option Elab.async false
set_option linter.all false
set_option maxRecDepth 100000
namespace PySem
open Sem (wp)
theorem fnT_get : Slot "function" "__getattribute__" "object.__getattribute__" := by
  refine .of (owner := "object") (n := "__getattribute__") ?_ ?_ ?_ ?_ ?_ ?_
  · rw [typeLookup_type, builtinLookup_eq_fast]; kernel_rfl
  · decide +kernel
  · decide +kernel
  · decide +kernel
  · first | exact .inl (by decide +kernel) | exact .inr (by decide +kernel)
  · rw [isSubtype_type]; kernel_rfl
theorem fnT_look : typeLookup (.type "function") "__class__" = pure (some (.builtin "object.__class__")) := by rw [typeLookup_type, builtinLookup_eq_fast]; kernel_rfl
theorem fnT_sub : isSubtype (.type "function") (.type (".".intercalate ("object.__class__".cutAt '.').dropLast)) = pure true := by rw [F.owner_object_class, isSubtype_type]; kernel_rfl
section
variable {prog : Program} {w : World} {A : Around} {E : Value → Shared → Prop} {h : Heap} {g : Array GenState} {d : Drawn} {t : Nat} {os : OsState} {a : Addr}
/-- a function object at a -/
def FnAtT (h : Heap) (a : Addr) : Prop := ∃ o, h.get? a = some o ∧ o.cls = .type "function"
theorem FnAtT.ty (p : FnAtT h a) : (⟨h, g, d, t, os⟩ : Shared).TypeIs (.ref a) "function" := p
/-- the descriptor's answer -/
theorem fnT_desc {R : Result → Shared → Prop} (p : FnAtT h a) (r : R (.ok (.ret (.type "function"))) ⟨h, g, d, t, os⟩) :
    codeAny (model prog w) A (.call (.builtin "getset_descriptor.__get__") ⟨[.builtin "object.__class__", .ref a, .type "function"], []⟩) R ⟨h, g, d, t, os⟩ := by
  obtain ⟨o, hx, hc⟩ := p
  have k1 : (⟨h, g, d, t, os⟩ : Shared).TypeIs (.ref a) "function" := ⟨o, hx, hc⟩
  have k2 : (⟨h, g, d, t, os⟩ : Shared).TypeIs (.builtin "object.__class__") "getset_descriptor" := F.typeOf_object_class
  have k3 := fnT_sub
  refine codeAny_call_builtin F.slot_gs_get.plain F.entry_gs_get (F.slot_gs_get.check _ _ _ _ _ _ _ _ k2 (F.args_gs_get _ _ _) ?_)
  repeat (any_goals (first | assumption | wp_step))
  refine ⟨Code.quiet_builtin _ (by decide +kernel), codeAny_builtin F.entry_object_class ?_⟩
  repeat (any_goals (first | assumption | wp_step))
/-- the general way to an attribute, asked for the class -/
theorem fnT_own {tk : Tok} {R : Result → Shared → Prop} (p : FnAtT h a) (r : R (.ok (.ret (.type "function"))) ⟨h, g, d, t, os⟩) :
    codeAny (model prog w) A (.call (.builtin "object.__getattribute__") ⟨[.ref a, .str "__class__" tk], []⟩) R ⟨h, g, d, t, os⟩ := by
  refine codeAny_call_builtin fnT_get.plain F.entry_object_getattribute (fnT_get.check _ _ _ _ _ _ _ _ p.ty (F.args_object_getattribute_2 _ _) ?_)
  have p' := p
  obtain ⟨o, hx, hc⟩ := p'
  have k1 : (⟨h, g, d, t, os⟩ : Shared).TypeIs (.ref a) "function" := ⟨o, hx, hc⟩
  have k2 : (⟨h, g, d, t, os⟩ : Shared).TypeIs (.builtin "object.__class__") "getset_descriptor" := F.typeOf_object_class
  have k3 := fnT_look
  have k4 := F.typeOf_object_class
  have k5 := F.slot_gs_get.lookup
  have k6 := F.slot_gs_set.lookup
  repeat (any_goals (first | assumption | wp_step))
  refine fnT_desc p ?_
  repeat (any_goals (first | assumption | wp_step))
theorem fnT_by {tk : Tok} {Q : Value → Shared → Prop} (p : FnAtT h a) (r : Q (.type "function") ⟨h, g, d, t, os⟩) : wpAny (model prog w) A (getAttrBy (.ref a) (.str "__class__" tk) false) Q E ⟨h, g, d, t, os⟩ := by
  have p' := p
  obtain ⟨o, hx, hc⟩ := p'
  have k1 : (⟨h, g, d, t, os⟩ : Shared).TypeIs (.ref a) "function" := ⟨o, hx, hc⟩
  have k2 := fnT_get.lookup
  have k3 := fnT_get.bind (.ref a)
  repeat (any_goals (first | assumption | wp_step))
  refine fnT_own p ?_
  repeat (any_goals (first | assumption | wp_step))
/-- what f.__class__ is -/
theorem fnT_class {Q : Option Value → Shared → Prop} (p : FnAtT h a) (r : Q (some (.type "function")) ⟨h, g, d, t + 1, os⟩) : wpAny (model prog w) A (getAttr? (.ref a) "__class__") Q E ⟨h, g, d, t, os⟩ := by
  unfold getAttr? getAttrBy?
  repeat (any_goals (first | assumption | with_reducible apply fnT_by p | wp_step))
end
namespace W
theorem kitx_fn {K : Frag} {a : Addr} : KitX K (.ref a) (.type "function") (KitAt a "function") := kitx_of kitAt_ty fun {_ _ _ _ _ s} p k => by
  obtain ⟨h, g, d, t, os⟩ := s
  exact fnT_class p k
end W
end PySem
set_option Elab.async false
set_option linter.all false
set_option maxRecDepth 100000
set_option maxHeartbeats 4000000
namespace SoE
open PySem PySem.Spec PyProof.Rows L2
theorem enum_new {v : Value} {o : Obj} {Z : Heap → Prop} (B : Begins v o Z) :
    Meets (Builtin.«enumerate.__new__» ⟨[.type "enumerate", v], []⟩) (fun _ R s => Z s.heap ∧
      R (.ok (.ret (.ref (s.heap.push o).objs.size))) { s with heap := (s.heap.push o).push { cls := .type "enumerate", data := .fields #[.none, .bool false, .ref s.heap.objs.size, rawInt 0, .none, .none] } }) :=
  .of_wp fun prog w A R s h => by
    obtain ⟨hp, g, d, tk, os⟩ := s
    obtain ⟨z, r⟩ := h
    have hsub := sub_enumerate
    have it0 : ∀ {A' : Around} {E : Value → Shared → Prop} {Q : Value → Shared → Prop}, Q (.ref hp.objs.size) ⟨hp.push o, g, d, tk, os⟩ →
        wpAny (model prog w) A' (pyIter v) Q E ⟨hp, g, d, tk, os⟩ := fun q => B.iter prog w _ _ ⟨hp, g, d, tk, os⟩ _ z q
    wp_walk using it0
    refine wpAny_stack_any fun st => wpAny_pure ?_
    split
    · rename_i c _ _ _ _ _
      cases (c == Value.type "enumerate") <;> (wp_walk using it0; exact ⟨_, rfl, r⟩)
    · wp_walk using it0
      exact ⟨_, rfl, r⟩
theorem enum_call {prog : Program} {w : World} {A : Around} {E : Value → Shared → Prop} {s : Shared} {v : Value} {o : Obj} {Z : Heap → Prop} {Q : Value → Shared → Prop} (B : Begins v o Z) (z : Z s.heap)
    (h : ∀ h', IsEnum h' (s.heap.objs.size + 1) s.heap.objs.size 0 .none → h'.get? s.heap.objs.size = some o → h'.objs.size = s.heap.objs.size + 2 →
      (∀ b u, s.heap.get? b = some u → h'.get? b = some u) → Q (.ref (s.heap.objs.size + 1)) { s with heap := h' }) : wpAny (model prog w) A (call (.type "enumerate") [v]) Q E s := by
  refine callType_new F.called_enumerate (by decide) (F.typeCall_enumerate_1 _) (F.newCall_enumerate_1 _) (fun obj => F.args_object_init_2 obj _) F.entry_enumerate_new (enum_new B) ⟨z, ?_⟩
  have sz : (s.heap.push o).objs.size = s.heap.objs.size + 1 := Heap.size_push ..
  show _ ∧ _
  rw [sz]
  have he : IsEnum ((s.heap.push o).push { cls := .type "enumerate", data := .fields #[.none, .bool false, .ref s.heap.objs.size, rawInt 0, .none, .none] }) (s.heap.objs.size + 1) s.heap.objs.size 0 .none := by
    have q := Heap.get?_push_size (s.heap.push o) (o := { cls := .type "enumerate", data := .fields #[.none, .bool false, .ref s.heap.objs.size, rawInt 0, .none, .none] }) rfl
    rw [sz] at q
    exact q
  exact ⟨⟨_, he, rfl⟩, h _ he (Heap.get?_push_of_some _ (Heap.get?_push_size _ B.free)) (by rw [Heap.size_push, sz]) fun b u x => Heap.get?_push_of_some _ (Heap.get?_push_of_some _ x)⟩
/-- the tuple at a, each item in a new pair with its place -/
def IteT (K : PySem.W.Frag) (a : Addr) : It :=
  ⟨fun i H => ∃ (xs : List V) (x : V), SqT K H a xs ∧ xs[i]? = some x,
    fun i H v H' => ∃ T x, v = .ref T ∧ H T = none ∧ H' = upd H T (.tup [.int (i : Nat), x]) ∧ ∀ xs, SqT K H a xs → xs[i]? = some x,
    fun i H => ∃ xs : List V, SqT K H a xs ∧ xs.length = i⟩
theorem walk_enumT {K : PySem.W.Frag} {a : Addr} {xs : List V} : Walk (IteT K a) xs.length (fun H => SqT K H a xs) (YPair (fun i => some (.int (i : Nat))) (fun i => xs[i]?)) := by
  refine ⟨fun i _ hi q => ⟨xs, xs[i], q, by simp [hi]⟩, fun _ q => ⟨xs, q, rfl⟩, fun i H v H' _ q y => ?_⟩
  obtain ⟨T, x, h1, h2, h3, h4⟩ := y
  exact ⟨T, .int (i : Nat), x, h1, h2, h3, rfl, h4 xs q⟩
theorem turn_enumT {P : Program} {w : World} {K : PySem.W.Frag} {elts : List Expr} {kk : Nat} {tpos : Pos} (a e it : Addr) :
    Turn P w K (.Tuple elts kk tpos) (IteT K a) [e, it] e (fun i h => (∃ old, IsEnum h e it ((i : Nat) : Int) old) ∧ h.IsTupleIter it a i ∧ e ≠ it) where
  mem := by simp
  obj := fun i h st b hb => by
    obtain ⟨⟨old, he⟩, ⟨o, ho, hc, hd⟩, _⟩ := st
    have e' : b = e ∨ b = it := by simpa using hb
    rcases e' with z | z
    · rw [z]; exact ⟨_, he, fun v q => nomatch q⟩
    · rw [z]; exact ⟨o, ho, fun v q => by rw [hd] at q; cases q⟩
  keep := fun i h h' st k => let ⟨⟨old, he⟩, hi, hne⟩ := st; ⟨⟨old, k e (by simp) _ he⟩, hi.at fun o q => k it (by simp) o q, hne⟩
  item := by
    intro X hP hw hK hc i pins s σ H E I hf st hg
    subst hP hw hK
    obtain ⟨⟨old, he⟩, hit, hne⟩ := st
    obtain ⟨xs, x, hq, hx⟩ := hg
    obtain ⟨its, rv, p, hz⟩ := I.tuple hq
    have pt : s.heap.IsTuple a its.toArray := p
    obtain ⟨u, hu, ru⟩ := rv.get hx
    have hel : e < s.heap.objs.size := Heap.lt_size he
    have hil : it < s.heap.objs.size := by obtain ⟨_, q, _⟩ := hit; exact Heap.lt_size q
    have nai : a ≠ it := fun z => by
      obtain ⟨o1, q1, c1, _⟩ := hit
      obtain ⟨o2, q2, c2, _⟩ := pt
      rw [z, q1] at q2
      cases q2
      rw [c1] at c2
      exact absurd c2 (by simp)
    have nae : e ≠ a := fun z => by
      obtain ⟨o2, q2, c2, _⟩ := pt
      rw [← z] at q2
      have he' : s.heap.get? e = some _ := he
      rw [he'] at q2
      cases q2
      exact absurd c2 (by simp)
    have hlt : i < its.toArray.size := by
      have q := (List.getElem?_eq_some_iff.mp hu).1
      simpa using q
    refine wpAny_pyNext_enum_itemC (Draws.tuple (A := X.A.in1) (I.ok.hd hc) it a nai its.toArray) he ⟨hit, pt⟩ hlt hne (by simp [hne, nae]) fun y h' tk hPy ho hst' hT hsz hk => ?_
    have hy : y = u := by
      have q : its.toArray[i]? = some u := by simpa using hu
      have q2 : its.toArray[i]? = some y := hPy
      rw [q] at q2
      exact (Option.some.inj q2).symm
    subst hy
    refine ⟨_, rfl, wpAny_letOwnedTupleGo_enum (s := { s with heap := h', toks := tk + 1 }) ho fun h'' he' sb => ?_⟩
    have hT2 : h''.get? s.heap.objs.size = some { cls := .type "tuple", data := .seq #[.int i tk, y] } := (sb.2 _ (Nat.ne_of_gt hel)).trans hT
    have new : ObjOk X.prog X.w (upd H s.heap.objs.size (.tup [.int (i : Nat), x])) h'' s.heap.objs.size (.tup [.int (i : Nat), x]) :=
      ⟨by show 2 ≤ sizeLine; decide, [.int i tk, y], .cons ⟨_, rfl⟩ (.cons ru .nil), ⟨_, hT2, rfl, _, rfl⟩⟩
    have I1 : Inv X pins σ (upd H s.heap.objs.size (.tup [.int (i : Nat), x])) { s with heap := h'', toks := tk + 1 } :=
      I.turnedNew (ch := [e, it]) (fun b ob hb q => (sb.2 b (fun z => hb (by simp [z]))).trans (hk b ob (fun z => hb (by simp [z])) (fun z => hb (by simp [z])) q)) hf (Nat.le_refl _) new
    refine ⟨.ref s.heap.objs.size, _, I1, rfl, ⟨_, x, rfl, I.hok.fresh (Nat.le_refl _), rfl, fun ys hy => by rw [I.tuple_inj hy hq]; exact hx⟩, ⟨⟨y, ?_⟩, hst'.1.at fun o q => (sb.2 it (Ne.symm hne)).trans q, hne⟩, fun b hb => ?_⟩
    · have e1 : ((i + 1 : Nat) : Int) = (i : Int) + 1 := by omega
      rw [e1]; exact he'
    · have hb' : b < s.heap.objs.size := by
        have e' : b = e ∨ b = it := by simpa using hb
        rcases e' with z | z
        · rw [z]; exact hel
        · rw [z]; exact hil
      rw [upd_ne (Nat.ne_of_lt hb')]
      exact (hf b hb).1
  done := by
    intro X hP hw hK hc i pins s σ H E I hf st hg
    subst hP hw hK
    obtain ⟨⟨old, he⟩, hit, hne⟩ := st
    obtain ⟨xs, hq, hx⟩ := hg
    obtain ⟨its, rv, p, hz⟩ := I.tuple hq
    have pt : s.heap.IsTuple a its.toArray := p
    have nai : a ≠ it := fun z => by
      obtain ⟨o1, q1, c1, _⟩ := hit
      obtain ⟨o2, q2, c2, _⟩ := pt
      rw [z, q1] at q2
      cases q2
      rw [c1] at c2
      exact absurd c2 (by simp)
    obtain ⟨f0, f1, f2, f3, f4, f5⟩ := hf it (by simp)
    have hl := rv.length
    have en : i = its.toArray.size := by
      rw [List.size_toArray]
      omega
    subst en
    exact wpAny_pyNext_enum_endD (Draws.tuple (A := X.A.in1) (I.ok.hd hc) it a nai its.toArray) he ⟨hit, pt⟩ fun h' eb => ⟨rfl, I.turned (t' := s.toks) (fun b o hb q => eb b o hb q) f0 f1 f3 f4 f5⟩
  self := fun A i s Q E st h => let ⟨⟨_, he⟩, _⟩ := st; wpAny_pyIter_enum he h
end SoE
set_option Elab.async false
set_option linter.all false
set_option maxRecDepth 100000
set_option maxHeartbeats 4000000
namespace SoM
open PySem PySem.Spec PyProof.Rows L2
end SoM
set_option Elab.async false
set_option linter.all false
set_option maxRecDepth 100000
set_option maxHeartbeats 4000000
namespace Da
open PySem PySem.Spec PyProof.Rows L2 So Dl
theorem pe_weak {X : Cx} {e : Expr} {t t' : TE} (h : PE X e t) (i : ∀ σ H Q, t' σ H Q → t σ H Q) : PE X e t' := ⟨fun pins s σ H Q I q => h.run pins s σ H Q I (i σ H Q q)⟩
theorem pt_weak {X : Cx} {e : Expr} {t t' : TT} (h : PT X e t) (i : ∀ σ H Q, t' σ H Q → t σ H Q) : PT X e t' := ⟨fun pins s σ H Q I q => h.run pins s σ H Q I (i σ H Q q)⟩
theorem pw_weak {X : Cx} {e : Expr} {t t' : TT} (h : PW X e t) (i : ∀ σ H Q, t' σ H Q → t σ H Q) : PW X e t' := ⟨fun wh pins s σ H Q I q => h.run wh pins s σ H Q I (i σ H Q q)⟩
theorem pa_weak {X : Cx} {es : List Expr} {t t' : TA} (h : PA X es t) (i : ∀ σ H Q, t' σ H Q → t σ H Q) : PA X es t' := ⟨fun pos pins s σ H Q I q => h.run pos pins s σ H Q I (i σ H Q q)⟩
theorem ps_weak {X : Cx} {e : Stmt} {t t' : TS} (h : PS X e t) (i : ∀ D σ H, t' D σ H → t D σ H) : PS X e t' := ⟨fun pins s σ H D I q => h.run pins s σ H D I (i D σ H q)⟩
theorem pss_weak {X : Cx} {e : List Stmt} {t t' : TS} (h : PSs X e t) (i : ∀ D σ H, t' D σ H → t D σ H) : PSs X e t' := ⟨fun pins s σ H D I q => h.run pins s σ H D I (i D σ H q)⟩
def Sq (K : PySem.W.Frag) (H : Hp) (a : Addr) (xs : List V) : Prop := SqT K H a xs ∨ SqL K H a xs
theorem Sq.ext {K : PySem.W.Frag} {H H' : Hp} {a : Addr} {xs : List V} (s : LamX.ExtN H H') (h : Sq K H a xs) : Sq K H' a xs := h.elim (fun h => .inl (sqt_ext s h)) (fun h => .inr (sql_ext s h))
def tnD : PyData → String
  | .none => "NoneType"
  | .bool _ => "bool"
  | .int _ => "int"
  | .str _ => "str"
  | .list _ => "list"
  | .tuple _ => "tuple"
  | .dict _ => "dict"
/-- no dict, no function -/
def nd : PyData → Bool
  | .dict _ => false
  | _ => true
def isSq : PyData → Bool
  | .list _ => true
  | .tuple _ => true
  | _ => false
def itD : PyData → List PyData
  | .list xs => xs
  | .tuple xs => xs
  | _ => []
def isStr : PyData → Bool
  | .str _ => true
  | _ => false
mutual
/-- no text, no row is longer than this -/
def fitD : PyData → Bool
  | .str z => decide (z.length ≤ 100000)
  | .list xs => decide (xs.length ≤ 100000) && fitA xs
  | .tuple xs => decide (xs.length ≤ 100000) && fitA xs
  | .dict _ => false
  | _ => true
def fitA : List PyData → Bool
  | [] => true
  | x :: xs => fitD x && fitA xs
end
/-- data as it is handed to the program -/
structure OkD (D : PyData) : Prop where
  fit : fitD D = true
  lay : D.canLay0 = true
  dep : D.depth ≤ 50
theorem OkD.sh {D : PyData} (h : OkD D) : SeqAt.shaped D = true := by
  unfold SeqAt.shaped
  rw [h.lay, decide_eq_true (Nat.le_trans h.dep (by decide))]
  rfl
theorem fit_mem : ∀ {xs : List PyData}, fitA xs = true → ∀ x ∈ xs, fitD x = true
  | y :: ys, h, x, hx => by
    unfold fitA at h
    rw [Bool.and_eq_true] at h
    rcases List.mem_cons.mp hx with rfl | hx
    · exact h.1
    · exact fit_mem h.2 x hx
theorem lay_mem : ∀ {xs : List PyData}, PyData.canLayAll0 xs = true → ∀ x ∈ xs, x.canLay0 = true
  | y :: ys, h, x, hx => by
    unfold PyData.canLayAll0 at h
    rw [Bool.and_eq_true] at h
    rcases List.mem_cons.mp hx with rfl | hx
    · exact h.1
    · exact lay_mem h.2 x hx
theorem dep_mem : ∀ {xs : List PyData}, ∀ x ∈ xs, x.depth ≤ PyData.depthAll xs
  | y :: ys, x, hx => by
    simp only [PyData.depthAll]
    rcases List.mem_cons.mp hx with rfl | hx
    · exact Nat.le_max_left _ _
    · exact Nat.le_trans (dep_mem x hx) (Nat.le_max_right _ _)
theorem okD_it {D : PyData} (h : OkD D) : ∀ d ∈ itD D, OkD d := by
  intro d hd
  cases D with
  | list xs =>
    have h1 := h.fit
    have h2 := h.lay
    have h3 := h.dep
    simp only [fitD, Bool.and_eq_true] at h1
    simp only [PyData.canLay0] at h2
    simp only [PyData.depth] at h3
    exact ⟨fit_mem h1.2 d hd, lay_mem h2 d hd, by have := dep_mem (xs := xs) d hd; omega⟩
  | tuple xs =>
    have h1 := h.fit
    have h2 := h.lay
    have h3 := h.dep
    simp only [fitD, Bool.and_eq_true] at h1
    simp only [PyData.canLay0] at h2
    simp only [PyData.depth] at h3
    exact ⟨fit_mem h1.2 d hd, lay_mem h2 d hd, by have := dep_mem (xs := xs) d hd; omega⟩
  | none => exact nomatch hd
  | bool b => exact nomatch hd
  | int b => exact nomatch hd
  | str b => exact nomatch hd
  | dict b => exact nomatch hd
theorem okD_len {D : PyData} (h : OkD D) : (itD D).length ≤ 100000 := by
  have h1 := h.fit
  cases D with
  | list xs =>
    simp only [fitD, Bool.and_eq_true, decide_eq_true_eq] at h1
    exact h1.1
  | tuple xs =>
    simp only [fitD, Bool.and_eq_true, decide_eq_true_eq] at h1
    exact h1.1
  | none => exact Nat.zero_le _
  | bool b => exact Nat.zero_le _
  | int b => exact Nat.zero_le _
  | str b => exact Nat.zero_le _
  | dict b => exact Nat.zero_le _
theorem okD_str {z : Str} (h : OkD (.str z)) : z.length ≤ 100000 := by
  have h1 := h.fit
  simp only [fitD, decide_eq_true_eq] at h1
  exact h1
def isS : PyData → Str → Bool
  | .str y, z => y == z
  | _, _ => false
theorem eqv_str (d : PyData) (z : Str) : PyData.eqv d (.str z) = isS d z := by
  cases d <;> rfl
theorem isS_iff {d : PyData} {z : Str} : isS d z = true ↔ d = .str z := by
  cases d with
  | str y => exact ⟨fun h => congrArg PyData.str (beq_iff_eq.mp h), fun h => beq_iff_eq.mpr (PyData.str.inj h)⟩
  | _ => exact ⟨fun h => (nomatch h), fun h => (nomatch h)⟩
section
variable {K : Zw} {H H' : Hp} {v : V} {D : PyData}
theorem tyT {p : Addr} {xs : List V} (h : SqT K.K H p xs) : TyX K.K H (.ref p) (.type "tuple") := by
  rcases h with (h | ⟨o, h⟩) | ⟨o, its, n, h, c, _⟩
  · exact .base (.tup h)
  · exact .fTuple h
  · exact .kTuple h c
theorem tyLL {p : Addr} {xs : List V} (h : SqL K.K H p xs) : TyX K.K H (.ref p) (.type "list") := by
  rcases h with (h | ⟨o, h⟩) | ⟨o, its, n, h, c, _⟩
  · exact .base (.lst h)
  · exact .base (.frz h)
  · exact .kList h c
theorem tyD (n : nd D = true) (h : Dw K H v D) : TyX K.K H v (.type (tnD D)) := by
  cases h with
  | non => exact .base .non
  | bl b => exact .base (.bl b)
  | int b => exact .base (.int b)
  | str b => exact .base (.str b)
  | lst h _ => exact tyLL h
  | tup h _ => exact tyT h
  | dic _ _ => exact nomatch n
  | clo _ _ => exact nomatch n
theorem dp_seq (h : Dw K H v D) (e : isSq D = true) : ∃ a xs, v = .ref a ∧ Sq K.K H a xs ∧ DwAll K H xs (itD D) := by
  cases h with
  | lst h g => exact ⟨_, _, rfl, .inr h, g⟩
  | tup h g => exact ⟨_, _, rfl, .inl h, g⟩
  | non => exact nomatch e
  | bl b => exact nomatch e
  | int b => exact nomatch e
  | str b => exact nomatch e
  | dic _ _ => exact nomatch e
  | clo _ _ => exact nomatch e
theorem kit_sq (n : nd D = true) : PySem.W.kitAny K.K (.type (tnD D)) [.type "list", .type "tuple"] = some (isSq D) := by
  have no : ∀ {t : String}, kitB t "list" = some false → kitB t "tuple" = some false → PySem.W.kitAny K.K (.type t) [.type "list", .type "tuple"] = some false := fun a b =>
    kitAny_cons (kit_ty a) (fun _ => kitAny_cons (kit_ty b) (fun _ => rfl) (fun q => nomatch q)) (fun q => nomatch q)
  cases D with
  | list _ => exact kitAny_cons (b := true) (kit_ty (show kitB "list" "list" = some true by decide +kernel)) (fun q => nomatch q) (fun _ => rfl)
  | tuple _ => exact kitAny_cons (b := false) (kit_ty (show kitB "tuple" "list" = some false by decide +kernel)) (fun _ => kitAny_cons (b := true) (kit_ty (show kitB "tuple" "tuple" = some true by decide +kernel)) (fun q => nomatch q) fun _ => rfl) (fun q => nomatch q)
  | none => exact no (t := "NoneType") (by decide +kernel) (by decide +kernel)
  | bool b => exact no (t := "bool") (by decide +kernel) (by decide +kernel)
  | int b => exact no (t := "int") (by decide +kernel) (by decide +kernel)
  | str b => exact no (t := "str") (by decide +kernel) (by decide +kernel)
  | dict b => exact nomatch n
theorem kit_str (n : nd D = true) : PySem.W.kitOne K.K (.type (tnD D)) (.type "str") = some (isStr D) := by
  cases D with
  | none => exact kit_ty (show kitB "NoneType" "str" = some false by decide +kernel)
  | bool _ => exact kit_ty (show kitB "bool" "str" = some false by decide +kernel)
  | int _ => exact kit_ty (show kitB "int" "str" = some false by decide +kernel)
  | str _ => exact kit_ty (show kitB "str" "str" = some true by decide +kernel)
  | list _ => exact kit_ty (show kitB "list" "str" = some false by decide +kernel)
  | tuple _ => exact kit_ty (show kitB "tuple" "str" = some false by decide +kernel)
  | dict b => exact nomatch n
theorem dpa_len : ∀ {xs : List V} {ds : List PyData}, DwAll K H xs ds → xs.length = ds.length
  | _, _, .nil => rfl
  | _, _, .cons _ h => congrArg Nat.succ (dpa_len h)
theorem dpa_at : ∀ {xs : List V} {ds : List PyData} {i : Nat} {x : V}, DwAll K H xs ds → xs[i]? = some x → ∃ d, ds[i]? = some d ∧ Dw K H x d
  | _, _, _, _, .nil, e => nomatch e
  | _, _, 0, _, .cons h _, e => by
    cases e
    exact ⟨_, rfl, h⟩
  | _, _, i + 1, x, .cons _ h, e => by
    obtain ⟨d, h1, h2⟩ := dpa_at (i := i) h (by simpa using e)
    exact ⟨d, by simpa using h1, h2⟩
theorem dpa_at' : ∀ {xs : List V} {ds : List PyData} {i : Nat} {d : PyData}, DwAll K H xs ds → ds[i]? = some d → ∃ x, xs[i]? = some x ∧ Dw K H x d
  | _, _, _, _, .nil, e => nomatch e
  | _, _, 0, _, .cons h _, e => by
    cases e
    exact ⟨_, rfl, h⟩
  | _, _, i + 1, x, .cons _ h, e => by
    obtain ⟨d, h1, h2⟩ := dpa_at' (i := i) h (by simpa using e)
    exact ⟨d, by simpa using h1, h2⟩
theorem dpa_app : ∀ {xs ys : List V} {ds es : List PyData}, DwAll K H xs ds → DwAll K H ys es → DwAll K H (xs ++ ys) (ds ++ es)
  | _, _, _, _, .nil, h => h
  | _, _, _, _, .cons a b, h => .cons a (dpa_app b h)
theorem Dw.xt (x : ∀ b o, H b = some o → H' b = some o) (h : Dw K H v D) : Dw K H' v D := h.ext (LamX.ExtN.of x)
theorem DwAll.xt {vs : List V} {Ds : List PyData} (x : ∀ b o, H b = some o → H' b = some o) (h : DwAll K H vs Ds) : DwAll K H' vs Ds := h.ext (LamX.ExtN.of x)
end
/-- a value's type; dicts by their entries and functions, too -/
def TyY (K : PySem.W.Frag) (H : Hp) (x : V) (t : Value) : Prop := TyX K H x t ∨ (∃ a es, x = .ref a ∧ H a = some (DicO a es) ∧ t = .type "dict") ∨ ∃ a, x = .ref a ∧ (∃ φ : Heap → Prop, H a = some (.ext φ) ∧ ∀ h, φ h → ∃ o, h.get? a = some o ∧ o.cls = .type "function") ∧ t = .type "function"
theorem kit_ofY {X : Cx} {pins : List (Addr × Obj)} {σ : L2.St} {H : Hp} {s : Shared} {x : V} {u t : Value} (I : Inv X pins σ H s) (rx : RelV x u) (ty : TyY X.K H x t) : ∃ P : Heap → Prop, PySem.W.KitX X.K u t P ∧ P s.heap ∧ u ≠ .builtin "__main__.__loader__#opaque" := by
  rcases ty with h | ⟨a, es, rfl, e, rfl⟩ | ⟨a, rfl, ⟨φ, e, k⟩, rfl⟩
  · exact kit_of I rx h
  · cases (show u = Value.ref a from rx)
    obtain ⟨⟨ep, o, h1, h2, _⟩, _⟩ := I.hok a _ e
    exact ⟨_, PySem.W.kitx_dict, ⟨o, h1, h2.1⟩, fun z => nomatch z⟩
  · cases (show u = Value.ref a from rx)
    obtain ⟨z, _⟩ := I.hok a _ e
    exact ⟨_, PySem.W.kitx_fn, k _ z, fun z => nomatch z⟩
def rIsY (K : PySem.W.Frag) : List V → Hp → VK → Prop := fun xs H Q => ∃ (x c : V) (t u : Value) (b : Bool), xs = [x, c] ∧ ClsV c u ∧ TyY K H x t ∧ PySem.W.kitOne K t u = some b ∧ Q (.bl b) H
def rIsYT (K : PySem.W.Frag) : List V → Hp → VK → Prop := fun xs H Q => ∃ (x : V) (tp : Addr) (cs : List V) (t : Value) (us : List Value) (b : Bool), xs = [x, .ref tp] ∧ H tp = some (.tup cs) ∧ Paired ClsV cs us ∧ TyY K H x t ∧ PySem.W.kitAny K t us = some b ∧ Q (.bl b) H
theorem call_isY {X : Cx} : CallR X (.builtin "isinstance") (rIsY X.K) := by
  intro pins s σ H xs us Q I r h
  obtain ⟨x, c, t, u, b, rfl, cv, ty, e, q⟩ := h
  match us, r with
  | [w1, w2], .cons r1 (.cons r2 .nil) =>
    cases cv.eq r2
    obtain ⟨P, kx, p, ne⟩ := kit_ofY I r1 ty
    exact PySem.W.kia_one kx I.kIn p e ne fun tk => ⟨.bl b, H, I.tok tk, rfl, q⟩
theorem call_isYT {X : Cx} : CallR X (.builtin "isinstance") (rIsYT X.K) := by
  intro pins s σ H xs us Q I r h
  obtain ⟨x, tp, cs, t, ws, b, rfl, ht, cv, ty, e, q⟩ := h
  match us, r with
  | [w1, w2], .cons r1 (.cons r2 .nil) =>
    obtain rfl : w2 = Value.ref tp := r2
    obtain ⟨P, kx, p, ne⟩ := kit_ofY I r1 ty
    obtain ⟨_, its, rv, o, g1, g2, n, g3⟩ := (show ObjOk X.prog X.w H s.heap tp (.tup cs) from I.hok tp _ ht)
    cases ClsV.all cv rv
    obtain ⟨oc, od, dt, sl⟩ := o
    dsimp only at g2 g3
    subst g2 g3
    exact PySem.W.kia_tup kx I.kIn p g1 e ne fun tk => ⟨.bl b, H, I.tok tk, rfl, q⟩
/-- a kind of value: which data is of it; no dict, no function -/
structure KitF (T : String) (kf : PyData → Bool) : Prop where
  nd : ∀ {K : Zw} {D : PyData}, nd D = true → PySem.W.kitOne K.K (.type (tnD D)) (.type T) = some (kf D)
  dic : ∀ K : PySem.W.Frag, PySem.W.kitOne K (.type "dict") (.type T) = some false
  fn : ∀ K : PySem.W.Frag, PySem.W.kitOne K (.type "function") (.type T) = some false
  no : ∀ kvs, kf (.dict kvs) = false
theorem kitf_str : KitF "str" isStr := ⟨fun h => kit_str h, fun K => kit_ty (by decide +kernel), fun K => kit_ty (by decide +kernel), fun _ => rfl⟩
/-- the type of data, and what it is not -/
theorem tyAll {K : Zw} {H : Hp} {v : V} {D : PyData} {T : String} {kf : PyData → Bool} (k : KitF T kf) (h : Dw K H v D) : ∃ t, TyY K.K H v t ∧ PySem.W.kitOne K.K t (.type T) = some (kf D) := by
  cases h with
  | dic e q => exact ⟨_, .inr (.inl ⟨_, _, rfl, e, rfl⟩), by rw [k.no]; exact k.dic _⟩
  | clo c q =>
    obtain ⟨sc, cl, cc, _, e, _⟩ := c.ex
    obtain ⟨φ, e1, e2⟩ := funO_cls sc _ (sc.nf cl cc)
    rw [e1] at e
    exact ⟨_, .inr (.inr ⟨_, rfl, ⟨φ, e, e2⟩, rfl⟩), by unfold cloD; rw [k.no]; exact k.fn _⟩
  | non => exact ⟨_, .inl (tyD rfl .non), k.nd (K := K) rfl⟩
  | bl b => exact ⟨_, .inl (tyD rfl (.bl b)), k.nd (K := K) rfl⟩
  | int b => exact ⟨_, .inl (tyD rfl (.int b)), k.nd (K := K) rfl⟩
  | str b => exact ⟨_, .inl (tyD rfl (.str b)), k.nd (K := K) rfl⟩
  | lst y z => exact ⟨_, .inl (tyD rfl (.lst y z)), k.nd (K := K) rfl⟩
  | tup y z => exact ⟨_, .inl (tyD rfl (.tup y z)), k.nd (K := K) rfl⟩
theorem tySeq {K : Zw} {H : Hp} {v : V} {D : PyData} (h : Dw K H v D) : ∃ t, TyY K.K H v t ∧ PySem.W.kitAny K.K t [.type "list", .type "tuple"] = some (isSq D) := by
  have no : ∀ {t : String}, kitB t "list" = some false → kitB t "tuple" = some false → PySem.W.kitAny K.K (.type t) [.type "list", .type "tuple"] = some false := fun a b =>
    kitAny_cons (kit_ty a) (fun _ => kitAny_cons (kit_ty b) (fun _ => rfl) (fun q => nomatch q)) (fun q => nomatch q)
  by_cases n : nd D = true
  · exact ⟨_, .inl (tyD n h), kit_sq (K := K) n⟩
  · cases h with
    | dic e q => exact ⟨_, .inr (.inl ⟨_, _, rfl, e, rfl⟩), no (t := "dict") (by decide +kernel) (by decide +kernel)⟩
    | clo c q =>
      obtain ⟨sc, cl, cc, _, e, _⟩ := c.ex
      obtain ⟨φ, e1, e2⟩ := funO_cls sc _ (sc.nf cl cc)
      rw [e1] at e
      exact ⟨_, .inr (.inr ⟨_, rfl, ⟨φ, e, e2⟩, rfl⟩), no (t := "function") (by decide +kernel) (by decide +kernel)⟩
    | _ => exact absurd rfl n
end Da
set_option Elab.async false
set_option linter.all false
set_option maxRecDepth 100000
set_option maxHeartbeats 4000000
namespace Dl
open PySem PySem.Spec PyProof.Rows L2 So Da
/-- an answer, or an error: its class, what it bears -/
inductive Out where
  | told (D : PyData)
  | err (C : Addr) (D : PyData)
/-- what a call comes to, by its arguments: what is wished of its outcome -/
abbrev LW := List PyData → (Out → Prop) → Prop
/-- what a captured name holds: data, a function and the level of its calls -/
inductive Cp where
  | dat (D : PyData)
  | fn (k : Nat) (W : LW)
  | bx
/-- .. by what its captured names hold -/
abbrev LW2 := List Cp → LW
/-- a function: whatever it leans on stands for good; or it leans on the cells of slots of the running def -/
inductive Fk where
  | fn (k : Nat) (W : LW)
  | lam (ca : Nat → Addr) (js : List Nat) (W : LW2)
  | bx
/-- what an owned object holds -/
inductive Oc where
  | lst (ds : List PyData)
  | box
  | dic (kvs : List (PyData × PyData))
  | lams (ca : Nat → Addr) (ls : List (List Nat × LW2))
/-- a slot: nothing known, data that stands for good, an object of one's own, an error that was caught, a function -/
inductive Lc where
  | un
  | sh (D : PyData)
  | ob (a : Addr) (c : Oc)
  | exc (a C d : Addr) (D : PyData)
  | ask (O : Fk)
abbrev Sto := List Lc
/-- an error's own dict -/
def Xd (K : Zw) (C : Addr) (H : Hp) (d : Addr) (v : V) : Prop := H d = some (.xd [(K.T.an C, v)])
/-- all that G knows stands in H -/
def Sub (G H : Hp) : Prop := ∀ b o, G b = some o → H b = some o
/-- a tuple of texts stands in the ground only where its object is known, and has no attributes of its own -/
def txV (xs : List V) : Bool := !xs.isEmpty && xs.all fun x => match x with
  | .str _ => true
  | _ => false
def NTo : HO → Prop
  | .tup xs => txV xs = false
  | .frz ob (.tup _) => ob.dict = none
  | _ => True
def NT (G : Hp) : Prop := ∀ p o, G p = some o → NTo o
theorem NT.upd {G : Hp} {p : Addr} {o : HO} (h : NT G) (k : NTo o) : NT (upd G p o) := fun b u e => by
  by_cases q : b = p
  · rw [q, upd_same] at e
    cases e
    exact k
  · rw [upd_ne q] at e
    exact h b u e
/-- what is wished behind a call -/
def spAsk (K : Zw) : Out → Hp → VK → XK → Prop
  | .told D, G, Q, _ => ∀ v G' H', Ex K.T G G' → Sub G' H' → NT G' → Dw K G' v D → Q v H'
  | .err C D, G, _, E => ∀ d v G' H', Ex K.T G G' → Sub G' H' → NT G' → Xd K C G' d v → Dw K G' v D → E (.ref C) (some d) H'
/-- lambdas stand at this level -/
def aL : Nat := 60
def FnT (K : PySem.W.Frag) (G : Hp) (f : Addr) : Prop := (∃ φ : Heap → Prop, G f = some (.ext φ) ∧ ∀ h, φ h → PySem.W.FnAt f h) ∨ ∀ h, K.In h → PySem.W.FnAt f h
theorem FnT.ext {K : PySem.W.Frag} {G G' : Hp} {f : Addr} (x : LamX.ExtN G G') (h : FnT K G f) : FnT K G' f := by
  refine h.imp_left fun h => ?_
  obtain ⟨φ, e, q⟩ := h
  exact ⟨φ, x _ _ e (fun _ z => nomatch z), q⟩
/-- a function at f, wherever it is called -/
structure AskOk (K : Zw) (G : Hp) (f : Addr) (k : Nat) (W : LW) : Prop where
  fn : FnT K.K G f
  run : ∀ (A : Around) (outer : List Env) (s : Shared) (H G1 : Hp) (us : List Value) (vs : List V) (Ds : List PyData) (R : Out → Prop) (Q : VK) (E : XK), Room k A → A.guards = some [] → Env0 K.Pg K.w K.K K.mg K.base A outer s H → Ex K.T G G1 → Sub G1 H → NT G1 → Vals vs us → DwAll K G1 vs Ds → W Ds R → (∀ o, R o → spAsk K o G1 Q E) →
    codeAny (model K.Pg K.w) A (.call (.ref f) ⟨us, []⟩) (CR (L2.CX K.Pg K.w) outer K.Pg K.w H s Q E) s
theorem AskOk.mono {K : Zw} {G G' : Hp} {f : Addr} {k : Nat} {W : LW} (s : Ex K.T G G') (h : AskOk K G f k W) : AskOk K G' f k W := ⟨h.fn.ext s.1, fun A outer s1 H G1 us vs Ds R Q E hr hg e0 x sub nt r d q k => h.run A outer s1 H G1 us vs Ds R Q E hr hg e0 (s.trans x) sub nt r d q k⟩
/-- two numbers, whichever they are -/
def BxP (b : Addr) (h : Heap) : Prop := ∃ (g s : Int) (t u : Tok) (n : Nat), h.get? b = some { cls := .type "list", data := .seq #[.int g t, .int s u] n } ∧ 0 ≤ g ∧ 0 ≤ s ∧ s ≤ 2147483648
def BxO (b : Addr) : HO := .ext (BxP b)
def CpOk (K : Zw) (G : Hp) (v : V) : Cp → Prop
  | .dat D => Dw K G v D
  | .fn k W => ∃ f, v = .ref f ∧ AskOk K G f k W
  | .bx => ∃ b, v = .ref b ∧ G b = some (BxO b)
theorem CpOk.mono {K : Zw} {G G' : Hp} {v : V} (s : Ex K.T G G') : ∀ {c : Cp}, CpOk K G v c → CpOk K G' v c
  | .dat _, h => Dw.mono s h
  | .fn _ _, ⟨f, e, h⟩ => ⟨f, e, h.mono s⟩
  | .bx, ⟨b, e, h⟩ => ⟨b, e, s.1 _ _ h (fun _ z => nomatch z)⟩
/-- what untracked cells hold -/
def CellsU (K : Zw) (G : Hp) (h : Heap) (H : Hp) : List Addr → List Cp → Prop
  | [], [] => True
  | a :: as, c :: cs => (H a = none ∧ ∃ v u, h.IsCell a (some u) ∧ RelV v u ∧ CpOk K G v c) ∧ CellsU K G h H as cs
  | _, _ => False
/-- .. by what the cells at as hold -/
structure LamOk (K : Zw) (G : Hp) (f : Addr) (k : Nat) (as : List Addr) (W : LW2) : Prop where
  fn : FnT K.K G f
  run : ∀ (A : Around) (outer : List Env) (s : Shared) (H G1 : Hp) (us : List Value) (vs : List V) (Ds : List PyData) (cs : List Cp) (R : Out → Prop) (Q : VK) (E : XK), Room k A → A.guards = some [] → Env0 K.Pg K.w K.K K.mg K.base A outer s H → Ex K.T G G1 → Sub G1 H → NT G1 → CellsU K G1 s.heap H as cs → Vals vs us → DwAll K G1 vs Ds → W cs Ds R → (∀ o, R o → spAsk K o G1 Q E) →
    codeAny (model K.Pg K.w) A (.call (.ref f) ⟨us, []⟩) (CR (L2.CX K.Pg K.w) outer K.Pg K.w H s Q E) s
theorem LamOk.mono {K : Zw} {G G' : Hp} {f : Addr} {k : Nat} {as : List Addr} {W : LW2} (s : Ex K.T G G') (h : LamOk K G f k as W) : LamOk K G' f k as W := ⟨h.fn.ext s.1, fun A outer s1 H G1 us vs Ds cs R Q E hr hg e0 x sub nt c r d q kk => h.run A outer s1 H G1 us vs Ds cs R Q E hr hg e0 (s.trans x) sub nt c r d q kk⟩
def FkOk (K : Zw) (G : Hp) (f : Addr) : Fk → Prop
  | .fn k W => AskOk K G f k W
  | .lam ca js W => LamOk K G f aL (js.map ca) W
  | .bx => G f = some (BxO f)
theorem FkOk.mono {K : Zw} {G G' : Hp} {f : Addr} (s : Ex K.T G G') : ∀ {O : Fk}, FkOk K G f O → FkOk K G' f O
  | .fn _ _, h => AskOk.mono s h
  | .lam _ _ _, h => LamOk.mono s h
  | .bx, h => s.1 _ _ h (fun _ z => nomatch z)
theorem FkOk.fnT {K : Zw} {G : Hp} {f : Addr} {k : Nat} {W : LW} (h : FkOk K G f (.fn k W)) : FnT K.K G f := AskOk.fn h
def OcOk (K : Zw) (G : Hp) (a : Addr) : Oc → HO → Prop
  | .lst ds, o => ∃ vs, o = .lst vs ∧ DwAll K G vs ds
  | .box, o => ∃ g s : Int, o = .lst [.int g, .int s] ∧ 0 ≤ g ∧ 0 ≤ s ∧ s ≤ 2147483648
  | .dic kvs, o => ∃ es, o = DicO a es ∧ DwKV K G es.toList kvs ∧ kvs.length ≤ sizeLine
  | .lams ca ls, o => ∃ vs, o = .lst vs ∧ Paired (fun v (l : List Nat × LW2) => ∃ f, v = V.ref f ∧ LamOk K G f aL (l.1.map ca) l.2) vs ls
theorem paired_imp {α β : Type} {p q : α → β → Prop} (h : ∀ a b, p a b → q a b) : ∀ {l : List α} {m : List β}, Paired p l m → Paired q l m
  | _, _, .nil => .nil
  | _, _, .cons a b => .cons (h _ _ a) (paired_imp h b)
theorem OcOk.mono {K : Zw} {G G' : Hp} {a : Addr} (s : Ex K.T G G') : ∀ {c : Oc} {o : HO}, OcOk K G a c o → OcOk K G' a c o
  | .lst _, _, ⟨vs, e, d⟩ => ⟨vs, e, d.mono s⟩
  | .box, _, h => h
  | .dic _, _, ⟨es, e, d, l⟩ => ⟨es, e, d.ext s.1, l⟩
  | .lams _ _, _, ⟨vs, e, d⟩ => ⟨vs, e, paired_imp (fun _ _ ⟨f, e, m⟩ => ⟨f, e, m.mono s⟩) d⟩
theorem OcOk.lcl {K : Zw} {G : Hp} {a : Addr} : ∀ {c : Oc} {o : HO}, OcOk K G a c o → Lcl o
  | .lst _, _, ⟨vs, e, _⟩ => e ▸ lcl_lst
  | .box, _, ⟨_, _, e, _⟩ => e ▸ lcl_lst
  | .dic _, _, ⟨_, e, _⟩ => e ▸ lcl_ext
  | .lams _ _, _, ⟨_, e, _⟩ => e ▸ lcl_lst
def Owns (ρ : Sto) (a : Addr) : Prop := ∃ (i : Nat) (c : Oc), ρ[i]? = some (.ob a c)
structure Rep (K : Zw) (F : List (Addr × HO)) (G : Hp) (ρ : Sto) (σ : L2.St) (H : Hp) : Prop where
  len : σ.length = ρ.length
  sh : ∀ {i : Nat} {D : PyData}, ρ[i]? = some (.sh D) → ∃ v, σ[i]? = some (some v) ∧ Dw K G v D
  ob : ∀ {i : Nat} {a : Addr} {c : Oc}, ρ[i]? = some (.ob a c) → σ[i]? = some (some (.ref a)) ∧ G a = none ∧ ∃ o, H a = some o ∧ OcOk K G a c o
  exc : ∀ {i : Nat} {a C d : Addr} {D : PyData}, ρ[i]? = some (.exc a C d D) → σ[i]? = some (some (.ref a)) ∧ ∃ v, Xd K C G d v ∧ Dw K G v D
  ask : ∀ {i : Nat} {O : Fk}, ρ[i]? = some (.ask O) → ∃ f, σ[i]? = some (some (.ref f)) ∧ FkOk K G f O
  uniq : ∀ {i j : Nat} {a : Addr} {c c' : Oc}, ρ[i]? = some (.ob a c) → ρ[j]? = some (.ob a c') → i = j
  ex : ∀ {a : Addr} {o : HO}, (a, o) ∈ F → H a = some o ∧ G a = none ∧ ¬ Owns ρ a ∧ Lcl o
  sub : Sub G H
  nt : NT G
/-- what a slot says of what stands for good -/
def LcOk (K : Zw) (G : Hp) (x : Option V) : Lc → Prop
  | .un => True
  | .sh D => ∃ v, x = some v ∧ Dw K G v D
  | .ob _ _ => False
  | .exc a C d D => x = some (.ref a) ∧ ∃ v, Xd K C G d v ∧ Dw K G v D
  | .ask O => ∃ f, x = some (.ref f) ∧ FkOk K G f O
theorem LcOk.mono {K : Zw} {G G' : Hp} {x : Option V} (s : Ex K.T G G') : ∀ {lc : Lc}, LcOk K G x lc → LcOk K G' x lc
  | .un, _ => trivial
  | .sh _, ⟨v, e, d⟩ => ⟨v, e, d.mono s⟩
  | .exc _ _ _ _, ⟨e, v, d, q⟩ => ⟨e, v, s.1 _ _ d (fun _ z => nomatch z), q.mono s⟩
  | .ask _, ⟨f, e, q⟩ => ⟨f, e, q.mono s⟩
/-- the objects of one's own stay where they are, in the first n slots -/
def Alike (n : Nat) (ρ ρ' : Sto) : Prop := ∀ (i : Nat) (a : Addr) (c : Oc), i < n → ρ[i]? = some (.ob a c) → ∃ c', ρ'[i]? = some (.ob a c')
theorem Alike.refl {n : Nat} {ρ : Sto} : Alike n ρ ρ := fun _ _ c _ h => ⟨c, h⟩
theorem Alike.trans {n : Nat} {ρ ρ1 ρ2 : Sto} (a : Alike n ρ ρ1) (b : Alike n ρ1 ρ2) : Alike n ρ ρ2 := fun i x c hi h => by
  obtain ⟨c', h'⟩ := a i x c hi h
  exact b i x c' hi h'
theorem set_get {α : Type} {l : List α} {i j : Nat} {x y : α} (e : (l.set i x)[j]? = some y) : (j = i ∧ y = x ∧ i < l.length) ∨ (j ≠ i ∧ l[j]? = some y) := by
  by_cases q : j = i
  · subst q
    rw [List.getElem?_set] at e
    simp only [if_pos] at e
    split at e
    · rename_i h
      cases e
      exact .inl ⟨rfl, rfl, h⟩
    · cases e
  · rw [List.getElem?_set_ne (Ne.symm q)] at e
    exact .inr ⟨q, e⟩
section
variable {K : Zw} {G G' H H' : Hp} {ρ : Sto} {σ : L2.St} {v : V} {D : PyData} {i : Nat} {a p : Addr} {F : List (Addr × HO)} {lc : Lc}
theorem Rep.tab (R : Rep K F G ρ σ H) (t : Tg G K.T) : Tg H K.T := t.ext R.sub
theorem Rep.sm (R : Rep K F G ρ σ H) (t : Tg G K.T) : Ex K.T G H := Ex.of t R.sub
theorem Rep.dp (R : Rep K F G ρ σ H) (d : Dw K G v D) : Dw K H v D := Da.Dw.xt R.sub d
theorem Rep.xt (R : Rep K F G ρ σ H) : LamX.ExtN G H := LamX.ExtN.of R.sub
theorem Rep.lt (R : Rep K F G ρ σ H) (h : ρ[i]? = some lc) : i < σ.length := by
  rw [R.len]
  exact (List.getElem?_eq_some_iff.mp h).1
theorem Rep.gnone (R : Rep K F G ρ σ H) (h : H p = none) : G p = none := by
  cases e : G p with
  | none => rfl
  | some u => rw [R.sub p u e] at h; cases h
/-- the ground grows -/
theorem Rep.grow0 (R : Rep K F G ρ σ H) (s : Ex K.T G G') (free : ∀ {i : Nat} {a : Addr} {c : Oc}, ρ[i]? = some (Lc.ob a c) → G' a = none) (exf : ∀ {a : Addr} {o : HO}, (a, o) ∈ F → G' a = none) (sub : ∀ b o, G' b = some o → H b = some o) (nt : NT G') : Rep K F G' ρ σ H := by
  refine ⟨R.len, fun e => ?_, fun e => ?_, fun e => ?_, fun e => ?_, R.uniq, fun m => ⟨(R.ex m).1, exf m, (R.ex m).2.2⟩, sub, nt⟩
  · obtain ⟨v, h1, h2⟩ := R.sh e
    exact ⟨v, h1, h2.mono s⟩
  · obtain ⟨h1, h2, u, h3, h4⟩ := R.ob e
    exact ⟨h1, free e, u, h3, h4.mono s⟩
  · obtain ⟨h1, v, h2, h3⟩ := R.exc e
    exact ⟨h1, v, s.1 _ _ h2 (fun _ z => nomatch z), h3.mono s⟩
  · obtain ⟨f, h1, h2⟩ := R.ask e
    exact ⟨f, h1, h2.mono s⟩
/-- a new object, known for good -/
theorem Rep.new {o : HO} (t : Tg G K.T) (R : Rep K F G ρ σ H) (h : H p = none) (nt : NTo o) : G p = none ∧ Rep K F (upd G p o) ρ σ (upd H p o) := by
  have gp := R.gnone h
  have np : ∀ {b o'}, H b = some o' → b ≠ p := fun e => ne_of_none e h
  have s : Ex K.T G (upd G p o) := Ex.new t gp
  refine ⟨gp, R.len, fun e => ?_, fun e => ?_, fun e => ?_, fun e => ?_, R.uniq, fun {b u} m => ?_, fun b u e => ?_, R.nt.upd nt⟩
  · obtain ⟨v, h1, h2⟩ := R.sh e
    exact ⟨v, h1, h2.mono s⟩
  · obtain ⟨h1, h2, u, h3, h4⟩ := R.ob e
    exact ⟨h1, by rw [upd_ne (np h3)]; exact h2, u, by rw [upd_ne (np h3)]; exact h3, h4.mono s⟩
  · obtain ⟨h1, v, h2, h3⟩ := R.exc e
    exact ⟨h1, v, s.1 _ _ h2 (fun _ z => nomatch z), h3.mono s⟩
  · obtain ⟨f, h1, h2⟩ := R.ask e
    exact ⟨f, h1, h2.mono s⟩
  · obtain ⟨h1, h2, h3⟩ := R.ex m
    exact ⟨by rw [upd_ne (np h1)]; exact h1, by rw [upd_ne (np h1)]; exact h2, h3⟩
  · by_cases q : b = p
    · rw [q, upd_same] at e ⊢
      exact e
    · rw [upd_ne q] at e ⊢
      exact R.sub b u e
/-- a slot set, no object of one's own in it -/
theorem Rep.setLc {x : Option V} (R : Rep K F G ρ σ H) (n : ∀ a c, ρ[i]? ≠ some (.ob a c)) (k : LcOk K G x lc) : Rep K F G (ρ.set i lc) (σ.set i x) H := by
  have no : ∀ a c, lc ≠ .ob a c := fun a c z => by
    rw [z] at k
    exact k
  have ob' : ∀ {j a c}, (ρ.set i lc)[j]? = some (.ob a c) → j ≠ i ∧ ρ[j]? = some (.ob a c) := fun {j a c} e => by
    rcases set_get e with ⟨_, z, _⟩ | h
    · exact absurd z.symm (no a c)
    · exact h
  refine ⟨by rw [List.length_set, List.length_set]; exact R.len, fun {j D'} e => ?_, fun {j a c} e => ?_, fun {j a C d D} e => ?_, fun {j O} e => ?_, fun e e' => R.uniq (ob' e).2 (ob' e').2, fun {b u} m => ⟨(R.ex m).1, (R.ex m).2.1, fun ⟨j, c, e⟩ => (R.ex m).2.2.1 ⟨j, c, (ob' e).2⟩, (R.ex m).2.2.2⟩, R.sub, R.nt⟩
  · rcases set_get e with ⟨rfl, z, l⟩ | ⟨q, e⟩
    · subst z
      obtain ⟨v, rfl, d⟩ := k
      exact ⟨v, by rw [List.getElem?_set_self (by rw [R.len]; exact l)], d⟩
    · rw [List.getElem?_set_ne (Ne.symm q)]
      exact R.sh e
  · obtain ⟨q, e⟩ := ob' e
    rw [List.getElem?_set_ne (Ne.symm q)]
    exact R.ob e
  · rcases set_get e with ⟨rfl, z, l⟩ | ⟨q, e⟩
    · subst z
      obtain ⟨rfl, d⟩ := k
      exact ⟨by rw [List.getElem?_set_self (by rw [R.len]; exact l)], d⟩
    · rw [List.getElem?_set_ne (Ne.symm q)]
      exact R.exc e
  · rcases set_get e with ⟨rfl, z, l⟩ | ⟨q, e⟩
    · subst z
      obtain ⟨f, rfl, d⟩ := k
      exact ⟨f, by rw [List.getElem?_set_self (by rw [R.len]; exact l)], d⟩
    · rw [List.getElem?_set_ne (Ne.symm q)]
      exact R.ask e
theorem Rep.set (R : Rep K F G ρ σ H) (n : ∀ a c, ρ[i]? ≠ some (.ob a c)) (d : Dw K G v D) : Rep K F G (ρ.set i (.sh D)) (σ.set i (some v)) H := R.setLc n ⟨v, rfl, d⟩
/-- nothing need be known of a slot that holds no object of one's own -/
theorem Rep.forget (R : Rep K F G ρ σ H) (n : ∀ a c, ρ[i]? ≠ some (.ob a c)) (x : Option V) : Rep K F G (ρ.set i .un) (σ.set i x) H := R.setLc n trivial
/-- a slot set to a new object of one's own -/
theorem Rep.own {o : HO} {c : Oc} (R : Rep K F G ρ σ H) (hi : i < ρ.length) (n : ∀ a c, ρ[i]? ≠ some (.ob a c)) (h : H p = none) (k : OcOk K G p c o) : Rep K F G (ρ.set i (.ob p c)) (σ.set i (some (.ref p))) (upd H p o) := by
  have np : ∀ {b o'}, H b = some o' → b ≠ p := fun e => ne_of_none e h
  have no : ∀ {j : Nat} {c' : Oc}, ρ[j]? ≠ some (Lc.ob p c') := fun {j c'} e => by
    obtain ⟨_, _, u, h3, _⟩ := R.ob e
    rw [h3] at h
    cases h
  have gp := R.gnone h
  have ob' : ∀ {j a c'}, (ρ.set i (.ob p c))[j]? = some (.ob a c') → (j = i ∧ a = p ∧ c' = c) ∨ (j ≠ i ∧ a ≠ p ∧ ρ[j]? = some (.ob a c')) := fun {j a c'} e => by
    rcases set_get e with ⟨z, z2, _⟩ | ⟨q, e⟩
    · cases z2
      exact .inl ⟨z, rfl, rfl⟩
    · exact .inr ⟨q, fun z => no (z ▸ e), e⟩
  have oth : ∀ {j : Nat} {lc' : Lc}, (ρ.set i (.ob p c))[j]? = some lc' → (∀ a c, lc' ≠ .ob a c) → j ≠ i ∧ ρ[j]? = some lc' := fun {j lc'} e m => by
    rcases set_get e with ⟨_, z, _⟩ | h
    · exact absurd z (m p c)
    · exact h
  refine ⟨by rw [List.length_set, List.length_set]; exact R.len, fun {j D'} e => ?_, fun {j a c'} e => ?_, fun {j a C d D} e => ?_, fun {j O} e => ?_, fun {j j' a c1 c2} e e' => ?_, fun {b u} m => ?_, fun b u e => ?_, R.nt⟩
  · obtain ⟨q, e⟩ := oth e (fun _ _ z => nomatch z)
    rw [List.getElem?_set_ne (Ne.symm q)]
    exact R.sh e
  · rcases ob' e with ⟨rfl, rfl, rfl⟩ | ⟨q, qa, e⟩
    · exact ⟨by rw [List.getElem?_set_self (by rw [R.len]; exact hi)], gp, o, upd_same, k⟩
    · rw [List.getElem?_set_ne (Ne.symm q), upd_ne qa]
      exact R.ob e
  · obtain ⟨q, e⟩ := oth e (fun _ _ z => nomatch z)
    rw [List.getElem?_set_ne (Ne.symm q)]
    exact R.exc e
  · obtain ⟨q, e⟩ := oth e (fun _ _ z => nomatch z)
    rw [List.getElem?_set_ne (Ne.symm q)]
    exact R.ask e
  · rcases ob' e with ⟨rfl, rfl, rfl⟩ | ⟨q, qa, e⟩
    · rcases ob' e' with ⟨rfl, _, _⟩ | ⟨_, qa, _⟩
      · rfl
      · exact absurd rfl qa
    · rcases ob' e' with ⟨_, z, _⟩ | ⟨_, _, e'⟩
      · exact absurd z qa
      · exact R.uniq e e'
  · obtain ⟨h1, h2, h3, h4⟩ := R.ex m
    refine ⟨by rw [upd_ne (np h1)]; exact h1, h2, fun ⟨j, c', e⟩ => ?_, h4⟩
    rcases ob' e with ⟨_, z, _⟩ | ⟨_, _, e⟩
    · exact np h1 z
    · exact h3 ⟨j, c', e⟩
  · rw [upd_ne (np (R.sub b u e))]
    exact R.sub b u e
/-- an object of one's own changes -/
theorem Rep.put {o : HO} {c c' : Oc} (R : Rep K F G ρ σ H) (h : ρ[i]? = some (.ob a c)) (k : OcOk K G a c' o) : Rep K F G (ρ.set i (.ob a c')) σ (upd H a o) := by
  have hi := (List.getElem?_eq_some_iff.mp h).1
  have ob' : ∀ {j b c2}, (ρ.set i (.ob a c'))[j]? = some (.ob b c2) → (j = i ∧ b = a ∧ c2 = c') ∨ (j ≠ i ∧ ρ[j]? = some (.ob b c2)) := fun {j b c2} e => by
    rcases set_get e with ⟨z, z2, _⟩ | h
    · cases z2
      exact .inl ⟨z, rfl, rfl⟩
    · exact .inr h
  have oth : ∀ {j : Nat} {lc' : Lc}, (ρ.set i (.ob a c'))[j]? = some lc' → (∀ a c, lc' ≠ .ob a c) → ρ[j]? = some lc' := fun {j lc'} e m => by
    rcases set_get e with ⟨_, z, _⟩ | h
    · exact absurd z (m a c')
    · exact h.2
  refine ⟨by rw [List.length_set]; exact R.len, fun {j D'} e => R.sh (oth e (fun _ _ z => nomatch z)), fun {j b c2} e => ?_, fun {j a C d D} e => R.exc (oth e (fun _ _ z => nomatch z)), fun {j O} e => R.ask (oth e (fun _ _ z => nomatch z)), fun {j j' b c1 c2} e e' => ?_, fun {b u} m => ?_, fun b u e => ?_, R.nt⟩
  · rcases ob' e with ⟨rfl, rfl, rfl⟩ | ⟨q, e⟩
    · exact ⟨(R.ob h).1, (R.ob h).2.1, o, upd_same, k⟩
    · have qa : b ≠ a := fun z => q (R.uniq e (z ▸ h))
      rw [upd_ne qa]
      exact R.ob e
  · rcases ob' e with ⟨z1, z2, _⟩ | ⟨_, f⟩
    · rcases ob' e' with ⟨z3, _, _⟩ | ⟨_, f'⟩
      · rw [z1, z3]
      · rw [z1]
        exact R.uniq (z2 ▸ h) f'
    · rcases ob' e' with ⟨z1, z2, _⟩ | ⟨_, f'⟩
      · rw [z1]
        exact R.uniq f (z2 ▸ h)
      · exact R.uniq f f'
  · obtain ⟨h1, h2, h3, h4⟩ := R.ex m
    have qa : b ≠ a := fun z => h3 ⟨i, c, z ▸ h⟩
    refine ⟨by rw [upd_ne qa]; exact h1, h2, fun ⟨j, c2, e⟩ => ?_, h4⟩
    rcases ob' e with ⟨_, z, _⟩ | ⟨_, e⟩
    · exact qa z
    · exact h3 ⟨j, c2, e⟩
  · rw [upd_ne (fun z => by rw [z, (R.ob h).2.1] at e; cases e)]
    exact R.sub b u e
/-- what an owned object is when it stands for good -/
def ocD : Oc → Option PyData
  | .lst ds => some (.list ds)
  | .dic kvs => some (.dict kvs)
  | _ => none
/-- an object of one's own stands for good from here on -/
theorem Rep.freeze {c : Oc} {D : PyData} (t : Tg G K.T) (R : Rep K F G ρ σ H) (h : ρ[i]? = some (.ob a c)) (hc : ocD c = some D) : ∃ G', Ex K.T G G' ∧ Rep K F G' (ρ.set i (.sh D)) σ H := by
  have hi := (List.getElem?_eq_some_iff.mp h).1
  obtain ⟨h1, h2, o, h3, h4⟩ := R.ob h
  have s : Ex K.T G (upd G a o) := Ex.new t h2
  have hd : Dw K (upd G a o) (.ref a) D ∧ NTo o := by
    cases c with
    | lst ds =>
      cases hc
      obtain ⟨vs, rfl, d⟩ := h4
      exact ⟨.lst (.inl (.inl upd_same)) (d.mono s), trivial⟩
    | dic kvs =>
      cases hc
      obtain ⟨es, rfl, d, _⟩ := h4
      exact ⟨.dic upd_same (d.ext s.1), trivial⟩
    | box => cases hc
    | lams _ _ => cases hc
  refine ⟨upd G a o, s, ?_⟩
  have ob' : ∀ {j b c2}, (ρ.set i (.sh D))[j]? = some (.ob b c2) → j ≠ i ∧ ρ[j]? = some (.ob b c2) := fun {j b c2} e => by
    rcases set_get e with ⟨_, z, _⟩ | h
    · cases z
    · exact h
  refine ⟨by rw [List.length_set]; exact R.len, fun {j D'} e => ?_, fun {j b c2} e => ?_, fun {j b C d D'} e => ?_, fun {j O} e => ?_, fun e e' => R.uniq (ob' e).2 (ob' e').2, fun {b u} m => ?_, fun b u e => ?_, R.nt.upd hd.2⟩
  · rcases set_get e with ⟨rfl, z, _⟩ | ⟨q, e⟩
    · cases z
      exact ⟨_, h1, hd.1⟩
    · obtain ⟨v, q1, q2⟩ := R.sh e
      exact ⟨v, q1, q2.mono s⟩
  · obtain ⟨q, e⟩ := ob' e
    obtain ⟨q1, q2, u, q3, q4⟩ := R.ob e
    have qa : b ≠ a := fun z => q (R.uniq e (z ▸ h))
    exact ⟨q1, by rw [upd_ne qa]; exact q2, u, q3, q4.mono s⟩
  · rcases set_get e with ⟨_, z, _⟩ | ⟨q, e⟩
    · cases z
    · obtain ⟨q1, v, q2, q3⟩ := R.exc e
      exact ⟨q1, v, s.1 _ _ q2 (fun _ z => nomatch z), q3.mono s⟩
  · rcases set_get e with ⟨_, z, _⟩ | ⟨q, e⟩
    · cases z
    · obtain ⟨f, q1, q2⟩ := R.ask e
      exact ⟨f, q1, q2.mono s⟩
  · obtain ⟨k1, k2, k3, k4⟩ := R.ex m
    have qa : b ≠ a := fun z => k3 ⟨i, _, z ▸ h⟩
    exact ⟨k1, by rw [upd_ne qa]; exact k2, fun ⟨j, c2, e⟩ => k3 ⟨j, c2, (ob' e).2⟩, k4⟩
  · by_cases q : b = a
    · rw [q, upd_same] at e
      cases e
      rw [q]
      exact h3
    · rw [upd_ne q] at e
      exact R.sub b u e
end
end Dl
set_option Elab.async false
set_option linter.all false
set_option maxRecDepth 100000
set_option maxHeartbeats 4000000
namespace Dl
open PySem PySem.Spec PyProof.Rows L2 So Da
abbrev DTE := Sto → (PyData → Sto → Prop) → Prop
abbrev DTT := Sto → (Bool → Sto → Prop) → Prop
abbrev DTA := Sto → (List PyData → Sto → Prop) → Prop
/-- a value that is looked at: data, or what stands in a slot -/
inductive Rv where
  | val (D : PyData)
  | slot (i : Nat)
abbrev DTR := Sto → (Rv → Sto → Prop) → Prop
def deref (ρ : Sto) : Rv → Option PyData
  | .val D => some D
  | .slot i => match ρ[i]? with
    | some (.sh D) => some D
    | some (.ob _ (.lst ds)) => some (.list ds)
    | some (.ob _ (.dic kvs)) => some (.dict kvs)
    | _ => none
def derefW (ρ : Sto) (r : Rv) (k : PyData → Prop) : Prop := match deref ρ r with
  | some D => k D
  | none => False
def RvOk (K : Zw) (G : Hp) (σ : L2.St) (v : V) : Rv → Prop
  | .val D => Dw K G v D
  | .slot i => σ[i]? = some (some v)
theorem RvOk.mono {K : Zw} {G G' : Hp} {σ : L2.St} {v : V} (s : Ex K.T G G') : ∀ {r : Rv}, RvOk K G σ v r → RvOk K G' σ v r
  | .val _, h => Dw.mono s h
  | .slot _, h => h
/-- data that lies in the ground, or an object of one's own -/
def Dq (K : Zw) (G H : Hp) (v : V) (D : PyData) : Prop := Dw K G v D ∨ ∃ a c o, v = .ref a ∧ ocD c = some D ∧ H a = some o ∧ OcOk K G a c o
section
variable {K : Zw} {G G' H H' : Hp} {ρ ρ' : Sto} {σ : L2.St} {v : V} {D : PyData} {F : List (Addr × HO)}
theorem dq_of {r : Rv} (R : Rep K F G ρ σ H) (h : RvOk K G σ v r) (e : deref ρ r = some D) : Dq K G H v D := by
  cases r with
  | val D' =>
    cases e
    exact .inl h
  | slot i =>
    have h : σ[i]? = some (some v) := h
    unfold deref at e
    dsimp only at e
    split at e
    · rename_i D' q
      cases e
      obtain ⟨v', h1, h2⟩ := R.sh q
      rw [h] at h1
      cases h1
      exact .inl h2
    · rename_i a ds q
      cases e
      obtain ⟨h1, h2, o, h3, h4⟩ := R.ob q
      rw [h] at h1
      cases h1
      exact .inr ⟨a, _, _, rfl, rfl, h3, h4⟩
    · rename_i a kvs q
      cases e
      obtain ⟨h1, h2, o, h3, h4⟩ := R.ob q
      rw [h] at h1
      cases h1
      exact .inr ⟨a, _, _, rfl, rfl, h3, h4⟩
    · cases e
theorem Dq.dp (R : Rep K F G ρ σ H) (h : Dq K G H v D) : Dw K H v D := by
  rcases h with h | ⟨a, c, o, rfl, e, h1, h2⟩
  · exact R.dp h
  · cases c with
    | lst ds =>
      cases e
      obtain ⟨vs, rfl, d⟩ := h2
      exact .lst (.inl (.inl h1)) (d.ext R.xt)
    | dic kvs =>
      cases e
      obtain ⟨es, rfl, d, _⟩ := h2
      exact .dic h1 (d.ext R.xt)
    | box => cases e
    | lams _ _ => cases e
theorem Dq.seq (R : Rep K F G ρ σ H) (h : Dq K G H v D) (e : isSq D = true) : ∃ a xs, v = .ref a ∧ Sq K.K H a xs ∧ DwAll K G xs (itD D) := by
  rcases h with h | ⟨a, c, o, rfl, e1, h1, h2⟩
  · obtain ⟨a, xs, rfl, h1, h2⟩ := dp_seq h e
    exact ⟨a, xs, rfl, h1.ext R.xt, h2⟩
  · cases c with
    | lst ds =>
      cases e1
      obtain ⟨vs, rfl, d⟩ := h2
      exact ⟨a, vs, rfl, .inr (.inl (.inl h1)), d⟩
    | dic kvs =>
      cases e1
      exact nomatch e
    | box => cases e1
    | lams _ _ => cases e1
theorem Dq.list {ds : List PyData} (R : Rep K F G ρ σ H) (h : Dq K G H v (.list ds)) : ∃ a xs, v = .ref a ∧ SqL K.K H a xs ∧ DwAll K G xs ds := by
  rcases h with h | ⟨a, c, o, rfl, e1, h1, h2⟩
  · cases h with
    | lst a b => exact ⟨_, _, rfl, sql_ext R.xt a, b⟩
  · cases c with
    | lst ds' =>
      cases e1
      obtain ⟨vs, rfl, d⟩ := h2
      exact ⟨a, vs, rfl, .inl (.inl h1), d⟩
    | dic kvs => cases e1
    | box => cases e1
    | lams _ _ => cases e1
theorem Dq.tup {ds : List PyData} (R : Rep K F G ρ σ H) (h : Dq K G H v (.tuple ds)) : ∃ a xs, v = .ref a ∧ SqT K.K H a xs ∧ DwAll K G xs ds ∧ Dw K G v (.tuple ds) := by
  rcases h with h | ⟨a, c, o, rfl, e, h1, h2⟩
  · have h' := h
    cases h with
    | tup a b => exact ⟨_, _, rfl, sqt_ext R.xt a, b, h'⟩
  · cases c <;> cases e
theorem Dq.flat (h : Dq K G H v D) (n : ∀ ds, D ≠ .list ds) (m : ∀ ds, D ≠ .dict ds) : Dw K G v D := by
  rcases h with h | ⟨a, c, o, rfl, e, h1, h2⟩
  · exact h
  · cases c with
    | lst ds =>
      cases e
      exact absurd rfl (n _)
    | dic kvs =>
      cases e
      exact absurd rfl (m _)
    | box => cases e
    | lams _ _ => cases e
theorem Dq.int {i : Int} (h : Dq K G H v (.int i)) : v = .int i := by
  cases h.flat (fun _ z => nomatch z) (fun _ z => nomatch z)
  rfl
theorem Dq.str {i : Str} (h : Dq K G H v (.str i)) : v = .str i := by
  cases h.flat (fun _ z => nomatch z) (fun _ z => nomatch z)
  rfl
theorem Dq.bl {i : Bool} (h : Dq K G H v (.bool i)) : v = .bl i := by
  cases h.flat (fun _ z => nomatch z) (fun _ z => nomatch z)
  rfl
end
/-- what an expression's end asks -/
def Kn (K : Zw) (F : List (Addr × HO)) (n : Nat) (Q0 : PyData → Sto → Prop) (ρ : Sto) (G : Hp) (σ : L2.St) (Q : VK) : Prop :=
  ∀ D ρ' v G' H', Q0 D ρ' → Ex K.T G G' → Alike n ρ ρ' → Rep K F G' ρ' σ H' → Dw K G' v D → Q v H'
def KnT (K : Zw) (F : List (Addr × HO)) (n : Nat) (Q0 : Bool → Sto → Prop) (ρ : Sto) (G : Hp) (σ : L2.St) (Q : Bool → Hp → Prop) : Prop :=
  ∀ b ρ' G' H', Q0 b ρ' → Ex K.T G G' → Alike n ρ ρ' → Rep K F G' ρ' σ H' → Q b H'
def KnR (K : Zw) (F : List (Addr × HO)) (n : Nat) (Q0 : Rv → Sto → Prop) (ρ : Sto) (G : Hp) (σ : L2.St) (Q : VK) : Prop :=
  ∀ r ρ' v G' H', Q0 r ρ' → Ex K.T G G' → Alike n ρ ρ' → Rep K F G' ρ' σ H' → RvOk K G' σ v r → Q v H'
def KnA (K : Zw) (F : List (Addr × HO)) (n : Nat) (Q0 : List PyData → Sto → Prop) (ρ : Sto) (G : Hp) (σ : L2.St) (Q : List V → Hp → Prop) : Prop :=
  ∀ Ds ρ' vs G' H', Q0 Ds ρ' → Ex K.T G G' → Alike n ρ ρ' → Rep K F G' ρ' σ H' → DwAll K G' vs Ds → Q vs H'
def rdE (K : Zw) (G0 : Hp) (n : Nat) (t : DTE) : TE := fun σ H Q => ∃ F ρ G Q0, Ex K.T G0 G ∧ Rep K F G ρ σ H ∧ t ρ Q0 ∧ Kn K F n Q0 ρ G σ Q
def rdT (K : Zw) (G0 : Hp) (n : Nat) (t : DTT) : TT := fun σ H Q => ∃ F ρ G Q0, Ex K.T G0 G ∧ Rep K F G ρ σ H ∧ t ρ Q0 ∧ KnT K F n Q0 ρ G σ Q
def rdR (K : Zw) (G0 : Hp) (n : Nat) (t : DTR) : TE := fun σ H Q => ∃ F ρ G Q0, Ex K.T G0 G ∧ Rep K F G ρ σ H ∧ t ρ Q0 ∧ KnR K F n Q0 ρ G σ Q
def rdA (K : Zw) (G0 : Hp) (n : Nat) (t : DTA) : TA := fun σ H Q => ∃ F ρ G Q0, Ex K.T G0 G ∧ Rep K F G ρ σ H ∧ t ρ Q0 ∧ KnA K F n Q0 ρ G σ Q
def DE (P : Tb) (G0 : Hp) (n : Nat) (X : Cx) (e : Expr) (t : DTE) : Prop := PE X e (rdE (zOf X P) G0 n t)
def DT (P : Tb) (G0 : Hp) (n : Nat) (X : Cx) (e : Expr) (t : DTT) : Prop := PT X e (rdT (zOf X P) G0 n t)
def DW (P : Tb) (G0 : Hp) (n : Nat) (X : Cx) (e : Expr) (t : DTT) : Prop := PW X e (rdT (zOf X P) G0 n t)
def DR (P : Tb) (G0 : Hp) (n : Nat) (X : Cx) (e : Expr) (t : DTR) : Prop := PE X e (rdR (zOf X P) G0 n t)
def DA (P : Tb) (G0 : Hp) (n : Nat) (X : Cx) (es : List Expr) (t : DTA) : Prop := PA X es (rdA (zOf X P) G0 n t)
section
variable {K : Zw} {n : Nat} {G G' H H' : Hp} {ρ ρ' : Sto} {σ : L2.St} {v : V} {D : PyData} {Q : VK} {p : Addr} {F : List (Addr × HO)}
theorem Kn.here {Q0 : PyData → Sto → Prop} (k : Kn K F n Q0 ρ G σ Q) (t : Tg G K.T) (R : Rep K F G ρ σ H) (d : Dw K G v D) (q : Q0 D ρ) : Q v H := k D ρ v G H q (Ex.refl t) Alike.refl R d
theorem Kn.new {Q0 : PyData → Sto → Prop} (k : Kn K F n Q0 ρ G σ Q) (t : Tg G K.T) (R : Rep K F G ρ σ H) (hp : H p = none) {o : HO} (d : ∀ s : Ex K.T G (upd G p o), Dw K (upd G p o) v D) (q : Q0 D ρ) (nt : NTo o := by exact trivial) : Q v (upd H p o) := by
  obtain ⟨gp, R'⟩ := R.new (o := o) t hp nt
  exact k D ρ v _ _ q (Ex.new t gp) Alike.refl R' (d (Ex.new t gp))
theorem Kn.after {Q0 : PyData → Sto → Prop} (k : Kn K F n Q0 ρ G σ Q) (s : Ex K.T G G') (a : Alike n ρ ρ') : Kn K F n Q0 ρ' G' σ Q := fun D r v G2 H2 q s2 a2 R d => k D r v G2 H2 q (s.trans s2) (a.trans a2) R d
theorem KnT.here {Q0 : Bool → Sto → Prop} {Q : Bool → Hp → Prop} {b : Bool} (k : KnT K F n Q0 ρ G σ Q) (t : Tg G K.T) (R : Rep K F G ρ σ H) (q : Q0 b ρ) : Q b H := k b ρ G H q (Ex.refl t) Alike.refl R
theorem KnT.after {Q0 : Bool → Sto → Prop} {Q : Bool → Hp → Prop} (k : KnT K F n Q0 ρ G σ Q) (s : Ex K.T G G') (a : Alike n ρ ρ') : KnT K F n Q0 ρ' G' σ Q := fun b r G2 H2 q s2 a2 R => k b r G2 H2 q (s.trans s2) (a.trans a2) R
theorem KnR.after {Q0 : Rv → Sto → Prop} (k : KnR K F n Q0 ρ G σ Q) (s : Ex K.T G G') (a : Alike n ρ ρ') : KnR K F n Q0 ρ' G' σ Q := fun b r v G2 H2 q s2 a2 R => k b r v G2 H2 q (s.trans s2) (a.trans a2) R
theorem KnA.after {Q0 : List PyData → Sto → Prop} {Q : List V → Hp → Prop} (k : KnA K F n Q0 ρ G σ Q) (s : Ex K.T G G') (a : Alike n ρ ρ') : KnA K F n Q0 ρ' G' σ Q := fun b r v G2 H2 q s2 a2 R => k b r v G2 H2 q (s.trans s2) (a.trans a2) R
end
section
variable {P : Tb} {G0 : Hp} {n : Nat} {X : Cx} {a b c e : Expr} {es : List Expr} {pos : Pos}
def dVar (i : Nat) : DTE := fun ρ Q => match ρ[i]? with
  | some (.sh D) => Q D ρ
  | _ => False
theorem de_var (i : Nat) {x : Str} {pos : Pos} (hN : X.N[i]? = some x := by rfl) (hv : Vis X.env.scope x := by first | exact Or.inl rfl | exact Or.inr (Or.inl rfl) | exact Or.inr (Or.inr rfl)) (hd : (x == ("__debug__" : Str)) = false := by decide)
    (hcd : (x == ("__classdict__" : Str)) = false := by decide) : DE P G0 n X (.Name x pos) (dVar i) := pe_weak (pe_var hN hv hd hcd) fun σ H Q ⟨F, ρ, G, Q0, s, R, h, k⟩ => by
  unfold dVar at h
  split at h
  · rename_i D q
    obtain ⟨v, h1, h2⟩ := R.sh q
    exact ⟨v, h1, k.here s.2 R h2 h⟩
  · exact h.elim
def known (ρ : Sto) (i : Nat) : Prop := match ρ[i]? with
  | some (.sh _) => True
  | some (.ob _ _) => True
  | some (.ask _) => True
  | _ => False
theorem dr_var (i : Nat) {x : Str} {pos : Pos} (hN : X.N[i]? = some x := by rfl) (hv : Vis X.env.scope x := by first | exact Or.inl rfl | exact Or.inr (Or.inl rfl) | exact Or.inr (Or.inr rfl)) (hd : (x == ("__debug__" : Str)) = false := by decide)
    (hcd : (x == ("__classdict__" : Str)) = false := by decide) : DR P G0 n X (.Name x pos) (fun ρ Q => known ρ i ∧ Q (.slot i) ρ) := pe_weak (pe_var hN hv hd hcd) fun σ H Q ⟨F, ρ, G, Q0, s, R, ⟨h1, h2⟩, k⟩ => by
  have : ∃ v, σ[i]? = some (some v) := by
    unfold known at h1
    split at h1
    · rename_i D q
      obtain ⟨v, h3, _⟩ := R.sh q
      exact ⟨v, h3⟩
    · rename_i a c q
      exact ⟨_, (R.ob q).1⟩
    · rename_i O q
      obtain ⟨f, h3, _⟩ := R.ask q
      exact ⟨_, h3⟩
    · exact h1.elim
  obtain ⟨v, hv⟩ := this
  exact ⟨v, hv, k _ ρ v G H h2 (Ex.refl s.2) Alike.refl R hv⟩
theorem dr_of {t : DTE} (h : DE P G0 n X e t) : DR P G0 n X e (fun ρ Q => t ρ fun D ρ' => Q (.val D) ρ') := pe_weak h fun σ H Q ⟨F, ρ, G, Q0, s, R, h, k⟩ => ⟨F, ρ, G, _, s, R, h, fun D ρ' v G' H' q s' a R' d => k (.val D) ρ' v G' H' q s' a R' d⟩
def dC (D : PyData) : DTE := fun ρ Q => Q D ρ
theorem de_con {v : V} {D : PyData} (h : PE X e (tC v)) (d : ∀ K H, Dw K H v D) : DE P G0 n X e (dC D) := pe_weak h fun σ H Q ⟨F, ρ, G, Q0, s, R, h, k⟩ => k.here s.2 R (d _ _) h
theorem de_int {i : Int} {j : Nat} : DE P G0 n X (.Constant (.int i) j pos) (dC (.int i)) := de_con pe_int fun _ _ => .int _
theorem de_str {i : Str} {j : Nat} : DE P G0 n X (.Constant (.str i) j pos) (dC (.str i)) := de_con pe_str fun _ _ => .str _
theorem de_bl {i : Bool} {j : Nat} : DE P G0 n X (.Constant (.bool i) j pos) (dC (.bool i)) := de_con pe_bl fun _ _ => .bl _
theorem de_non {j : Nat} : DE P G0 n X (.Constant .none j pos) (dC .none) := de_con pe_non fun _ _ => .non
theorem de_gInt {x : Str} {i : Int} (hg : Gl X x) (hm : ∃ t, X.mg x = some (.int i t)) (hd : (x == ("__debug__" : Str)) = false := by decide) : DE P G0 n X (.Name x pos) (dC (.int i)) := by
  obtain ⟨t, h⟩ := hm
  exact de_con (pe_glob (v := .int i) hg h ⟨_, rfl⟩ hd) fun _ _ => .int _
theorem de_gStr {x : Str} {i : Str} (hg : Gl X x) (hm : ∃ t, X.mg x = some (.str i t)) (hd : (x == ("__debug__" : Str)) = false := by decide) : DE P G0 n X (.Name x pos) (dC (.str i)) := by
  obtain ⟨t, h⟩ := hm
  exact de_con (pe_glob (v := .str i) hg h ⟨_, rfl⟩ hd) fun _ _ => .str _
abbrev OpT := PyData → PyData → (PyData → Prop) → Prop
def dOp (f : OpT) (ta tb : DTR) : DTE := fun ρ Q => ta ρ fun r ρ1 => tb ρ1 fun q ρ2 => derefW ρ2 r fun x => derefW ρ2 q fun y => f x y fun z => Q z ρ2
/-- an operator's rule by data -/
def OpD (P : Tb) (n : Nat) (X : Cx) (r : R2) (f : OpT) : Prop := ∀ x y dx dy F G ρ σ H Q0 Q, Tg G P → Rep (zOf X P) F G ρ σ H → Dq (zOf X P) G H x dx → Dq (zOf X P) G H y dy → f dx dy (fun z => Q0 z ρ) → Kn (zOf X P) F n Q0 ρ G σ Q → r x y H Q
theorem op_read {r : R2} {f : OpT} {ta tb : DTR} (o : OpD P n X r f) {σ : L2.St} {H : Hp} {Q : VK} (h : rdE (zOf X P) G0 n (dOp f ta tb) σ H Q) : tOp r (rdR (zOf X P) G0 n ta) (rdR (zOf X P) G0 n tb) σ H Q := by
  obtain ⟨F, ρ, G, Q0, s, R, h, k⟩ := h
  refine ⟨F, ρ, G, _, s, R, h, fun r1 ρ1 v1 G1 H1 h1 s1 a1 R1 d1 => ⟨F, ρ1, G1, _, s.trans s1, R1, h1, fun r2 ρ2 v2 G2 H2 h2 s2 a2 R2 d2 => ?_⟩⟩
  unfold derefW at h2
  split at h2
  · rename_i D1 e1
    split at h2
    · rename_i D2 e2
      exact o v1 v2 D1 D2 F G2 ρ2 σ H2 Q0 Q s2.2 R2 (dq_of R2 (d1.mono s2) e1) (dq_of R2 d2 e2) h2 (k.after (s1.trans s2) (a1.trans a2))
    · exact h2.elim
  · exact h2.elim
theorem de_op {op : Operator} {r : R2} {f : OpT} {ta tb : DTR} (ho : OpR X (binaryOp op) r) (o : OpD P n X r f) (ha : DR P G0 n X a ta) (hb : DR P G0 n X b tb) : DE P G0 n X (.BinOp a op b pos) (dOp f ta tb) := pe_weak (pe_op ho ha hb) fun _ _ _ h => op_read o h
theorem de_cmp {op : CmpOp} {r : R2} {f : OpT} {ta tb : DTR} (ho : OpR X (compareOp op) r) (o : OpD P n X r f) (ha : DR P G0 n X a ta) (hb : DR P G0 n X b tb) (hm : behindInMarks op b = false) : DE P G0 n X (.Compare a [op] [b] pos) (dOp f ta tb) := pe_weak (pe_cmpR ho ha hb hm) fun _ _ _ h => op_read o h
def toB (t : DTE) : DTT := fun ρ Q => t ρ fun D ρ' => match D with
  | .bool b => Q b ρ'
  | _ => False
theorem b_read {t : DTE} {σ : L2.St} {H : Hp} {Q : Bool → Hp → Prop} (h : rdT (zOf X P) G0 n (toB t) σ H Q) : rdE (zOf X P) G0 n t σ H fun x H1 => ∃ c, x = .bl c ∧ Q c H1 := by
  obtain ⟨F, ρ, G, Q0, s, R, h, k⟩ := h
  refine ⟨F, ρ, G, _, s, R, h, fun D ρ' v G' H' q s' al R' d => ?_⟩
  split at q
  · cases d
    exact ⟨_, rfl, k _ ρ' G' H' q s' al R'⟩
  · exact q.elim
theorem dt_cmp {op : CmpOp} {r : R2} {f : OpT} {ta tb : DTR} (ho : OpR X (compareOp op) r) (o : OpD P n X r f) (ha : DR P G0 n X a ta) (hb : DR P G0 n X b tb) (hm : behindInMarks op b = false) : DT P G0 n X (.Compare a [op] [b] pos) (toB (dOp f ta tb)) :=
  pt_weak (pt_cmpR ho ha hb hm) fun _ _ _ h => op_read o (b_read h)
theorem dt_val {t : DTE} (h : DE P G0 n X e t) (he : ∀ whole, isTrue e X.env whole = (do let v ← whole; standAt e.pos; holding [v] (truthy v)) := by intro _; rfl) : DT P G0 n X e (toB t) := pt_weak (pt_val h he) fun _ _ _ h => b_read h
def dAnd (t u : DTT) : DTT := fun ρ Q => t ρ fun b ρ1 => if b = true then u ρ1 Q else Q false ρ1
def dOr (t u : DTT) : DTT := fun ρ Q => t ρ fun b ρ1 => if b = true then Q true ρ1 else u ρ1 Q
def dNot (t : DTT) : DTT := fun ρ Q => t ρ fun b ρ1 => Q (!b) ρ1
theorem dw_and1 {t : DTT} (ha : DT P G0 n X a t) : DW P G0 n X (.BoolOp .And [a] pos) t := pw_and1 ha
theorem dw_or1 {t : DTT} (ha : DT P G0 n X a t) : DW P G0 n X (.BoolOp .Or [a] pos) t := pw_or1 ha
theorem dw_and {t u : DTT} (ha : DT P G0 n X a t) (hb : DW P G0 n X (.BoolOp .And (b :: es) pos) u) : DW P G0 n X (.BoolOp .And (a :: b :: es) pos) (dAnd t u) := pw_weak (pw_and ha hb) fun σ H Q ⟨F, ρ, G, Q0, s, R, h, k⟩ =>
  ⟨F, ρ, G, _, s, R, h, fun c ρ' G' H' q s' al R' => by
    cases c with
    | true => exact ⟨F, ρ', G', _, s.trans s', R', q, k.after s' al⟩
    | false => exact k _ ρ' G' H' q s' al R'⟩
theorem dw_or {t u : DTT} (ha : DT P G0 n X a t) (hb : DW P G0 n X (.BoolOp .Or (b :: es) pos) u) : DW P G0 n X (.BoolOp .Or (a :: b :: es) pos) (dOr t u) := pw_weak (pw_or ha hb) fun σ H Q ⟨F, ρ, G, Q0, s, R, h, k⟩ =>
  ⟨F, ρ, G, _, s, R, h, fun c ρ' G' H' q s' al R' => by
    cases c with
    | false => exact ⟨F, ρ', G', _, s.trans s', R', q, k.after s' al⟩
    | true => exact k _ ρ' G' H' q s' al R'⟩
theorem DW.dt {t : DTT} (h : DW P G0 n X e t) : DT P G0 n X e t := PW.pt h
theorem dt_not {t : DTT} (ha : DT P G0 n X a t) : DT P G0 n X (.UnaryOp .Not a pos) (dNot t) := pt_weak (pt_not ha) fun σ H Q ⟨F, ρ, G, Q0, s, R, h, k⟩ => ⟨F, ρ, G, _, s, R, h, fun c ρ' G' H' q s' al R' => k _ ρ' G' H' q s' al R'⟩
def ofB (t : DTT) : DTE := fun ρ Q => t ρ fun b ρ1 => Q (.bool b) ρ1
def dAndV (t u : DTE) : DTE := fun ρ Q => t ρ fun D ρ1 => match D with
  | .bool b => if b = true then u ρ1 Q else Q (.bool false) ρ1
  | _ => False
def dOrV (t u : DTE) : DTE := fun ρ Q => t ρ fun D ρ1 => match D with
  | .bool b => if b = true then Q (.bool true) ρ1 else u ρ1 Q
  | _ => False
theorem de_one {op : BoolOp} {t : DTE} (ha : DE P G0 n X a t) : DE P G0 n X (.BoolOp op [a] pos) t := pe_one ha
theorem de_and {t u : DTE} (ha : DE P G0 n X a t) (hb : DE P G0 n X (.BoolOp .And (b :: es) pos) u) : DE P G0 n X (.BoolOp .And (a :: b :: es) pos) (dAndV t u) := pe_weak (pe_and ha hb) fun σ H Q ⟨F, ρ, G, Q0, s, R, h, k⟩ =>
  ⟨F, ρ, G, _, s, R, h, fun D ρ' v G' H' q s' al R' d => by
    split at q
    · rename_i c
      cases d
      cases c with
      | true => exact ⟨_, rfl, F, ρ', G', _, s.trans s', R', q, k.after s' al⟩
      | false => exact ⟨_, rfl, k _ ρ' _ G' H' q s' al R' (.bl _)⟩
    · exact q.elim⟩
def dIf (c : DTT) (t u : DTE) : DTE := fun ρ Q => c ρ fun b ρ1 => if b = true then t ρ1 Q else u ρ1 Q
theorem de_if {tc : DTT} {t u : DTE} (hc : DT P G0 n X c tc) (ha : DE P G0 n X a t) (hb : DE P G0 n X b u) : DE P G0 n X (.IfExp c a b pos) (dIf tc t u) := pe_weak (pe_ifExp hc ha hb) fun σ H Q ⟨F, ρ, G, Q0, s, R, h, k⟩ =>
  ⟨F, ρ, G, _, s, R, h, fun c ρ' G' H' q s' al R' => by
    cases c with
    | true => exact ⟨F, ρ', G', _, s.trans s', R', q, k.after s' al⟩
    | false => exact ⟨F, ρ', G', _, s.trans s', R', q, k.after s' al⟩⟩
def dChain (f g : OpT) (ta tb tc : DTR) : DTE := fun ρ Q => ta ρ fun r ρ1 => tb ρ1 fun q ρ2 => derefW ρ2 r fun x => derefW ρ2 q fun y => f x y fun z => match z with
  | .bool b => if b = true then tc ρ2 fun w ρ3 => derefW ρ3 q fun y => derefW ρ3 w fun u => g y u fun z => Q z ρ3 else Q (.bool false) ρ2
  | _ => False
def tTupF (t : TA) : TE := fun σ H Q => t σ H fun xs H1 => xs.length ≤ sizeLine ∧ ∀ p ob, H1 p = none → ob.dict = none → Q (.ref p) (upd H1 p (.frz ob (.tup xs)))
theorem pe_tupF {t : TA} {k : Nat} (h : PA X es t) : PE X (.Tuple es k pos) (tTupF t) := by
  refine ⟨fun pins s σ H Q I hq => wpAny_Tuple_spliced (thn (h.run pos pins s σ H _ I hq) fun us s1 ⟨xs, H1, I1, r, z, q⟩ => ⟨by rw [← r.length]; exact z, ?_⟩)⟩
  have hf : H1 s1.heap.objs.size = none := I1.hok.fresh (Nat.le_refl _)
  have e := Heap.get?_push_size s1.heap (o := { cls := .type "tuple", data := .seq us.toArray }) rfl
  exact ⟨.ref s1.heap.objs.size, _, I1.laid (t' := s1.toks) (o := .frz { cls := .type "tuple", data := .seq us.toArray } (.tup xs)) (fun b u e => Heap.get?_push_of_some _ e) (Nat.le_refl _) ⟨e, z, us, r, _, e, rfl, _, rfl⟩, rfl, q _ _ hf rfl⟩
theorem da_nil : DA P G0 n X [] (fun ρ Q => Q [] ρ) := pa_weak pa_nil fun σ H Q ⟨F, ρ, G, Q0, s, R, h, k⟩ => k _ ρ _ G H h (Ex.refl s.2) Alike.refl R .nil
theorem da_cons {t : DTE} {u : DTA} (h : DE P G0 n X e t) (r : DA P G0 n X es u) (hs : starEach (e :: es) X.env = (false, eval e X.env) :: starEach es X.env := by rfl) : DA P G0 n X (e :: es) (fun ρ Q => t ρ fun D ρ1 => u ρ1 fun Ds ρ2 => Q (D :: Ds) ρ2) :=
  pa_weak (pa_cons h r hs) fun σ H Q ⟨F, ρ, G, Q0, s, R, h, k⟩ => ⟨F, ρ, G, _, s, R, h, fun D ρ' v G' H' q s' al R' d => ⟨F, ρ', G', _, s.trans s', R', q, fun Ds ρ2 vs G2 H2 q2 s2 al2 R2 d2 => k _ ρ2 _ G2 H2 q2 (s'.trans s2) (al.trans al2) R2 (.cons (Dw.mono s2 d) d2)⟩⟩
theorem de_tup {k : Nat} {t : DTA} (h : DA P G0 n X es t) : DE P G0 n X (.Tuple es k pos) (fun ρ Q => t ρ fun Ds ρ' => Ds.length ≤ sizeLine ∧ Q (.tuple Ds) ρ') := pe_weak (pe_tupF h) fun σ H Q ⟨F, ρ, G, Q0, s, R, h, k⟩ =>
  ⟨F, ρ, G, _, s, R, h, fun Ds ρ' vs G' H' ⟨l, q⟩ s' al R' d => ⟨by rw [dpa_len d]; exact l, fun p ob hp hd => (k.after s' al).new s'.2 R' hp (fun s2 => .tup (.inl (.inr ⟨ob, upd_same⟩)) (DwAll.mono s2 d)) q hd⟩⟩
/-- a built-in's call of one thing -/
def CaD (P : Tb) (n : Nat) (X : Cx) (r : List V → Hp → VK → Prop) (f : PyData → (PyData → Prop) → Prop) : Prop := ∀ x dx F G ρ σ H Q0 Q, Tg G P → Rep (zOf X P) F G ρ σ H → Dq (zOf X P) G H x dx → f dx (fun z => Q0 z ρ) → Kn (zOf X P) F n Q0 ρ G σ Q → r [x] H Q
def dUn (f : PyData → (PyData → Prop) → Prop) (t : DTR) : DTE := fun ρ Q => t ρ fun r ρ1 => derefW ρ1 r fun x => f x fun z => Q z ρ1
theorem ca_read {r : List V → Hp → VK → Prop} {f : PyData → (PyData → Prop) → Prop} {t : DTR} (o : CaD P n X r f) {σ : L2.St} {H : Hp} {Q : VK} (h : rdE (zOf X P) G0 n (dUn f t) σ H Q) : tCB r (tCons (rdR (zOf X P) G0 n t) tNil) σ H Q := by
  obtain ⟨F, ρ, G, Q0, s, R, h, k⟩ := h
  refine ⟨F, ρ, G, _, s, R, h, fun r1 ρ1 v1 G1 H1 h1 s1 a1 R1 d1 => ?_⟩
  unfold derefW at h1
  split at h1
  · rename_i D1 e1
    exact o v1 D1 F G1 ρ1 σ H1 Q0 Q s1.2 R1 (dq_of R1 d1 e1) h1 (k.after s1 a1)
  · exact h1.elim
theorem de_callB {id : String} {x : Str} {r : List V → Hp → VK → Prop} {f : PyData → (PyData → Prop) → Prop} {t : DTR} {p : Pos} (hc : CallR X (.builtin id) r) (o : CaD P n X r f) (hg : Gl X x) (hm : X.mg x = none) (hv : bootBuiltins x = some (.builtin id)) (ha : DR P G0 n X e t) (hn : x ≠ "__name__" := by decide) (hdb : (x == ("__debug__" : Str)) = false := by decide)
    (hs : starEach [e] X.env = (false, eval e X.env) :: starEach [] X.env := by rfl) (hpl : (backTo pos (starEach [] X.env)).any (·.1) = false := by rfl) : DE P G0 n X (.Call (.Name x p) [e] [] pos) (dUn f t) :=
  pe_weak (pe_callB hc hg hm hv (pa_cons ha pa_nil hs) hn hdb hs hpl) fun _ _ _ h => ca_read o h
theorem de_callTy {T : String} {x : Str} {r : List V → Hp → VK → Prop} {f : PyData → (PyData → Prop) → Prop} {t : DTR} {p : Pos} (hc : CallR X (.type T) r) (o : CaD P n X r f) (hg : Gl X x) (hm : X.mg x = none) (hv : bootBuiltins x = some (.type T)) (ha : DR P G0 n X e t) (hn : x ≠ "__name__" := by decide) (hdb : (x == ("__debug__" : Str)) = false := by decide)
    (hs : starEach [e] X.env = (false, eval e X.env) :: starEach [] X.env := by rfl) (hpl : (backTo pos (starEach [] X.env)).any (·.1) = false := by rfl) : DE P G0 n X (.Call (.Name x p) [e] [] pos) (dUn f t) :=
  pe_weak (pe_callTy hc hg hm hv (pa_cons ha pa_nil hs) hn hdb hs hpl) fun _ _ _ h => ca_read o h
end
end Dl
set_option Elab.async false
set_option linter.all false
set_option maxRecDepth 100000
set_option maxHeartbeats 4000000
namespace Dl
open PySem PySem.Spec PyProof.Rows L2 So Da
section
variable {X : Cx}
def rTupF (K : PySem.W.Frag) : List V → Hp → VK → Prop := fun xs H Q => ∃ p ys, xs = [.ref p] ∧ ((SqL K H p ys ∧ ∀ l ob, H l = none → ob.dict = none → Q (.ref l) (upd H l (.frz ob (.tup ys)))) ∨ (SqT K H p ys ∧ Q (.ref p) H))
theorem call_tupleF : CallR X (.type "tuple") (rTupF X.K) := by
  intro pins s σ H xs us Q I r h
  obtain ⟨p, ys, rfl, ⟨hq, q⟩ | h⟩ := h
  · obtain ⟨u, rfl, rx⟩ := vals1 r
    cases rx
    obtain ⟨its, rv, pl, hz⟩ := I.list hq
    have hl := rv.length
    refine call_tuple_list pl.isList (fun h' kp => ?_) (by rw [List.size_toArray]; omega)
    have I1 : Inv X pins σ H { s with heap := h' } := I.kept (t' := s.toks) kp
    have e := Heap.get?_push_size h' (o := { cls := .type "tuple", data := .seq its.toArray }) rfl
    exact ⟨.ref h'.objs.size, _, I1.laid (t' := s.toks) (o := .frz { cls := .type "tuple", data := .seq its.toArray } (.tup ys)) (fun b o e => Heap.get?_push_of_some _ e) (Nat.le_refl _) ⟨e, hz, its, rv, _, e, rfl, _, rfl⟩, rfl, q _ _ (I1.hok.fresh (Nat.le_refl _)) rfl⟩
  · exact call_tuple_of pins s σ H _ us Q I r ⟨p, ys, rfl, .inr h⟩
def rCatF (K : PySem.W.Frag) : R2 := fun x y H Q => ∃ a b xs ys, x = .ref a ∧ y = .ref b ∧ SqT K H a xs ∧ SqT K H b ys ∧ xs.length + ys.length ≤ sizeLine ∧
  (xs = [] → Q (.ref b) H) ∧ (xs ≠ [] → ys = [] → Q (.ref a) H) ∧ (xs ≠ [] → ys ≠ [] → ∀ p ob, H p = none → ob.dict = none → Q (.ref p) (upd H p (.frz ob (.tup (xs ++ ys)))))
theorem op_catF : OpR X (binaryOp .Add) (rCatF X.K) := by
  intro pins s σ H x y v u Q I rx ry h
  obtain ⟨a, b, xs, ys, rfl, rfl, ha, hb, hz, q0, q1, q2⟩ := h
  by_cases hx : xs = []
  · exact op_catA pins s σ H _ _ v u Q I rx ry ⟨a, b, xs, ys, rfl, rfl, ha, hb, hz, q0, q1, fun z => absurd hx z⟩
  by_cases hy : ys = []
  · exact op_catA pins s σ H _ _ v u Q I rx ry ⟨a, b, xs, ys, rfl, rfl, ha, hb, hz, q0, q1, fun _ z => absurd hy z⟩
  cases rx
  cases ry
  obtain ⟨its, r1, p1, _⟩ := I.tuple ha
  obtain ⟨its2, r2, p2, _⟩ := I.tuple hb
  refine HT.cat_tup p1 p2 (fun z => hx (r1.nil_iff.mp z)) (fun z => absurd (r2.nil_iff.mp z) hy) (fun _ => ?_) (by rw [← r1.length, ← r2.length]; exact hz)
  have e := Heap.get?_push_size s.heap (o := { cls := .type "tuple", data := .seq (its ++ its2).toArray }) rfl
  exact ⟨.ref s.heap.objs.size, _, I.laid (t' := s.toks) (o := .frz { cls := .type "tuple", data := .seq (its ++ its2).toArray } (.tup (xs ++ ys))) (fun b o e => Heap.get?_push_of_some _ e) (Nat.le_refl _) ⟨e, by rw [List.length_append]; exact hz, _, r1.append r2, _, e, rfl, _, rfl⟩, rfl, q2 hx hy _ _ (I.hok.fresh (Nat.le_refl _)) rfl⟩
def rSlF (K : PySem.W.Frag) : V → Option Int → Option Int → Hp → VK → Prop := fun x lo hi H Q => ∃ a xs, x = .ref a ∧ SqT K H a xs ∧
  (HT.sIx xs.length 0 lo = 0 ∧ HT.sIx xs.length xs.length hi = xs.length → Q (.ref a) H) ∧ (¬ (HT.sIx xs.length 0 lo = 0 ∧ HT.sIx xs.length xs.length hi = xs.length) → ∀ p ob, H p = none → ob.dict = none → Q (.ref p) (upd H p (.frz ob (.tup (cutV xs lo hi)))))
theorem sl_tupF : SlR X (rSlF X.K) := by
  intro pins s σ H x v vl vu lo hi sl Q I rx hs pl pu h
  obtain ⟨a, xs, rfl, hx, q1, q2⟩ := h
  by_cases hw : HT.sIx xs.length 0 lo = 0 ∧ HT.sIx xs.length xs.length hi = xs.length
  · exact sl_tupA pins s σ H _ v vl vu lo hi sl Q I rx hs pl pu ⟨a, xs, rfl, hx, q1, fun z => absurd hw z⟩
  · cases rx
    obtain ⟨its, r, ht, hz⟩ := I.tuple hx
    have hl : its.toArray.size = xs.length := by rw [List.size_toArray]; exact r.length.symm
    refine ⟨"tuple", _, PyProof.Rows.slot_tuple_getitem.lookup, ht.typeIs, HT.getItem_tuple_cut ht hs pl pu (by rw [hl]; exact hw) ?_ (by rw [hl]; exact hz)⟩
    rw [hl]
    have rr := (r.drop (HT.sIx xs.length 0 lo)).take (HT.sIx xs.length xs.length hi - HT.sIx xs.length 0 lo)
    refine ⟨.ref s.heap.objs.size, _, I.laid (t' := s.toks) (o := .frz _ (.tup (cutV xs lo hi))) (fun b o q => Heap.get?_push_of_some _ q) (Nat.le_refl _) ⟨Heap.get?_push_size _ rfl, Nat.le_trans (cutV_length xs lo hi) hz, _, rr, _, Heap.get?_push_size _ rfl, rfl, _, rfl⟩, rfl, q2 hw _ _ (I.hok.fresh (Nat.le_refl _)) rfl⟩
end
section
variable {K : Zw} {H : Hp}
theorem dpa_take : ∀ {xs : List V} {ds : List PyData} (n : Nat), DwAll K H xs ds → DwAll K H (xs.take n) (ds.take n)
  | _, _, 0, _ => by simpa using .nil
  | _, _, _ + 1, .nil => by simpa using .nil
  | _, _, n + 1, .cons a b => by simpa using .cons a (dpa_take n b)
theorem dpa_drop : ∀ {xs : List V} {ds : List PyData} (n : Nat), DwAll K H xs ds → DwAll K H (xs.drop n) (ds.drop n)
  | _, _, 0, h => h
  | _, _, _ + 1, .nil => .nil
  | _, _, n + 1, .cons _ b => by simpa using dpa_drop n b
theorem dpa_ati {xs : List V} {ds : List PyData} {i : Int} {d : PyData} (h : DwAll K H xs ds) (e : atI ds i = some d) : ∃ x, atI xs i = some x ∧ Dw K H x d := by
  unfold atI at e ⊢
  rw [dpa_len h]
  cases q : ixN ds.length i with
  | none => rw [q] at e; cases e
  | some j =>
    rw [q] at e
    exact dpa_at' h e
theorem dpa_ints : ∀ {xs : List V} {ns : List Int}, DwAll K H xs (ns.map .int) → xs = ns.map V.int
  | _, [], h => by cases h; rfl
  | _, n :: ns, h => by
    cases h with
    | cons a b =>
      cases a
      rw [dpa_ints b]
      rfl
theorem dpa_of_ints : ∀ {ns : List Int}, DwAll K H (ns.map V.int) (ns.map .int)
  | [] => .nil
  | _ :: _ => .cons (.int _) dpa_of_ints
theorem dpa_rep {v : V} {d : PyData} (h : Dw K H v d) : ∀ n : Nat, DwAll K H (List.replicate n v) (List.replicate n d)
  | 0 => .nil
  | n + 1 => .cons h (dpa_rep h n)
/-- None, a bool, an int, a text -/
def flatD : PyData → Bool
  | .none => true
  | .bool _ => true
  | .int _ => true
  | .str _ => true
  | _ => false
theorem flat_v {v : V} {d : PyData} (h : Dw K H v d) (f : flatD d = true) : flatV v = true := by cases h <;> first | rfl | exact nomatch f
theorem flat_eq {v u : V} {d e : PyData} (h : Dw K H v d) (h' : Dw K H u e) (f : flatD d = true) (f' : flatD e = true) : eqV v u = PyData.eqv d e := by
  cases h <;> cases h' <;> first | rfl | exact nomatch f | exact nomatch f'
theorem flat_in {v : V} {d : PyData} (h : Dw K H v d) (f : flatD d = true) : ∀ {xs : List V} {ds : List PyData}, DwAll K H xs ds → ds.all flatD = true → xs.all flatV = true ∧ inV v xs = ds.any fun z => PyData.eqv z d
  | _, _, .nil, _ => ⟨rfl, rfl⟩
  | _, _, .cons a b, g => by
    rw [List.all_cons, Bool.and_eq_true] at g
    obtain ⟨h1, h2⟩ := flat_in h f b g.2
    unfold inV at h2 ⊢
    rw [List.all_cons, List.any_cons, List.any_cons, flat_v a g.1, h1, flat_eq a h g.1 f, h2]
    exact ⟨rfl, rfl⟩
end
def cutD (xs : List PyData) (lo hi : Option Int) : List PyData := (xs.drop (HT.sIx xs.length 0 lo)).take (HT.sIx xs.length xs.length hi - HT.sIx xs.length 0 lo)
theorem dpa_cut {K : Zw} {H : Hp} {xs : List V} {ds : List PyData} (h : DwAll K H xs ds) (lo hi : Option Int) : DwAll K H (cutV xs lo hi) (cutD ds lo hi) := by
  unfold cutV cutD
  rw [dpa_len h]
  exact dpa_take _ (dpa_drop _ h)
def addD : OpT := fun x y Q => match x, y with
  | .int i, .int j => Q (.int (i + j))
  | .str i, .str j => i.length + j.length ≤ sizeLine ∧ Q (.str (i ++ j))
  | .tuple i, .tuple j => i.length + j.length ≤ sizeLine ∧ Q (.tuple (i ++ j))
  | .list i, .list j => i.length + j.length ≤ sizeLine ∧ Q (.list (i ++ j))
  | _, _ => False
def subD : OpT := fun x y Q => match x, y with
  | .int i, .int j => Q (.int (i - j))
  | _, _ => False
def mulD : OpT := fun x y Q => match x, y with
  | .int i, .int j => CMul i j ∧ Q (.int (i * j))
  | _, _ => False
def ltD : OpT := fun x y Q => match x, y with
  | .int i, .int j => Q (.bool (decide (i < j)))
  | .str i, .str j => Q (.bool (decide (i.cps.toList < j.cps.toList)))
  | _, _ => False
def leD : OpT := fun x y Q => match x, y with
  | .int i, .int j => Q (.bool (decide (i ≤ j)))
  | _, _ => False
def gtD : OpT := fun x y Q => match x, y with
  | .int i, .int j => Q (.bool (decide (j < i)))
  | _, _ => False
def geD : OpT := fun x y Q => match x, y with
  | .int i, .int j => Q (.bool (decide (j ≤ i)))
  | _, _ => False
theorem psh {D : PyData} (h : SeqAt.shaped D = true) : plain D = true := plain_of_lay (SeqAt.canLay_of_shaped h)
def eqD : OpT := fun x y Q => match x, y with
  | .int i, .int j => Q (.bool (decide (i = j)))
  | .str i, .str j => Q (.bool (decide (i = j)))
  | .bool i, .bool j => Q (.bool (decide (i = j)))
  | x, y => SeqAt.shaped x = true ∧ SeqAt.shaped y = true ∧ Q (.bool (PyData.eqv x y))
def neD : OpT := fun x y Q => match x, y with
  | .int i, .int j => Q (.bool (!decide (i = j)))
  | .str i, .str j => Q (.bool (!decide (i = j)))
  | .bool i, .bool j => Q (.bool (!decide (i = j)))
  | x, y => SeqAt.shaped x = true ∧ SeqAt.shaped y = true ∧ Q (.bool (!PyData.eqv x y))
def isND : PyData → Bool
  | .none => true
  | _ => false
def isD : OpT := fun x y Q => match y with
  | .none => Q (.bool (isND x))
  | _ => False
def notD : OpT := fun x y Q => match y with
  | .none => Q (.bool (!isND x))
  | _ => False
def inD (neg : Bool) : OpT := fun x y Q => match y with
  | .list ds => SeqAt.shaped x = true ∧ SeqAt.shaped (.list ds) = true ∧ Q (.bool (if neg = true then !ds.any (fun z => PyData.eqv z x) else ds.any fun z => PyData.eqv z x))
  | .tuple ds => flatD x = true ∧ ds.all flatD = true ∧ Q (.bool (if neg = true then !ds.any (fun z => PyData.eqv z x) else ds.any fun z => PyData.eqv z x))
  | _ => False
section
variable {P : Tb} {n : Nat} {X : Cx}
/-- list + list, whatever lists they are -/
def rCatL (K : PySem.W.Frag) : R2 := fun x y H Q => ∃ a b xs ys, x = .ref a ∧ y = .ref b ∧ SqL K H a xs ∧ SqL K H b ys ∧ xs.length + ys.length ≤ sizeLine ∧ ∀ p, H p = none → Q (.ref p) (upd H p (.lst (xs ++ ys)))
theorem op_catL : OpR X (binaryOp .Add) (rCatL X.K) := by
  intro pins s σ H x y v u Q I rx ry h
  obtain ⟨a, b, xs, ys, rfl, rfl, ha, hb, hz, q⟩ := h
  cases rx
  cases ry
  obtain ⟨vs, r1, ⟨⟨cls, dd, data, sl⟩, m, ho, hc, _, hd⟩, _⟩ := I.list ha
  obtain ⟨ws, r2, ⟨⟨cls2, dd2, data2, sl2⟩, m2, ho2, hc2, _, hd2⟩, _⟩ := I.list hb
  simp only at hc hd hc2 hd2
  subst hc hd hc2 hd2
  have e : vs.toArray ++ ws.toArray = (vs ++ ws).toArray := by simp
  have l1 := r1.length
  have l2 := r2.length
  refine concat_meets ⟨_, ho, rfl⟩ ⟨_, ho2, rfl⟩ noFill_list_add seq_list_add PySem.F.slot_list_add PySem.F.entry_list_add (PySem.F.args_list_add_2 _ _) (list_addW a b vs.toArray ws.toArray m m2 dd dd2 sl sl2 (by simpa [← l1, ← l2] using hz)) ⟨ho, ho2, ?_⟩
  rw [e]
  exact ⟨.ref _, _, I.lnew (t' := s.toks) (r1.append r2) (by rw [List.length_append]; exact hz), rfl, q _ I.fresh⟩
abbrev rAdd (K : PySem.W.Frag) : R2 := fun x y H Q => (∃ i j, x = .int i ∧ y = .int j ∧ Q (.int (i + j)) H) ∨ (∃ i j, x = .str i ∧ y = .str j ∧ i.length + j.length ≤ sizeLine ∧ Q (.str (i ++ j)) H) ∨ rCatF K x y H Q ∨ rCatL K x y H Q
theorem op_addA : OpR X (binaryOp .Add) (rAdd X.K) := OpR.or op_add (OpR.or op_add_str (OpR.or op_catF op_catL))
theorem od_add : OpD P n X (rAdd X.K) addD := fun x y dx dy F G ρ σ H Q0 Q t R h1 h2 f k => by
  unfold addD at f
  split at f
  · cases h1.int
    cases h2.int
    exact .inl ⟨_, _, rfl, rfl, k.here t R (.int _) f⟩
  · cases h1.str
    cases h2.str
    exact .inr (.inl ⟨_, _, rfl, rfl, f.1, k.here t R (.str _) f.2⟩)
  · obtain ⟨a, xs, rfl, ha, da, da'⟩ := h1.tup R
    obtain ⟨b, ys, rfl, hb, db, db'⟩ := h2.tup R
    refine .inr (.inr (.inl ⟨a, b, xs, ys, rfl, rfl, ha, hb, by rw [dpa_len da, dpa_len db]; exact f.1, fun z => ?_, fun _ z => ?_, fun _ _ p ob hp hd => ?_⟩))
    · subst z
      cases da
      exact k.here t R db' f.2
    · subst z
      cases db
      exact k.here t R da' (by rw [List.append_nil] at f; exact f.2)
    · exact k.new t R hp (fun s => .tup (.inl (.inr ⟨ob, upd_same⟩)) (dpa_app (DwAll.mono s da) (DwAll.mono s db))) f.2 hd
  · obtain ⟨a, xs, rfl, ha, da⟩ := h1.list R
    obtain ⟨b, ys, rfl, hb, db⟩ := h2.list R
    exact .inr (.inr (.inr ⟨a, b, xs, ys, rfl, rfl, ha, hb, by rw [dpa_len da, dpa_len db]; exact f.1, fun p hp => k.new t R hp (fun s => .lst (.inl (.inl upd_same)) (dpa_app (DwAll.mono s da) (DwAll.mono s db))) f.2⟩))
  · exact f.elim
theorem od_sub : OpD P n X (rI0 fun i j => .int (i - j)) subD := fun x y dx dy F G ρ σ H Q0 Q t R h1 h2 f k => by
  unfold subD at f
  split at f
  · cases h1.int
    cases h2.int
    exact ⟨_, _, rfl, rfl, k.here t R (.int _) f⟩
  · exact f.elim
abbrev rLtA : R2 := fun x y H Q => (∃ i j, x = .int i ∧ y = .int j ∧ Q (.bl (decide (i < j))) H) ∨ (∃ i j, x = .str i ∧ y = .str j ∧ Q (.bl (decide (i.cps.toList < j.cps.toList))) H)
theorem op_ltA : OpR X (compareOp .Lt) rLtA := OpR.or op_lt op_lt_str
theorem od_lt : OpD P n X rLtA ltD := fun x y dx dy F G ρ σ H Q0 Q t R h1 h2 f k => by
  unfold ltD at f
  split at f
  · cases h1.int
    cases h2.int
    exact .inl ⟨_, _, rfl, rfl, k.here t R (.bl _) f⟩
  · cases h1.str
    cases h2.str
    exact .inr ⟨_, _, rfl, rfl, k.here t R (.bl _) f⟩
  · exact f.elim
theorem od_le : OpD P n X (rI0 fun i j => .bl (decide (i ≤ j))) leD := fun x y dx dy F G ρ σ H Q0 Q t R h1 h2 f k => by
  unfold leD at f
  split at f
  · cases h1.int
    cases h2.int
    exact ⟨_, _, rfl, rfl, k.here t R (.bl _) f⟩
  · exact f.elim
theorem od_gt : OpD P n X (rI0 fun i j => .bl (decide (j < i))) gtD := fun x y dx dy F G ρ σ H Q0 Q t R h1 h2 f k => by
  unfold gtD at f
  split at f
  · cases h1.int
    cases h2.int
    exact ⟨_, _, rfl, rfl, k.here t R (.bl _) f⟩
  · exact f.elim
abbrev rEqA (K : PySem.W.Frag) : R2 := fun x y H Q => rEq x y H Q ∨ rEqD K x y H Q
abbrev rNeA (K : PySem.W.Frag) : R2 := fun x y H Q => rNe x y H Q ∨ rNeD K x y H Q
theorem op_eqA (hu : X.A.units + 64 < cLine) : OpR X (compareOp .Eq) (rEqA X.K) := OpR.or op_eq (op_eqD hu)
theorem op_neA (hu : X.A.units + 64 < cLine) : OpR X (compareOp .NotEq) (rNeA X.K) := OpR.or op_ne (op_neD hu)
theorem dI {i j : Int} : decide (V.int i = V.int j) = decide (i = j) := by
  by_cases e : i = j
  · rw [decide_eq_true e, decide_eq_true (congrArg V.int e)]
  · rw [decide_eq_false e, decide_eq_false (fun q => e (V.int.inj q))]
theorem dS {i j : Str} : decide (V.str i = V.str j) = decide (i = j) := by
  by_cases e : i = j
  · rw [decide_eq_true e, decide_eq_true (congrArg V.str e)]
  · rw [decide_eq_false e, decide_eq_false (fun q => e (V.str.inj q))]
theorem dB {i j : Bool} : decide (V.bl i = V.bl j) = decide (i = j) := by cases i <;> cases j <;> rfl
theorem od_eq : OpD P n X (rEqA X.K) eqD := fun x y dx dy F G ρ σ H Q0 Q t R h1 h2 f k => by
  unfold eqD at f
  split at f
  · cases h1.int
    cases h2.int
    exact .inl ⟨rfl, by rw [dI]; exact k.here t R (.bl _) f⟩
  · cases h1.str
    cases h2.str
    exact .inl ⟨rfl, by rw [dS]; exact k.here t R (.bl _) f⟩
  · cases h1.bl
    cases h2.bl
    exact .inl ⟨rfl, by rw [dB]; exact k.here t R (.bl _) f⟩
  · exact .inr ⟨_, _, Dw.dp (psh f.1) (h1.dp R), Dw.dp (psh f.2.1) (h2.dp R), f.1, f.2.1, k.here t R (.bl _) f.2.2⟩
theorem od_ne : OpD P n X (rNeA X.K) neD := fun x y dx dy F G ρ σ H Q0 Q t R h1 h2 f k => by
  unfold neD at f
  split at f
  · cases h1.int
    cases h2.int
    exact .inl ⟨rfl, by rw [dI]; exact k.here t R (.bl _) f⟩
  · cases h1.str
    cases h2.str
    exact .inl ⟨rfl, by rw [dS]; exact k.here t R (.bl _) f⟩
  · cases h1.bl
    cases h2.bl
    exact .inl ⟨rfl, by rw [dB]; exact k.here t R (.bl _) f⟩
  · exact .inr ⟨_, _, Dw.dp (psh f.1) (h1.dp R), Dw.dp (psh f.2.1) (h2.dp R), f.1, f.2.1, k.here t R (.bl _) f.2.2⟩
theorem non_v {K : Zw} {H : Hp} {v : V} {D : PyData} (h : Dw K H v D) : decide (v = .non) = isND D := by cases h <;> rfl
theorem od_is : OpD P n X (fun x y H Q => y = .non ∧ Q (.bl (decide (x = .non))) H) isD := fun x y dx dy F G ρ σ H Q0 Q t R h1 h2 f k => by
  unfold isD at f
  split at f
  · refine ⟨?_, ?_⟩
    · cases h2.dp R
      rfl
    · rw [non_v (h1.dp R)]
      exact k.here t R (.bl _) f
  · exact f.elim
theorem od_isnot : OpD P n X (fun x y H Q => y = .non ∧ Q (.bl (!decide (x = .non))) H) notD := fun x y dx dy F G ρ σ H Q0 Q t R h1 h2 f k => by
  unfold notD at f
  split at f
  · refine ⟨?_, ?_⟩
    · cases h2.dp R
      rfl
    · rw [non_v (h1.dp R)]
      exact k.here t R (.bl _) f
  · exact f.elim
abbrev rInA (K : PySem.W.Frag) : R2 := fun x y H Q => rInD K x y H Q ∨ rIn K false x y H Q
abbrev rNotInA (K : PySem.W.Frag) : R2 := fun x y H Q => rNotInD K x y H Q ∨ rIn K true x y H Q
theorem op_inA (hu : X.A.units + 65 < cLine) : OpR X (compareOp .In) (rInA X.K) := OpR.or (op_inD hu) op_in_seq
theorem op_notInA (hu : X.A.units + 65 < cLine) : OpR X (compareOp .NotIn) (rNotInA X.K) := OpR.or (op_notInD hu) op_notIn_seq
theorem od_in : OpD P n X (rInA X.K) (inD false) := fun x y dx dy F G ρ σ H Q0 Q t R h1 h2 f k => by
  unfold inD at f
  split at f
  · exact .inl ⟨_, _, Dw.dp (psh f.1) (h1.dp R), Dw.dp (psh f.2.1) (h2.dp R), f.1, f.2.1, k.here t R (.bl _) f.2.2⟩
  · obtain ⟨a, xs, rfl, ha, da, _⟩ := h2.tup R
    have d1 := h1.dp R
    obtain ⟨g1, g2⟩ := flat_in d1 f.1 (DwAll.mono (R.sm t) da) f.2.1
    refine .inr ⟨a, xs, rfl, .inr ha, flat_v d1 f.1, g1, ?_⟩
    rw [g2]
    exact k.here t R (.bl _) f.2.2
  · exact f.elim
theorem od_notin : OpD P n X (rNotInA X.K) (inD true) := fun x y dx dy F G ρ σ H Q0 Q t R h1 h2 f k => by
  unfold inD at f
  split at f
  · exact .inl ⟨_, _, Dw.dp (psh f.1) (h1.dp R), Dw.dp (psh f.2.1) (h2.dp R), f.1, f.2.1, k.here t R (.bl _) f.2.2⟩
  · obtain ⟨a, xs, rfl, ha, da, _⟩ := h2.tup R
    have d1 := h1.dp R
    obtain ⟨g1, g2⟩ := flat_in d1 f.1 (DwAll.mono (R.sm t) da) f.2.1
    refine .inr ⟨a, xs, rfl, .inr ha, flat_v d1 f.1, g1, ?_⟩
    rw [g2]
    exact k.here t R (.bl _) f.2.2
  · exact f.elim
end
def negD : PyData → (PyData → Prop) → Prop := fun x Q => match x with
  | .int i => Q (.int (-i))
  | _ => False
def ixD : OpT := fun x y Q => match x, y with
  | .list ds, .int i => match atI ds i with
    | some d => Q d
    | none => False
  | .tuple ds, .int i => match atI ds i with
    | some d => Q d
    | none => False
  | .str z, .int i => z.length ≤ sizeLine ∧ match atI z.cps.toList i with
    | some c => Q (.str ⟨#[c]⟩)
    | none => False
  | _, _ => False
def lenD : PyData → (PyData → Prop) → Prop := fun x Q => match x with
  | .list ds => Q (.int (ds.length : Nat))
  | .tuple ds => Q (.int (ds.length : Nat))
  | .str z => z.length ≤ sizeLine ∧ Q (.int (z.length : Nat))
  | _ => False
def listD : PyData → (PyData → Prop) → Prop := fun x Q => match x with
  | .list ds => Q (.list ds)
  | .tuple ds => Q (.list ds)
  | _ => False
def tupleD : PyData → (PyData → Prop) → Prop := fun x Q => match x with
  | .list ds => Q (.tuple ds)
  | .tuple ds => Q (.tuple ds)
  | _ => False
section
variable {P : Tb} {G0 : Hp} {n : Nat} {X : Cx} {a b e : Expr} {pos : Pos}
theorem de_neg {t : DTE} (ha : DE P G0 n X a t) : DE P G0 n X (.UnaryOp .USub a pos) (fun ρ Q => t ρ fun D ρ' => negD D fun z => Q z ρ') := pe_weak (pe_un un_neg ha) fun σ H Q ⟨F, ρ, G, Q0, s, R, h, k⟩ =>
  ⟨F, ρ, G, _, s, R, h, fun D ρ' v G' H' q s' al R' d => by
    unfold negD at q
    split at q
    · cases d
      exact ⟨_, rfl, k _ ρ' _ G' H' q s' al R' (.int _)⟩
    · exact q.elim⟩
abbrev rIxA (K : PySem.W.Frag) : R2 := fun x y H Q => rIxL K x y H Q ∨ rIxT K x y H Q ∨ rIxS x y H Q
theorem ix_A : IxR X (rIxA X.K) := IxR.or ix_list (IxR.or ix_tup ix_str)
theorem od_ix : OpD P n X (rIxA X.K) ixD := fun x y dx dy F G ρ σ H Q0 Q t R h1 h2 f k => by
  unfold ixD at f
  split at f
  · obtain ⟨a, xs, rfl, ha, da⟩ := h1.list R
    cases h2.int
    split at f
    · rename_i d q
      obtain ⟨x, q1, q2⟩ := dpa_ati da q
      exact .inl ⟨a, xs, _, x, rfl, rfl, ha, q1, k.here t R q2 f⟩
    · exact f.elim
  · obtain ⟨a, xs, rfl, ha, da, _⟩ := h1.tup R
    cases h2.int
    split at f
    · rename_i d q
      obtain ⟨x, q1, q2⟩ := dpa_ati da q
      exact .inr (.inl ⟨a, xs, _, x, rfl, rfl, ha, q1, k.here t R q2 f⟩)
    · exact f.elim
  · cases h1.str
    cases h2.int
    obtain ⟨l, f⟩ := f
    split at f
    · rename_i d q
      exact .inr (.inr ⟨_, _, _, rfl, rfl, l, q, k.here t R (.str _) f⟩)
    · exact f.elim
  · exact f.elim
theorem de_ix {ta tb : DTR} (ha : DR P G0 n X a ta) (hb : DR P G0 n X b tb) (hs : PlainIx b := by exact fun _ _ => rfl) : DE P G0 n X (.Subscript a b pos) (dOp ixD ta tb) := pe_weak (pe_ix ix_A ha hb hs) fun _ _ _ h => op_read od_ix h
abbrev rLenA (K : PySem.W.Frag) : List V → Hp → VK → Prop := fun xs H Q => (∃ p ys, xs = [.ref p] ∧ (SqL K H p ys ∨ SqT K H p ys) ∧ Q (.int ys.length) H) ∨ (∃ z, xs = [.str z] ∧ z.length ≤ sizeLine ∧ Q (.int z.length) H)
theorem call_lenA : CallR X (.builtin "len") (rLenA X.K) := CallR.or call_len_seq call_len_str
theorem cd_len : CaD P n X (rLenA X.K) lenD := fun x dx F G ρ σ H Q0 Q t R h f k => by
  unfold lenD at f
  split at f
  · obtain ⟨a, xs, rfl, ha, da⟩ := h.list R
    exact .inl ⟨a, xs, rfl, .inl ha, by rw [dpa_len da]; exact k.here t R (.int _) f⟩
  · obtain ⟨a, xs, rfl, ha, da, _⟩ := h.tup R
    exact .inl ⟨a, xs, rfl, .inr ha, by rw [dpa_len da]; exact k.here t R (.int _) f⟩
  · cases h.str
    exact .inr ⟨_, rfl, f.1, k.here t R (.int _) f.2⟩
  · exact f.elim
theorem cd_tuple : CaD P n X (rTupF X.K) tupleD := fun x dx F G ρ σ H Q0 Q t R h f k => by
  unfold tupleD at f
  split at f
  · obtain ⟨a, xs, rfl, ha, da⟩ := h.list R
    exact ⟨a, xs, rfl, .inl ⟨ha, fun l ob hl hd => k.new t R hl (fun s => .tup (.inl (.inr ⟨ob, upd_same⟩)) (DwAll.mono s da)) f hd⟩⟩
  · obtain ⟨a, xs, rfl, ha, da, d⟩ := h.tup R
    exact ⟨a, xs, rfl, .inr ⟨ha, k.here t R d f⟩⟩
  · exact f.elim
/-- isinstance, of any data -/
def isiD (kf : PyData → Bool) (D : PyData) (Q : PyData → Prop) : Prop := Q (.bool (kf D))
theorem de_isi {T : String} {kf : PyData → Bool} {t : DTR} {p p2 : Pos} (hk : KitF T kf) (hg : Gl X "isinstance") (hm : X.mg "isinstance" = none) {x : Str} (hg2 : Gl X x) (hm2 : X.mg x = none) (hv : bootBuiltins x = some (.type T)) (hn : x ≠ "__name__" := by decide) (hd : (x == ("__debug__" : Str)) = false := by decide)
    (ha : DR P G0 n X a t) (hs : starEach [a, .Name x p2] X.env = (false, eval a X.env) :: starEach [.Name x p2] X.env := by rfl) (hs2 : starEach [.Name x p2] X.env = (false, eval (.Name x p2) X.env) :: starEach [] X.env := by rfl) (hpl : (backTo pos (starEach [.Name x p2] X.env)).any (·.1) = false := by rfl) :
    DE P G0 n X (.Call (.Name "isinstance" p) [a, .Name x p2] [] pos) (dUn (isiD kf) t) :=
  pe_weak (pe_callB call_isY hg hm (by decide +kernel) (pa_cons ha (pa_cons (pe_bltn (v := .ty T) hg2 hm2 hv rfl hn hd) pa_nil hs2) hs) (by decide) (by decide) hs hpl) fun σ H Q ⟨F, ρ, G, Q0, s, R, h, k⟩ =>
    ⟨F, ρ, G, _, s, R, h, fun r1 ρ1 v1 G1 H1 h1 s1 a1 R1 d1 => by
      unfold derefW at h1
      split at h1
      · rename_i D1 e1
        have d := (dq_of R1 d1 e1).dp R1
        obtain ⟨t, ty, e⟩ := tyAll hk d
        exact ⟨_, _, _, _, _, rfl, .ty _, ty, e, (k.after s1 a1).here s1.2 R1 (.bl _) h1⟩
      · exact h1.elim⟩
theorem de_isiSq {t : DTR} {p p2 p3 p4 : Pos} {j : Nat} (hg : Gl X "isinstance") (hm : X.mg "isinstance" = none) (hg2 : Gl X "list") (hm2 : X.mg "list" = none) (hg3 : Gl X "tuple") (hm3 : X.mg "tuple" = none)
    (ha : DR P G0 n X a t) (hs : starEach [a, .Tuple [.Name "list" p2, .Name "tuple" p3] j p4] X.env = (false, eval a X.env) :: starEach [.Tuple [.Name "list" p2, .Name "tuple" p3] j p4] X.env := by rfl)
    (hs2 : starEach [.Tuple [.Name "list" p2, .Name "tuple" p3] j p4] X.env = (false, eval (.Tuple [.Name "list" p2, .Name "tuple" p3] j p4) X.env) :: starEach [] X.env := by rfl)
    (hs3 : starEach [.Name "list" p2, .Name "tuple" p3] X.env = (false, eval (.Name "list" p2) X.env) :: starEach [.Name "tuple" p3] X.env := by rfl) (hs4 : starEach [.Name "tuple" p3] X.env = (false, eval (.Name "tuple" p3) X.env) :: starEach [] X.env := by rfl)
    (hpl : (backTo pos (starEach [.Tuple [.Name "list" p2, .Name "tuple" p3] j p4] X.env)).any (·.1) = false := by rfl) :
    DE P G0 n X (.Call (.Name "isinstance" p) [a, .Tuple [.Name "list" p2, .Name "tuple" p3] j p4] [] pos) (dUn (isiD isSq) t) :=
  pe_weak (pe_callB call_isYT hg hm (by decide +kernel) (pa_cons ha (pa_cons (pe_tup (pa_cons (pe_bltn (v := .ty "list") hg2 hm2 (by decide +kernel) rfl) (pa_cons (pe_bltn (v := .ty "tuple") hg3 hm3 (by decide +kernel) rfl) pa_nil hs4) hs3)) pa_nil hs2) hs) (by decide) (by decide) hs hpl) fun σ H Q ⟨F, ρ, G, Q0, s, R, h, k⟩ =>
    ⟨F, ρ, G, _, s, R, h, fun r1 ρ1 v1 G1 H1 h1 s1 a1 R1 d1 => by
      unfold derefW at h1
      split at h1
      · rename_i D1 e1
        refine ⟨by show 2 ≤ sizeLine; decide, fun q hq => ?_⟩
        have d := (dq_of R1 d1 e1).dp R1
        obtain ⟨gq, R2⟩ := R1.new (o := .tup [.ty "list", .ty "tuple"]) s1.2 hq rfl
        have s2 := Ex.new s1.2 gq (o := .tup [.ty "list", .ty "tuple"])
        have d2 : Dw (zOf X P) (upd H1 q (.tup [.ty "list", .ty "tuple"])) v1 D1 := Da.Dw.xt (fun b u e => by rw [upd_ne (ne_of_none e hq)]; exact e) d
        obtain ⟨t, ty, e⟩ := tySeq d2
        exact ⟨_, q, _, _, _, _, rfl, upd_same, .cons (.ty _) (.cons (.ty _) .nil), ty, e, ((k.after s1 a1).after s2 Alike.refl).here s2.2 R2 (.bl _) h1⟩
      · exact h1.elim⟩
abbrev DTO := Sto → (Option Int → Sto → Prop) → Prop
def KnO (K : Zw) (F : List (Addr × HO)) (n : Nat) (Q0 : Option Int → Sto → Prop) (ρ : Sto) (G : Hp) (σ : L2.St) (Q : Option Int → Hp → Prop) : Prop :=
  ∀ o ρ' G' H', Q0 o ρ' → Ex K.T G G' → Alike n ρ ρ' → Rep K F G' ρ' σ H' → Q o H'
def rdO (K : Zw) (G0 : Hp) (n : Nat) (t : DTO) : TO := fun σ H Q => ∃ F ρ G Q0, Ex K.T G0 G ∧ Rep K F G ρ σ H ∧ t ρ Q0 ∧ KnO K F n Q0 ρ G σ Q
def DO (P : Tb) (G0 : Hp) (n : Nat) (X : Cx) (e : Option Expr) (t : DTO) : Prop := PO X e (rdO (zOf X P) G0 n t)
theorem po_weak {X : Cx} {e : Option Expr} {t t' : TO} (h : PO X e t) (i : ∀ σ H Q, t' σ H Q → t σ H Q) : PO X e t' := ⟨fun pins s σ H Q I q => h.run pins s σ H Q I (i σ H Q q)⟩
theorem do_none : DO P G0 n X none (fun ρ Q => Q none ρ) := po_weak po_none fun σ H Q ⟨F, ρ, G, Q0, s, R, h, k⟩ => k _ ρ G H h (Ex.refl s.2) Alike.refl R
theorem do_some {t : DTE} (h : DE P G0 n X e t) : DO P G0 n X (some e) (fun ρ Q => t ρ fun D ρ' => match D with
  | .int i => Q (some i) ρ'
  | _ => False) := po_weak (po_some h) fun σ H Q ⟨F, ρ, G, Q0, s, R, h, k⟩ => ⟨F, ρ, G, _, s, R, h, fun D ρ' v G' H' q s' al R' d => by
    split at q
    · cases d
      exact ⟨_, rfl, k _ ρ' G' H' q s' al R'⟩
    · exact q.elim⟩
def slD (x : PyData) (lo hi : Option Int) (Q : PyData → Prop) : Prop := match x with
  | .list ds => Q (.list (cutD ds lo hi))
  | .tuple ds => Q (.tuple (cutD ds lo hi))
  | _ => False
abbrev rSlAll (K : PySem.W.Frag) : V → Option Int → Option Int → Hp → VK → Prop := fun x lo hi H Q => rSlL K x lo hi H Q ∨ rSlF K x lo hi H Q
theorem sl_all : SlR X (rSlAll X.K) := SlR.or sl_list sl_tupF
theorem de_slice {lo hi : Option Expr} {p2 : Pos} {t : DTR} {tl th : DTO} (ha : DR P G0 n X a t) (hl : DO P G0 n X lo tl) (hh : DO P G0 n X hi th) : DE P G0 n X (.Subscript a (.Slice lo hi none p2) pos)
    (fun ρ Q => t ρ fun r ρ1 => tl ρ1 fun l ρ2 => th ρ2 fun u ρ3 => derefW ρ3 r fun x => slD x l u fun z => Q z ρ3) := pe_weak (pe_slice sl_all ha hl hh) fun σ H Q ⟨F, ρ, G, Q0, s, R, h, k⟩ =>
  ⟨F, ρ, G, _, s, R, h, fun r1 ρ1 v1 G1 H1 h1 s1 a1 R1 d1 => ⟨F, ρ1, G1, _, s.trans s1, R1, h1, fun l ρ2 G2 H2 h2 s2 a2 R2 => ⟨F, ρ2, G2, _, (s.trans s1).trans s2, R2, h2, fun u ρ3 G3 H3 h3 s3 a3 R3 => by
    unfold derefW at h3
    split at h3
    · rename_i D e
      have dq := dq_of R3 (d1.mono (s2.trans s3)) e
      have k' := k.after ((s1.trans s2).trans s3) ((a1.trans a2).trans a3)
      unfold slD at h3
      split at h3
      · obtain ⟨a, xs, rfl, ha, da⟩ := dq.list R3
        exact .inl ⟨a, xs, rfl, ha, fun p hp => k'.new s3.2 R3 hp (fun s4 => .lst (.inl (.inl upd_same)) (dpa_cut (DwAll.mono s4 da) l u)) h3⟩
      · rename_i ds
        obtain ⟨a, xs, rfl, ha, da, d⟩ := dq.tup R3
        refine .inr ⟨a, xs, rfl, ha, fun z => ?_, fun z p ob hp hd => k'.new s3.2 R3 hp (fun s4 => .tup (.inl (.inr ⟨ob, upd_same⟩)) (dpa_cut (DwAll.mono s4 da) l u)) h3 hd⟩
        have : cutD ds l u = ds := by
          unfold cutD
          rw [← dpa_len da, z.1, z.2, List.drop_zero, dpa_len da, Nat.sub_zero, List.take_length]
        rw [this] at h3
        exact k'.here s3.2 R3 d h3
      · exact h3.elim
    · exact h3.elim⟩⟩⟩
end
end Dl
set_option Elab.async false
set_option linter.all false
set_option maxRecDepth 100000
set_option maxHeartbeats 4000000
namespace SoRv
open PySem PySem.Spec PyProof.Rows L2 RT
theorem no_len : typeLookup (.type "reversed") "__len__" = pure none := by rw [typeLookup_type, builtinLookup_eq_fast]; kernel_rfl
theorem has_hint : typeLookup (.type "reversed") "__length_hint__" = pure (some (.builtin "reversed.__length_hint__")) := by rw [typeLookup_type, builtinLookup_eq_fast]; kernel_rfl
theorem slot_hint : Slot "reversed" "__length_hint__" "reversed.__length_hint__" :=
  .of (owner := "reversed") (n := "__length_hint__") (by rw [typeLookup_type, builtinLookup_eq_fast]; kernel_rfl) (by decide +kernel) (by decide +kernel) (by decide +kernel)
    (by first | exact .inl (by decide +kernel) | exact .inr (by decide +kernel)) (by rw [isSubtype_type]; kernel_rfl)
theorem entry_hint : entryFor table "reversed.__length_hint__" = some Builtin.«reversed.__length_hint__» := entryFor_of_tree (by kernel_rfl)
theorem args_hint (a : Value) : argsOk "reversed.__length_hint__" ⟨[a], []⟩ := by
  unfold argsOk
  rw [signature?_of (id := "reversed.__length_hint__") (n := ['_', '_', 't', 'n', 'i', 'h', '_', 'h', 't', 'g', 'n', 'e', 'l', '_', '_']) (o := ['d', 'e', 's', 'r', 'e', 'v', 'e', 'r']) (by kernel_rfl) owner_rt]
  kernel_rfl
theorem type_hint : typeOf (.builtin "reversed.__length_hint__") = pure (.type "method_descriptor") := by kernel_rfl
section
variable {prog : Program} {w : World} {A : Around} {E : Value → Shared → Prop} {s : Shared}
theorem walks_rt (hh : A.handled = none) (I t : Addr) (hne : t ≠ I) (items : Array Value) (hz : items.size ≤ sizeLine) :
    Walks prog w A I [I, t] [I] items.size (fun i v => items[items.size - 1 - i]? = some v) (fun i h => i ≤ items.size ∧ IsRt h I t ((items.size : Int) - 1 - (i : Int)) ∧ IsTup h t items) where
  sub := fun b hb => by simp at hb; simp [hb]
  frame := fun i h h' x hk => ⟨x.1, x.2.1.at fun o e => hk I (by simp) o e, by
    obtain ⟨o, ho, r⟩ := x.2.2
    exact ⟨o, hk t (by simp) o ho, r⟩⟩
  item := fun i s Q E hi x hQ => by
    obtain ⟨x1, hit, ht⟩ := x
    have e : (items.size : Int) - 1 - (i : Int) = ((items.size - 1 - i : Nat) : Int) := by omega
    rw [e] at hit
    have hx : items[items.size - 1 - i]? = some (items[items.size - 1 - i]'(by omega)) := Array.getElem?_eq_getElem (by omega)
    refine next_rt_item hit ht hx hz fun h' hit' hs' => ?_
    have e2 : ((items.size - 1 - i : Nat) : Int) - 1 = (items.size : Int) - 1 - ((i + 1 : Nat) : Int) := by omega
    rw [e2] at hit'
    refine hQ _ h' (s.toks + 1) hx ⟨hi, hit', ?_⟩ fun b o hb eo => hs'.extBut b o (fun h => hb (by simp [h])) eo
    obtain ⟨o, ho, r⟩ := ht
    exact ⟨o, (hs'.2 t hne).trans ho, r⟩
  done := fun s Q E x hQ => by
    have e : (items.size : Int) - 1 - (items.size : Int) = -1 := by omega
    have hit := x.2.1
    rw [e] at hit
    exact next_rt_end hh hit fun h' he' => hQ h' s.toks fun b o hb eo => he' b o (fun h => hb (by simp [h])) eo
  self := fun _ _ _ _ x hQ => iter_rt x.2.1 hQ
theorem hint_rt {it t : Addr} {items : Array Value} {Q : Value → Shared → Prop} (hit : IsRt s.heap it t ((items.size : Int) - 1)) (ht : IsTup s.heap t items) (hn : items.size ≤ sizeLine)
    (hQ : ∀ u tk, Q (.int (items.size : Nat) u) { s with toks := tk }) : wpAny (model prog w) A (call (.builtin "reversed.__length_hint__") [.ref it]) Q E s := by
  refine wpAny_call_entry slot_hint hit.typeIs entry_hint ?_ (args_hint _)
  obtain ⟨o, ho, hc, hd⟩ := id hit
  unfold Builtin.«reversed.__length_hint__»
  refine wpAny_bind (wpAny_of_eq (a := Value.ref it) rfl ?_)
  try dsimp only
  refine wpAny_bind (wpAny_field ho hd (x := .ref t) rfl ?_)
  try dsimp only
  rw [if_neg (by simp)]
  try dsimp only
  refine wpAny_bind (PyProof.Rows.len_tuple ht (by rw [sizeLine_eq] at hn; omega) ?_)
  try dsimp only
  refine wpAny_bind (wpAny_of_eq (a := some ((items.size : Nat) : Int)) rfl ?_)
  try dsimp only
  refine wpAny_bind (wpAny_field (s := { s with toks := s.toks + 1 + 1 }) ho hd (x := rawInt ((items.size : Int) - 1)) rfl ?_)
  try dsimp only
  show wpAny _ _ (if ((items.size : Nat) : Int) < ((items.size : Int) - 1) + 1 then _ else retInt (((items.size : Int) - 1) + 1)) _ _ _
  rw [if_neg (by omega), show ((items.size : Int) - 1) + 1 = ((items.size : Nat) : Int) by omega]
  unfold retInt
  exact wpAny_bind (wpAny_mkInt (wpAny_pure ⟨_, rfl, hQ _ _⟩))
theorem size_rt {it t : Addr} {items : Array Value} {Q : Bool → Shared → Prop} (hit : IsRt s.heap it t ((items.size : Int) - 1)) (ht : IsTup s.heap t items) (hn : items.size ≤ sizeLine)
    (hQ : ∀ tk, Q (((items.size : Nat) : Int) != 0) { s with toks := tk }) : wpAny (model prog w) A (Builtin.List.listLengthHint (.ref it)) Q E s := by
  have hT : s.TypeIs (.ref it) "reversed" := hit.typeIs
  unfold Builtin.List.listLengthHint
  refine wpAny_bind (wpAny_specialOf hT no_len ?_)
  show wpAny _ A (specialOf (Value.ref it) (Str.ofString "__length_hint__") >>= _) _ _ _
  refine wpAny_bind (wpAny_specialOf hT has_hint ?_)
  generalize hid : ("reversed.__length_hint__" : String) = id0
  wp_delta
  rw [show splitId id0 = some ("reversed", "__length_hint__") from by subst hid; decide +kernel]
  subst hid
  refine wpAny_bind (wpAny_isInstance (b := true) hT (by rw [isSubtype_type]; kernel_rfl) ?_)
  simp only [Bool.not_true, Bool.false_eq_true, if_false]
  rw [if_neg (by decide +kernel)]
  refine wpAny_bind (wpAny_rule ?_)
  unfold bindSpecial
  refine wpAny_bind (wpAny_bind (wpAny_of_eq type_hint ?_))
  rw [if_pos (by decide +kernel)]
  refine wpAny_pure ?_
  refine wpAny_bind (wpAny_attempt (hint_rt hit ht hn fun u tk => ?_))
  have big : (items.size : Int) < 2 ^ 63 := by
    rw [sizeLine_eq] at hn
    omega
  have fit : Builtin.List.listFitsIndex ((items.size : Nat) : Int) = true := by
    unfold Builtin.List.listFitsIndex
    simp only [Bool.and_eq_true, decide_eq_true_eq]
    exact ⟨by omega, big⟩
  have tl : Builtin.List.listTooLong (((items.size : Nat) : Int).toNat) = false := by
    simp only [Builtin.List.listTooLong, Int.toNat_natCast, decide_eq_false_iff_not]
    omega
  have ea : asInt? (Value.int ((items.size : Nat) : Int) u) = pure (some ((items.size : Nat) : Int)) := rfl
  dsimp only
  rw [ea]
  refine wpAny_bind ?_
  refine wpAny_pure ?_
  dsimp only
  simp only [fit, tl, Bool.not_true, Bool.false_eq_true, if_false, if_neg (show ¬ ((items.size : Nat) : Int) < 0 by omega)]
  exact wpAny_pure (hQ tk)
theorem extend_rt {it t S : Addr} {items : Array Value} {R : Result → Shared → Prop} {res : Value} {c₀ : Nat} (hh : A.handled = none) (hit : IsRt s.heap it t ((items.size : Int) - 1)) (ht : IsTup s.heap t items) (hne : t ≠ it)
    (hn : items.size ≤ sizeLine) (hS : s.heap.get? S = some { cls := .type "list", data := .seq #[] c₀ }) (hSi : S ≠ it)
    (hR : ∀ h' tk acc' c', (∀ b o, b ≠ S → b ≠ it → s.heap.get? b = some o → h'.get? b = some o) → h'.get? S = some { cls := .type "list", dict := none, data := .seq acc' c', slots := #[] } →
      ItemsOf (fun i v => items[items.size - 1 - i]? = some v) acc' items.size → R (.ok (.ret res)) { s with heap := h', toks := tk }) :
    wpAny (model prog w) A.in1 (Builtin.List.listExtendWith (.ref S) (.ref it) res)
      (fun fin s' => match fin with | .done f => R (.ok f) s' | .again c' => c'.quiet = true ∧ codeAny (model prog w) A c' R s') (fun e s' => R (.error e) s') s := by
  have St : S ≠ t := fun e => by
    obtain ⟨o, ho, hc, _⟩ := ht
    rw [← e, hS] at ho
    cases ho
    exact absurd hc (by simp)
  have W := (walks_rt (prog := prog) (w := w) (A := A.in1) hh it t hne items hn).toS
  have hSf : S ∉ [it, t] := by simp only [List.mem_cons, List.not_mem_nil, or_false, not_or]; exact ⟨hSi, St⟩
  have hT : s.TypeIs (.ref it) "reversed" := hit.typeIs
  have h1 : Builtin.List.listSameRef (.ref S) (.ref it) = false := by simp [Builtin.List.listSameRef, hSi]
  unfold Builtin.List.listExtendWith
  refine wpAny_bind (wpAny_typeOf hT ?_)
  rw [if_neg (by rw [h1]; decide)]
  refine wpAny_bind (iter_rt hit ?_)
  have go : ∀ (h : Heap) (c₁ tk : Nat), IsRt h it t ((items.size : Int) - 1) → IsTup h t items → (∀ b o, b ≠ S → s.heap.get? b = some o → h.get? b = some o) →
      h.get? S = some { cls := .type "list", data := .seq #[] c₁ } → codeAny (model prog w) A (.builtin "list.extend.loop" ⟨[.ref S, .ref it, res], []⟩) R { s with heap := h, toks := tk } := by
    intro h c₁ tk hit1 ht1 hk hS₁
    have e0 : ((items.size : Nat) : Int) - 1 - ((0 : Nat) : Int) = (items.size : Int) - 1 := by omega
    refine codeAny_extend_loopS W hn S hSf res items.size 0 _ #[] c₁ rfl (Nat.zero_le _) ⟨Nat.zero_le _, by rw [e0]; exact hit1, ht1⟩ hS₁ (ItemsOf.nil _) fun z acc' c' hm hS' hacc => ?_
    rw [Moved.eq_with hm]
    refine hR z.heap z.toks acc' c' (fun b o hb hi e => hm.heap b o (fun hmem => ?_) (hk b o hb e)) hS' hacc
    rcases List.mem_cons.mp hmem with e' | hmem
    · exact hb e'
    · exact hi (List.mem_singleton.mp hmem)
  refine wpAny_bind (wpAny_holding (size_rt hit ht hn fun tk => ?_))
  refine wpAny_ite_split (fun _ => ?_) (fun _ => wpAny_pure ⟨plainId_quiet F.plain_extend_loop _, go s.heap c₀ tk hit ht (fun b o _ e => e) hS⟩)
  refine wpAny_bind (wpAny_rule ?_)
  refine wpAny_bind ?_
  show wpAny _ _ (updateSeq S (·.push .none) >>= fun _ => updateSeq S (·.pop)) _ _ _
  refine wpAny_bind (wpAny_updateSeq hS rfl ?_)
  have hS₂ := Heap.get?_update_self (Obj.mapSeq (·.push Value.none)) hS rfl
  refine wpAny_updateSeq (hz := by seq_fits) hS₂ rfl ?_
  have hS₃ := Heap.get?_update_self (Obj.mapSeq (·.pop)) hS₂ rfl
  have oth : ∀ b o, b ≠ S → s.heap.get? b = some o → ((s.heap.update S (Obj.mapSeq (·.push Value.none))).update S (Obj.mapSeq (·.pop))).get? b = some o :=
    fun b o hb e => (Heap.get?_update_other _ _ (Ne.symm hb)).trans ((Heap.get?_update_other _ _ (Ne.symm hb)).trans e)
  refine wpAny_pure ⟨plainId_quiet F.plain_extend_loop _, go _ _ tk (hit.at fun o e => oth it o (Ne.symm hSi) e) ?_ oth hS₃⟩
  obtain ⟨o, ho, r⟩ := ht
  exact ⟨o, oth t o (Ne.symm St) ho, r⟩
/-- list(reversed(t)), the iterator at it -/
theorem list_rt {it t : Addr} {items : Array Value} {Q : Value → Shared → Prop} (hh : A.handled = none) (hit : IsRt s.heap it t ((items.size : Int) - 1)) (ht : IsTup s.heap t items) (hne : t ≠ it) (hn : items.size ≤ sizeLine)
    (hQ : ∀ h' tk acc c, (∀ b o, b ≠ it → s.heap.get? b = some o → h'.get? b = some o) → h'.get? s.heap.objs.size = some { cls := .type "list", dict := none, data := .seq acc c, slots := #[] } →
      ItemsOf (fun i v => items[items.size - 1 - i]? = some v) acc items.size → Q (.ref s.heap.objs.size) { s with heap := h', toks := tk }) :
    wpAny (model prog w) A (call (.type "list") [.ref it]) Q E s := by
  refine callType_codes (Q₁ := fun obj z => obj = .ref s.heap.objs.size ∧ z = { s with heap := s.heap.push { cls := .type "list", data := .seq #[] } }) F.called_list (F.typeCall_list_1 _) F.entry_list_init
    (code_list_new _ ⟨rfl, rfl⟩) fun obj z hz => ?_
  obtain ⟨rfl, rfl⟩ := hz
  have hS : (s.heap.push { cls := .type "list", data := .seq #[] }).get? s.heap.objs.size = some { cls := .type "list", data := .seq #[] } := Heap.get?_push_size _ rfl
  have hSi : s.heap.objs.size ≠ it := fun e => by
    obtain ⟨o, ho, _⟩ := hit
    have := Heap.lt_size ho
    rw [← e] at this
    exact Nat.lt_irrefl _ this
  refine ⟨⟨_, hS, rfl⟩, F.args_list_init_2 _ _, ?_⟩
  show wpAny _ _ (do let old ← Builtin.List.listItems (.ref s.heap.objs.size); Builtin.List.listUpdate (.ref s.heap.objs.size) (fun _ => #[]); letGo old.toList.reverse; Builtin.List.listExtendWith (.ref s.heap.objs.size) (.ref it) .none) _ _ _
  refine wpAny_bind ?_
  unfold Builtin.List.listItems
  refine wpAny_bind (wpAny_seqItems hS rfl (wpAny_pure ?_))
  show wpAny _ _ (updateSeq s.heap.objs.size (fun _ => #[]) >>= fun _ => letGo (#[] : Array Value).toList.reverse >>= fun _ => Builtin.List.listExtendWith (.ref s.heap.objs.size) (.ref it) .none) _ _ _
  refine wpAny_bind (wpAny_updateSeq hS rfl ?_)
  have hS₂ := Heap.get?_update_self (Obj.mapSeq (fun _ => (#[] : Array Value))) hS rfl
  have oth : ∀ b o, s.heap.get? b = some o → ((s.heap.push { cls := .type "list", data := .seq #[] }).update s.heap.objs.size (Obj.mapSeq (fun _ => (#[] : Array Value)))).get? b = some o :=
    fun b o e => (Heap.get?_update_other _ _ (Nat.ne_of_gt (Heap.lt_size e))).trans (Heap.get?_push_of_some _ e)
  refine wpAny_bind (wpAny_letGo ?_)
  have ht2 : IsTup ((s.heap.push { cls := .type "list", data := .seq #[] }).update s.heap.objs.size (Obj.mapSeq (fun _ => (#[] : Array Value)))) t items := by
    obtain ⟨o, ho, r⟩ := ht
    exact ⟨o, oth t o ho, r⟩
  refine extend_rt (A := A.in1) hh (hit.at fun o e => oth it o e) ht2 hne hn hS₂ hSi fun h' tk acc' c' hk hS' hacc => ?_
  exact ⟨rfl, hQ h' tk acc' c' (fun b o hb e => hk b o (Nat.ne_of_lt (Heap.lt_size e)) hb (oth b o e)) hS' hacc⟩
end
end SoRv
set_option Elab.async false
set_option linter.all false
set_option maxRecDepth 100000
set_option maxHeartbeats 4000000
namespace SoRv
open PySem PySem.Spec PyProof.Rows L2 RT
section
variable {prog : Program} {w : World} {A : Around} {E : Value → Shared → Prop} {s : Shared}
theorem size_rl {it l : Addr} {i : Int} {Q : Bool → Shared → Prop} (hit : s.heap.IsRevIter it l i) (hQ : Q false s) : wpAny (model prog w) A (Builtin.List.listLengthHint (.ref it)) Q E s := by
  have hT : s.TypeIs (.ref it) "list_reverseiterator" := hit.typeIs
  unfold Builtin.List.listLengthHint
  refine wpAny_bind (wpAny_specialOf hT nolen_lri ?_)
  show wpAny _ A (specialOf (Value.ref it) (Str.ofString "__length_hint__") >>= _) _ _ _
  refine wpAny_bind (wpAny_specialOf hT hint_lri ?_)
  generalize hid : ("list_reverseiterator.__length_hint__" : String) = id0
  wp_delta
  rw [show splitId id0 = some ("list_reverseiterator", "__length_hint__") from by subst hid; decide +kernel]
  subst hid
  refine wpAny_bind (wpAny_isInstance (b := true) hT (by rw [isSubtype_type]; kernel_rfl) ?_)
  exact wpAny_pure hQ
theorem extend_rl {it l S : Addr} {items : Array Value} {R : Result → Shared → Prop} {res : Value} {c₀ : Nat} (hh : A.handled = none) (hit : s.heap.IsRevIter it l ((items.size : Int) - 1)) (hl : s.heap.IsList l items) (hne : l ≠ it)
    (hn : items.size ≤ sizeLine) (hS : s.heap.get? S = some { cls := .type "list", data := .seq #[] c₀ }) (hSi : S ≠ it) (hSl : S ≠ l)
    (hR : ∀ h' tk acc' c', (∀ b o, b ≠ S → b ≠ it → s.heap.get? b = some o → h'.get? b = some o) → h'.get? S = some { cls := .type "list", dict := none, data := .seq acc' c', slots := #[] } →
      ItemsOf (fun i v => items[items.size - 1 - i]? = some v) acc' items.size → R (.ok (.ret res)) { s with heap := h', toks := tk }) :
    wpAny (model prog w) A.in1 (Builtin.List.listExtendWith (.ref S) (.ref it) res)
      (fun fin s' => match fin with | .done f => R (.ok f) s' | .again c' => c'.quiet = true ∧ codeAny (model prog w) A c' R s') (fun e s' => R (.error e) s') s := by
  have W := (Walks.listRev (prog := prog) (w := w) (A := A.in1) hh it l hne items).toS
  have hSf : S ∉ [it, l] := by simp only [List.mem_cons, List.not_mem_nil, or_false, not_or]; exact ⟨hSi, hSl⟩
  have hT : s.TypeIs (.ref it) "list_reverseiterator" := hit.typeIs
  have h1 : Builtin.List.listSameRef (.ref S) (.ref it) = false := by simp [Builtin.List.listSameRef, hSi]
  unfold Builtin.List.listExtendWith
  refine wpAny_bind (wpAny_typeOf hT ?_)
  rw [if_neg (by rw [h1]; decide)]
  refine wpAny_bind (wpAny_pyIter_revIter hit ?_)
  refine wpAny_bind (wpAny_holding (size_rl hit ?_))
  rw [if_neg (by decide)]
  have e0 : ((items.size : Nat) : Int) - 1 - ((0 : Nat) : Int) = (items.size : Int) - 1 := by omega
  refine wpAny_pure ⟨plainId_quiet F.plain_extend_loop _, codeAny_extend_loopS W hn S hSf res items.size 0 _ #[] c₀ rfl (Nat.zero_le _) ⟨Nat.zero_le _, by rw [e0]; exact hit, hl⟩ hS (ItemsOf.nil _) fun z acc' c' hm hS' hacc => ?_⟩
  rw [Moved.eq_with hm]
  refine hR z.heap z.toks acc' c' (fun b o hb hi e => hm.heap b o (fun hmem => ?_) e) hS' hacc
  rcases List.mem_cons.mp hmem with e' | hmem
  · exact hb e'
  · exact hi (List.mem_singleton.mp hmem)
theorem list_rl {it l : Addr} {items : Array Value} {Q : Value → Shared → Prop} (hh : A.handled = none) (hit : s.heap.IsRevIter it l ((items.size : Int) - 1)) (hl : s.heap.IsList l items) (hne : l ≠ it) (hn : items.size ≤ sizeLine)
    (hQ : ∀ h' tk acc c, (∀ b o, b ≠ it → s.heap.get? b = some o → h'.get? b = some o) → h'.get? s.heap.objs.size = some { cls := .type "list", dict := none, data := .seq acc c, slots := #[] } →
      ItemsOf (fun i v => items[items.size - 1 - i]? = some v) acc items.size → Q (.ref s.heap.objs.size) { s with heap := h', toks := tk }) :
    wpAny (model prog w) A (call (.type "list") [.ref it]) Q E s := by
  refine callType_codes (Q₁ := fun obj z => obj = .ref s.heap.objs.size ∧ z = { s with heap := s.heap.push { cls := .type "list", data := .seq #[] } }) F.called_list (F.typeCall_list_1 _) F.entry_list_init
    (code_list_new _ ⟨rfl, rfl⟩) fun obj z hz => ?_
  obtain ⟨rfl, rfl⟩ := hz
  have hS : (s.heap.push { cls := .type "list", data := .seq #[] }).get? s.heap.objs.size = some { cls := .type "list", data := .seq #[] } := Heap.get?_push_size _ rfl
  have ne : ∀ {b : Addr} {o : Obj}, s.heap.get? b = some o → s.heap.objs.size ≠ b := fun e => Nat.ne_of_gt (Heap.lt_size e)
  obtain ⟨oi, hoi, _⟩ := id hit
  obtain ⟨ol, hol, _⟩ := id hl
  refine ⟨⟨_, hS, rfl⟩, F.args_list_init_2 _ _, ?_⟩
  show wpAny _ _ (do let old ← Builtin.List.listItems (.ref s.heap.objs.size); Builtin.List.listUpdate (.ref s.heap.objs.size) (fun _ => #[]); letGo old.toList.reverse; Builtin.List.listExtendWith (.ref s.heap.objs.size) (.ref it) .none) _ _ _
  refine wpAny_bind ?_
  unfold Builtin.List.listItems
  refine wpAny_bind (wpAny_seqItems hS rfl (wpAny_pure ?_))
  show wpAny _ _ (updateSeq s.heap.objs.size (fun _ => #[]) >>= fun _ => letGo (#[] : Array Value).toList.reverse >>= fun _ => Builtin.List.listExtendWith (.ref s.heap.objs.size) (.ref it) .none) _ _ _
  refine wpAny_bind (wpAny_updateSeq hS rfl ?_)
  have hS₂ := Heap.get?_update_self (Obj.mapSeq (fun _ => (#[] : Array Value))) hS rfl
  have oth : ∀ b o, s.heap.get? b = some o → ((s.heap.push { cls := .type "list", data := .seq #[] }).update s.heap.objs.size (Obj.mapSeq (fun _ => (#[] : Array Value)))).get? b = some o :=
    fun b o e => (Heap.get?_update_other _ _ (Nat.ne_of_gt (Heap.lt_size e))).trans (Heap.get?_push_of_some _ e)
  refine wpAny_bind (wpAny_letGo ?_)
  have hl2 : ((s.heap.push { cls := .type "list", data := .seq #[] }).update s.heap.objs.size (Obj.mapSeq (fun _ => (#[] : Array Value)))).IsList l items := by
    obtain ⟨o, ho, r⟩ := hl
    exact ⟨o, oth l o ho, r⟩
  refine extend_rl (A := A.in1) hh (hit.at fun o e => oth it o e) hl2 hne hn hS₂ (ne hoi) (ne hol) fun h' tk acc' c' hk hS' hacc => ?_
  exact ⟨rfl, hQ h' tk acc' c' (fun b o hb e => hk b o (Nat.ne_of_lt (Heap.lt_size e)) hb (oth b o e)) hS' hacc⟩
end
end SoRv
set_option Elab.async false
set_option linter.all false
set_option maxRecDepth 100000
set_option maxHeartbeats 4000000
namespace SoZl
open PySem PySem.Spec PyProof.Rows L2
section
variable {prog : Program} {w : World} {A : Around} {E : Value → Shared → Prop} {s : Shared} {S z TI TO i1 i2 l1 l2 : Addr} {i : Nat} {xs ys : Array Value} {x y : Value}
end
/-- the list's tuples -/
def Zd (H : Hp) (ts : List Addr) (qs : List (V × V)) : Prop := Paired (fun (t : Addr) (q : V × V) => H t = some (.tup [q.1, q.2])) ts qs
theorem Zd.mono {H H' : Hp} : ∀ {ts : List Addr} {qs : List (V × V)}, (∀ t xs, H t = some (.tup xs) → H' t = some (.tup xs)) → Zd H ts qs → Zd H' ts qs
  | _, _, _, .nil => .nil
  | _, _, k, .cons h r => .cons (k _ _ h) (Zd.mono k r)
section
variable {X : Cx} {pins : List (Addr × Obj)} {σ : L2.St} {A : Around} {R : Result → Shared → Prop} {S z TI TO i1 i2 l1 l2 : Addr} {res : Value} {xs ys : List V}
end
end SoZl
set_option Elab.async false
set_option linter.all false
set_option maxRecDepth 100000
set_option maxHeartbeats 4000000
namespace Dl
open PySem PySem.Spec PyProof PyProof.Rows L2 So Da
def nbO : Option Lc → Prop
  | some (.ob _ _) => False
  | _ => True
def noOb (ρ : Sto) (i : Nat) : Prop := nbO ρ[i]?
theorem noOb_ne {ρ : Sto} {i : Nat} (h : noOb ρ i) : ∀ a c, ρ[i]? ≠ some (.ob a c) := fun a c e => by
  unfold noOb at h
  rw [e] at h
  exact h
theorem Alike.set {n i : Nat} {ρ : Sto} {lc : Lc} (h : noOb ρ i) : Alike n ρ (ρ.set i lc) := fun j a c _ e => by
  have q : i ≠ j := fun z => noOb_ne h a c (z ▸ e)
  exact ⟨c, by rw [List.getElem?_set_ne q]; exact e⟩
abbrev DTG := PyData → Sto → (Sto → Prop) → Prop
abbrev DTGs := List PyData → Sto → (Sto → Prop) → Prop
/-- only these slots have changed -/
def Chg (is : List Nat) (σ σ' : L2.St) : Prop := σ'.length = σ.length ∧ ∀ j, j ∉ is → σ'[j]? = σ[j]?
theorem Chg.refl {is : List Nat} {σ : L2.St} : Chg is σ σ := ⟨rfl, fun _ _ => rfl⟩
theorem Chg.trans {is js : List Nat} {σ σ1 σ2 : L2.St} (a : Chg is σ σ1) (b : Chg js σ1 σ2) : Chg (is ++ js) σ σ2 := ⟨b.1.trans a.1, fun j h => by
  rw [List.mem_append] at h
  rw [b.2 j (fun z => h (.inr z)), a.2 j (fun z => h (.inl z))]⟩
def KnG (K : Zw) (F : List (Addr × HO)) (n : Nat) (is : List Nat) (Q0 : Sto → Prop) (ρ : Sto) (G : Hp) (σ : L2.St) (Q : L2.St → Hp → Prop) : Prop :=
  ∀ ρ' σ' G' H', Q0 ρ' → Ex K.T G G' → Alike n ρ ρ' → Chg is σ σ' → Rep K F G' ρ' σ' H' → Q σ' H'
def rdG (K : Zw) (G0 : Hp) (n : Nat) (is : List Nat) (t : DTG) : TG := fun v σ H Q => ∃ F ρ G D Q0, Ex K.T G0 G ∧ Rep K F G ρ σ H ∧ Dw K G v D ∧ t D ρ Q0 ∧ KnG K F n is Q0 ρ G σ Q
def rdGs (K : Zw) (G0 : Hp) (n : Nat) (is : List Nat) (t : DTGs) : TGs := fun vs σ H Q => ∃ F ρ G Ds Q0, Ex K.T G0 G ∧ Rep K F G ρ σ H ∧ DwAll K G vs Ds ∧ t Ds ρ Q0 ∧ KnG K F n is Q0 ρ G σ Q
def DG (P : Tb) (G0 : Hp) (n : Nat) (X : Cx) (is : List Nat) (e : Expr) (t : DTG) : Prop := PG X e (rdG (zOf X P) G0 n is t)
def DGs (P : Tb) (G0 : Hp) (n : Nat) (X : Cx) (is : List Nat) (es : List Expr) (t : DTGs) : Prop := PGs X es (rdGs (zOf X P) G0 n is t)
section
variable {P : Tb} {G0 : Hp} {n : Nat} {X : Cx} {is js : List Nat} {e : Expr} {es : List Expr} {pos : Pos}
theorem pg_weak {t t' : TG} (h : PG X e t) (i : ∀ v σ H Q, t' v σ H Q → t v σ H Q) : PG X e t' := ⟨fun pins s σ H v u Q I r q => h.run pins s σ H v u Q I r (i v σ H Q q)⟩
theorem pgs_weak {t t' : TGs} (h : PGs X es t) (i : ∀ v σ H Q, t' v σ H Q → t v σ H Q) : PGs X es t' := ⟨fun pins s σ H v u Q I r q => h.run pins s σ H v u Q I r (i v σ H Q q)⟩
theorem pg_or {t t' : TG} (h : PG X e t) (h' : PG X e t') : PG X e (fun v σ H Q => t v σ H Q ∨ t' v σ H Q) := ⟨fun pins s σ H v u Q I r q => q.elim (h.run pins s σ H v u Q I r) (h'.run pins s σ H v u Q I r)⟩
def dgName (i : Nat) : DTG := fun D ρ Q => noOb ρ i ∧ Q (ρ.set i (.sh D))
theorem dg_name {i : Nat} {x : Str} (hN : X.N.Nodup) (hi : X.N[i]? = some x) (hx : Loc X.env.scope x) (hf : X.fn x = true ∨ X.env.scope.names.lookup x = some .local := by first | exact .inl rfl | exact .inr rfl | assumption) : DG P G0 n X [i] (.Name x pos) (dgName i) :=
  pg_weak (pg_name hN hi hx hf) fun v σ H Q ⟨F, ρ, G, D, Q0, s, R, d, ⟨h1, h2⟩, k⟩ => k _ _ G H h2 (Ex.refl s.2) (.set h1) ⟨List.length_set .., fun j hj => List.getElem?_set_ne (fun z => hj (List.mem_singleton.mpr z.symm))⟩ (R.set (noOb_ne h1) d)
def dgNil : DTGs := fun Ds ρ Q => Ds = [] ∧ Q ρ
def dgCons (t : DTG) (u : DTGs) : DTGs := fun Ds ρ Q => match Ds with
  | D :: r => t D ρ fun ρ' => u r ρ' Q
  | [] => False
theorem dgs_nil : DGs P G0 n X [] [] dgNil := pgs_weak pgs_nil fun v σ H Q ⟨F, ρ, G, Ds, Q0, s, R, d, ⟨h1, h2⟩, k⟩ => by
  subst h1
  cases d
  exact ⟨rfl, k _ _ G H h2 (Ex.refl s.2) .refl .refl R⟩
theorem dgs_cons {t : DTG} {u : DTGs} (h1 : DG P G0 n X is e t) (h2 : DGs P G0 n X js es u) (ha : (assignEach (e :: es) X.env).map (·.2) = assign e X.env :: (assignEach es X.env).map (·.2) := by rfl) : DGs P G0 n X (is ++ js) (e :: es) (dgCons t u) :=
  pgs_weak (pgs_cons h1 h2 ha) fun v σ H Q ⟨F, ρ, G, Ds, Q0, s, R, d, h, k⟩ => by
    unfold dgCons at h
    split at h
    · cases d with
      | cons a b =>
        exact ⟨_, _, rfl, F, ρ, G, _, _, s, R, a, h, fun ρ' σ' G' H' q s' al c R' => ⟨F, ρ', G', _, Q0, s.trans s', R', DwAll.mono s' b, q, fun ρ2 σ2 G2 H2 q2 s2 al2 c2 R2 => k ρ2 σ2 G2 H2 q2 (s'.trans s2) (al.trans al2) (c.trans c2) R2⟩⟩
    · exact h.elim
def dgSeq (m : Nat) (u : DTGs) : DTG := fun D ρ Q => match D with
  | .tuple ds => ds.length = m ∧ u ds ρ Q
  | .list ds => ds.length = m ∧ u ds ρ Q
  | _ => False
theorem dg_seq {k m : Nat} {u : DTGs} (hc : X.calm = true) (h : DGs P G0 n X is es u) (hn : (assignEach es X.env).length = m := by rfl) (hst : (assignEach es X.env).findIdx? (·.1) = none := by rfl) : DG P G0 n X is (.Tuple es k pos) (dgSeq m u) :=
  pg_weak (pg_or (pg_tup hc h hn hst) (pg_unl hc h hn hst)) fun v σ H Q ⟨F, ρ, G, D, Q0, s, R, d, h, kk⟩ => by
    unfold dgSeq at h
    split at h
    · cases d with
      | tup a b => exact .inl ⟨_, _, rfl, (R.sm s.2).tup a, by rw [dpa_len b]; exact h.1, F, ρ, G, _, Q0, s, R, b, h.2, kk⟩
    · cases d with
      | lst a b => exact .inr ⟨_, _, rfl, (R.sm s.2).lst a, by rw [dpa_len b]; exact h.1, F, ρ, G, _, Q0, s, R, b, h.2, kk⟩
    · exact h.elim
end
structure Wk (K : Zw) (J : It) (Ds : List PyData) (G' : Hp) : Prop where
  goes : ∀ {i : Nat} {H G1 : Hp} {F : List (Addr × HO)} {ρ : Sto} {σ : L2.St}, i < Ds.length → Ex K.T G' G1 → Rep K F G1 ρ σ H → J.go i H
  stops : ∀ {H G1 : Hp} {F : List (Addr × HO)} {ρ : Sto} {σ : L2.St}, Ex K.T G' G1 → Rep K F G1 ρ σ H → J.stop Ds.length H
  yields : ∀ {i : Nat} {H : Hp} {x : V} {H' G1 : Hp} {F : List (Addr × HO)} {ρ : Sto} {σ : L2.St}, i < Ds.length → Ex K.T G' G1 → Rep K F G1 ρ σ H → J.yld i H x H' →
    ∃ d G2, Ds[i]? = some d ∧ Ex K.T G1 G2 ∧ Rep K F G2 ρ σ H' ∧ Dw K G2 x d
abbrev DTI := Sto → (List PyData → Sto → Prop) → Prop
def rdI (K : Zw) (G0 : Hp) (n : Nat) (t : DTI) : TI := fun σ H R => ∃ F ρ G Q0, Ex K.T G0 G ∧ Rep K F G ρ σ H ∧ t ρ Q0 ∧
  ∀ Ds ρ' G' H' J, Q0 Ds ρ' → Ex K.T G G' → Alike n ρ ρ' → Rep K F G' ρ' σ H' → Wk K J Ds G' → R J H'
def DI (P : Tb) (G0 : Hp) (n : Nat) (X : Cx) (tg iter : Expr) (t : DTI) : Prop := PI X tg iter (rdI (zOf X P) G0 n t)
theorem pi_weak {X : Cx} {tg iter : Expr} {t t' : TI} (h : PI X tg iter t) (i : ∀ σ H R, t' σ H R → t σ H R) : PI X tg iter t' := ⟨fun pins s σ H R I q => h.run pins s σ H R I (i σ H R q)⟩
section
variable {P : Tb} {G0 : Hp} {n : Nat} {X : Cx} {tg e e2 : Expr} {pos : Pos}
theorem wk_at {K : Zw} {J : It} {xs : List V} {Gd : Hp → Prop} {Ds : List PyData} {G' : Hp} (t : Tg G' K.T) (w : Walk J xs.length Gd (YAt xs)) (g : ∀ H, Ex K.T G' H → Gd H) (d : DwAll K G' xs Ds) : Wk K J Ds G' := by
  have l := dpa_len d
  refine ⟨fun h s R => w.goes _ _ (by omega) (g _ (s.trans (R.sm s.2))), fun s R => by rw [← l]; exact w.stops _ (g _ (s.trans (R.sm s.2))), fun {i H x H' G1 F ρ σ} h s R y => ?_⟩
  obtain ⟨rfl, e⟩ := w.yields _ _ _ _ (by omega) (g _ (s.trans (R.sm s.2))) y
  obtain ⟨d', h1, h2⟩ := dpa_at d e
  exact ⟨d', G1, h1, Ex.refl s.2, R, Dw.mono s h2⟩
theorem wk_pair {K : Zw} {J : It} {m : Nat} {fx fy : Nat → Option V} {Gd : Hp → Prop} {Ds : List PyData} {G' : Hp} (w : Walk J m Gd (YPair fx fy)) (l : Ds.length = m) (g : ∀ H, Ex K.T G' H → Gd H) (d : ∀ i x y, i < m → fx i = some x → fy i = some y → ∀ H, Ex K.T G' H → ∃ dx dy, Ds[i]? = some (.tuple [dx, dy]) ∧ Dw K H x dx ∧ Dw K H y dy ∧ txV [x, y] = false) : Wk K J Ds G' := by
  refine ⟨fun h s R => w.goes _ _ (by omega) (g _ (s.trans (R.sm s.2))), fun s R => by rw [l]; exact w.stops _ (g _ (s.trans (R.sm s.2))), fun {i H x H' G1 F ρ σ} h s R y => ?_⟩
  obtain ⟨T, x1, y1, rfl, hT, rfl, h1, h2⟩ := w.yields _ _ _ _ (by omega) (g _ (s.trans (R.sm s.2))) y
  obtain ⟨dx, dy, q, q1, q2, q3⟩ := d i x1 y1 (by omega) h1 h2 G1 s
  obtain ⟨gp, R'⟩ := R.new (o := .tup [x1, y1]) s.2 hT q3
  have s2 := Ex.new s.2 gp (o := .tup [x1, y1])
  exact ⟨_, _, q, s2, R', .tup (.inl (.inl upd_same)) (.cons (Dw.mono s2 q1) (.cons (Dw.mono s2 q2) .nil))⟩
def itemsD (D : PyData) (Q : List PyData → Prop) : Prop := match D with
  | .list ds => Q ds
  | .tuple ds => Q ds
  | _ => False
/-- what is walked: a list or a tuple, as it comes -/
def iSqA (K : PySem.W.Frag) (tl : TE) : TI := fun σ H R => tl σ H fun x H1 => ∃ a, x = .ref a ∧ ((∃ xs, SqL K H1 a xs) ∧ R (Itl K a) H1 ∨ (∃ xs, SqT K H1 a xs) ∧ R (Itt K a) H1)
theorem pi_sqA {tl : TE} (hl : PE X e tl) : PI X tg e (iSqA X.K tl) := by
  refine ⟨fun pins s σ H R I h => ?_⟩
  refine thn (hl.run pins s σ H _ I h) fun v s1 ⟨x, H1, I1, r1, q1⟩ => ?_
  obtain ⟨a, rfl, q1⟩ := q1
  cases r1
  rcases q1 with ⟨⟨xs, hq⟩, q⟩ | ⟨⟨xs, hq⟩, q⟩
  · obtain ⟨its, rv, p, hz⟩ := I1.list hq
    refine wpAny_pyIter_list p.isList ?_
    refine ⟨s1.heap.objs.size, [s1.heap.objs.size], _, _, H1, rfl, I1.kept (t' := s1.toks) fun b o e => Heap.get?_push_of_some _ e, turn_list a _, ⟨_, Heap.get?_push_size _ rfl, rfl, rfl⟩, fun b hb => ?_, q⟩
    have e : b = s1.heap.objs.size := by simpa using hb
    subst e
    exact I1.fpOk (Nat.le_refl _) (I1.hok.fresh (Nat.le_refl _))
  · obtain ⟨its, rv, p, hz⟩ := I1.tuple hq
    refine wpAny_pyIter_tuple (show s1.heap.IsTuple a its.toArray from p) ?_
    refine ⟨s1.heap.objs.size, [s1.heap.objs.size], _, _, H1, rfl, I1.kept (t' := s1.toks) fun b o e => Heap.get?_push_of_some _ e, turn_tuple a _, ⟨_, Heap.get?_push_size _ rfl, rfl, rfl⟩, fun b hb => ?_, q⟩
    have e : b = s1.heap.objs.size := by simpa using hb
    subst e
    exact I1.fpOk (Nat.le_refl _) (I1.hok.fresh (Nat.le_refl _))
def iEnA (K : PySem.W.Frag) (ta : TA) : TI := fun σ H R => ta σ H fun vs H1 => ∃ a xs, vs = [.ref a] ∧ (SqL K H1 a xs ∧ R (Ite K a) H1 ∨ SqT K H1 a xs ∧ R (SoE.IteT K a) H1)
theorem pi_enA {ta : TA} {p tpos : Pos} {elts : List Expr} {kk : Nat} (hg : Gl X "enumerate") (hm : X.mg "enumerate" = none) (ha : PA X [e] ta) (hs : starEach [e] X.env = [(false, eval e X.env)] := by rfl) :
    PI X (.Tuple elts kk tpos) (.Call (.Name "enumerate" p) [e] [] pos) (iEnA X.K ta) := by
  refine ⟨fun pins s σ H R I h => ?_⟩
  refine Call_ (ld_blt I hg hm boot_enumerate (PyProof.Rows.callWith_type1 (thn (ha.run pos pins s σ H _ I h) fun us z hz => ?_) hs rfl))
  obtain ⟨vs, H1, I1, r1, a, xs, rfl, q1⟩ := hz
  cases r1 with
  | cons r rr =>
    cases rr
    cases r
    rcases q1 with ⟨hq, q⟩ | ⟨hq, q⟩
    · obtain ⟨its, rv, p', hz⟩ := I1.list hq
      refine call_enumerate_list p'.isList fun h' he hit hsz hk => wpAny_pyIter_enum he ?_
      have I2 : Inv X pins σ H1 { z with heap := h' } := I1.kept (t' := z.toks) hk
      refine ⟨z.heap.objs.size + 1, [z.heap.objs.size + 1, z.heap.objs.size], _, _, H1, rfl, I2, turn_enum a (z.heap.objs.size + 1) z.heap.objs.size, ⟨⟨.none, he⟩, hit, Nat.succ_ne_self _⟩, fun b hb => ?_, q⟩
      have e' : b = z.heap.objs.size + 1 ∨ b = z.heap.objs.size := by simpa using hb
      have hle : z.heap.objs.size ≤ b := by
        rcases e' with y | y
        · rw [y]; exact Nat.le_add_right _ _
        · rw [y]; exact Nat.le_refl _
      exact I1.fpOk hle (I1.hok.fresh hle)
    · obtain ⟨its, rv, p', hz⟩ := I1.tuple hq
      refine SoE.enum_call (begins_tuple a its.toArray) (show z.heap.IsTuple a its.toArray from p') fun h' he hit hsz hk => wpAny_pyIter_enum he ?_
      have I2 : Inv X pins σ H1 { z with heap := h' } := I1.kept (t' := z.toks) hk
      refine ⟨z.heap.objs.size + 1, [z.heap.objs.size + 1, z.heap.objs.size], _, _, H1, rfl, I2, SoE.turn_enumT a (z.heap.objs.size + 1) z.heap.objs.size, ⟨⟨.none, he⟩, ⟨_, hit, rfl, rfl⟩, Nat.succ_ne_self _⟩, fun b hb => ?_, q⟩
      have e' : b = z.heap.objs.size + 1 ∨ b = z.heap.objs.size := by simpa using hb
      have hle : z.heap.objs.size ≤ b := by
        rcases e' with y | y
        · rw [y]; exact Nat.le_add_right _ _
        · rw [y]; exact Nat.le_refl _
      exact I1.fpOk hle (I1.hok.fresh hle)
/-- for x in a list or a tuple -/
theorem di_seq {t : DTE} (h : DE P G0 n X e t) : DI P G0 n X tg e (fun ρ Q => t ρ fun D ρ' => itemsD D fun ds => Q ds ρ') := pi_weak (pi_sqA h) fun σ H R ⟨F, ρ, G, Q0, s, Rp, h, k⟩ =>
  ⟨F, ρ, G, _, s, Rp, h, fun D ρ' v G' H' q s' al R' d => by
    unfold itemsD at q
    split at q
    · cases d with
      | lst a b => exact ⟨_, rfl, .inl ⟨⟨_, (R'.sm s'.2).lst a⟩, k _ _ _ _ _ q s' al R' (wk_at s'.2 walk_list (fun H s2 => s2.lst a) b)⟩⟩
    · cases d with
      | tup a b => exact ⟨_, rfl, .inr ⟨⟨_, (R'.sm s'.2).tup a⟩, k _ _ _ _ _ q s' al R' (wk_at s'.2 walk_tup (fun H s2 => s2.tup a) b)⟩⟩
    · exact q.elim⟩
/-- for i, x in enumerate(..) -/
def enumD (ds : List PyData) : List PyData := ds.mapIdx fun i d => .tuple [.int (i : Nat), d]
theorem di_enum {t : DTE} {p tpos : Pos} {elts : List Expr} {kk : Nat} (hg : Gl X "enumerate") (hm : X.mg "enumerate" = none) (h : DE P G0 n X e t) (hs : starEach [e] X.env = [(false, eval e X.env)] := by rfl) (hs2 : starEach [e] X.env = (false, eval e X.env) :: starEach [] X.env := by rfl) :
    DI P G0 n X (.Tuple elts kk tpos) (.Call (.Name "enumerate" p) [e] [] pos) (fun ρ Q => t ρ fun D ρ' => itemsD D fun ds => Q (enumD ds) ρ') := pi_weak (pi_enA hg hm (pa_cons h pa_nil hs2) hs) fun σ H R ⟨F, ρ, G, Q0, s, Rp, h, k⟩ =>
  ⟨F, ρ, G, _, s, Rp, h, fun D ρ' v G' H' q s' al R' d => by
    have key : ∀ {xs : List V} {ds : List PyData}, DwAll (zOf X P) G' xs ds → ∀ i x y, i < xs.length → (fun i : Nat => some (V.int (i : Nat))) i = some x → (fun i => xs[i]?) i = some y → ∀ H, Ex P G' H → ∃ dx dy, (enumD ds)[i]? = some (.tuple [dx, dy]) ∧ Dw (zOf X P) H x dx ∧ Dw (zOf X P) H y dy ∧ txV [x, y] = false := fun {xs ds} b i x y _ e1 e2 H s2 => by
      cases e1
      obtain ⟨d', h1, h2⟩ := dpa_at b e2
      refine ⟨.int (i : Nat), d', ?_, .int _, Dw.mono s2 h2, rfl⟩
      unfold enumD
      rw [List.getElem?_mapIdx, h1]
      rfl
    have len : ∀ {xs : List V} {ds : List PyData}, DwAll (zOf X P) G' xs ds → (enumD ds).length = xs.length := fun b => by unfold enumD; rw [List.length_mapIdx, dpa_len b]
    unfold itemsD at q
    split at q
    · cases d with
      | lst a b => exact ⟨_, _, rfl, .inl ⟨(R'.sm s'.2).lst a, k _ _ _ _ _ q s' al R' (wk_pair walk_enum (len b) (fun H s2 => s2.lst a) (key b))⟩⟩
    · cases d with
      | tup a b => exact ⟨_, _, rfl, .inr ⟨(R'.sm s'.2).tup a, k _ _ _ _ _ q s' al R' (wk_pair SoE.walk_enumT (len b) (fun H s2 => s2.tup a) (key b))⟩⟩
    · exact q.elim⟩
/-- for i in range(k), range(j, k) -/
def rngD (lo : Int) (m : Nat) : List PyData := (List.range m).map fun i => .int (lo + (i : Nat))
theorem wk_rng {K : Zw} {lo : Int} {m : Nat} {G' : Hp} : Wk K (Itr lo m) (rngD lo m) G' := by
  have l : (rngD lo m).length = m := by unfold rngD; rw [List.length_map, List.length_range]
  refine ⟨fun h s R => walk_range.goes _ _ (by omega) trivial, fun s R => by rw [l]; exact walk_range.stops _ trivial, fun {i H x H' G1 F ρ σ} h s R y => ?_⟩
  rw [l] at h
  obtain ⟨e1, e2⟩ := walk_range.yields _ _ _ _ h trivial y
  subst e1 e2
  refine ⟨.int (lo + (i : Nat)), G1, ?_, Ex.refl s.2, R, .int _⟩
  unfold rngD
  rw [List.getElem?_map, List.getElem?_range h]
  rfl
theorem di_range {t : DTE} {p : Pos} (hg : Gl X "range") (hm : X.mg "range" = none) (h : DE P G0 n X e t) (hs : starEach [e] X.env = [(false, eval e X.env)] := by rfl) (hs2 : starEach [e] X.env = (false, eval e X.env) :: starEach [] X.env := by rfl) :
    DI P G0 n X tg (.Call (.Name "range" p) [e] [] pos) (fun ρ Q => t ρ fun D ρ' => match D with
      | .int j => -(2 ^ 62) ≤ j ∧ j < 2 ^ 62 ∧ Q (rngD 0 j.toNat) ρ'
      | _ => False) := pi_weak (pi_range1 hg hm (pa_cons h pa_nil hs2) hs) fun σ H R ⟨F, ρ, G, Q0, s, Rp, h, k⟩ =>
  ⟨F, ρ, G, _, s, Rp, h, fun D ρ' v G' H' q s' al R' d => by
    split at q
    · cases d
      exact ⟨_, rfl, q.1, q.2.1, k _ _ _ _ _ q.2.2 s' al R' wk_rng⟩
    · exact q.elim⟩
end
def wipeD (ρ : Sto) : List Nat → Sto
  | [] => ρ
  | v :: vs => (wipeD ρ vs).set v .un
def noObs (ρ : Sto) : List Nat → Prop
  | [] => True
  | v :: vs => noOb ρ v ∧ noObs ρ vs
/-- the items of a comprehension, from the left; its block leaves the slots as they are -/
def lcW (ρw : Sto) (vs : List Nat) (g : DTG) (tt : DTT) (te : DTE) : List PyData → List PyData → (List PyData → Prop) → Prop
  | [], acc, Q => Q acc
  | d :: ds, acc, Q => g d ρw fun ρ1 => tt ρ1 fun b ρ2 => if b = true then te ρ2 fun y ρ3 => (noObs ρ3 vs ∧ wipeD ρ3 vs = ρw) ∧ acc.length < sizeLine ∧ lcW ρw vs g tt te ds (acc ++ [y]) Q else (noObs ρ2 vs ∧ wipeD ρ2 vs = ρw) ∧ lcW ρw vs g tt te ds acc Q
section
variable {K : Zw} {F : List (Addr × HO)} {G G' H H' : Hp} {ρ ρ' : Sto} {σ σ' : L2.St} {n : Nat}
theorem wipeD_length : ∀ vs : List Nat, (wipeD ρ vs).length = ρ.length
  | [] => rfl
  | v :: vs => by unfold wipeD; rw [List.length_set, wipeD_length vs]
theorem wipeD_some0 {lc : Lc} (nu : lc ≠ .un) {i : Nat} : ∀ {vs : List Nat}, (wipeD ρ vs)[i]? = some lc → ρ[i]? = some lc ∧ i ∉ vs
  | [], h => ⟨h, by simp⟩
  | v :: vs, h => by
    unfold wipeD at h
    by_cases hi : v = i
    · subst hi
      rw [List.getElem?_set] at h
      simp only [if_pos] at h
      split at h
      · exact absurd (Option.some.inj h).symm nu
      · cases h
    · rw [List.getElem?_set_ne hi] at h
      obtain ⟨h1, h2⟩ := wipeD_some0 nu (vs := vs) h
      exact ⟨h1, fun z => (List.mem_cons.mp z).elim (fun z => hi z.symm) h2⟩
theorem wipeD_sh {vs : List Nat} {i : Nat} {D : PyData} (h : (wipeD ρ vs)[i]? = some (.sh D)) : ρ[i]? = some (.sh D) ∧ i ∉ vs := wipeD_some0 (fun z => Lc.noConfusion z) h
theorem wipeD_ob {vs : List Nat} {i : Nat} {a : Addr} {c : Oc} (h : (wipeD ρ vs)[i]? = some (.ob a c)) : ρ[i]? = some (.ob a c) ∧ i ∉ vs := wipeD_some0 (fun z => Lc.noConfusion z) h
theorem wipeD_out {i : Nat} : ∀ {vs : List Nat}, i ∉ vs → (wipeD ρ vs)[i]? = ρ[i]?
  | [], _ => rfl
  | v :: vs, h => by
    unfold wipeD
    rw [List.getElem?_set_ne (fun e => h (by rw [e]; exact List.mem_cons_self)), wipeD_out fun m => h (List.mem_cons_of_mem _ m)]
theorem noObs_mem : ∀ {vs : List Nat} {i : Nat}, noObs ρ vs → i ∈ vs → noOb ρ i
  | v :: vs, i, h, m => by
    rcases List.mem_cons.mp m with rfl | m
    · exact h.1
    · exact noObs_mem h.2 m
theorem wipeD_exc {vs : List Nat} {i : Nat} {a C d : Addr} {D : PyData} (h : (wipeD ρ vs)[i]? = some (.exc a C d D)) : ρ[i]? = some (.exc a C d D) ∧ i ∉ vs := wipeD_some0 (fun z => Lc.noConfusion z) h
theorem wipeD_ask {vs : List Nat} {i : Nat} {O : Fk} (h : (wipeD ρ vs)[i]? = some (.ask O)) : ρ[i]? = some (.ask O) ∧ i ∉ vs := wipeD_some0 (fun z => Lc.noConfusion z) h
theorem Rep.wipe {vs : List Nat} (h : noObs ρ vs) (R : Rep K F G ρ σ H) : Rep K F G (wipeD ρ vs) (L2.wipe σ vs) H where
  len := by rw [wipe_length, wipeD_length]; exact R.len
  sh := fun {i D} e => by
    obtain ⟨h1, h2⟩ := wipeD_sh e
    rw [wipe_out h2]
    exact R.sh h1
  ob := fun {i a c} e => by
    obtain ⟨h1, h2⟩ := wipeD_ob e
    rw [wipe_out h2]
    exact R.ob h1
  exc := fun e => by
    obtain ⟨h1, h2⟩ := wipeD_exc e
    rw [wipe_out h2]
    exact R.exc h1
  ask := fun e => by
    obtain ⟨h1, h2⟩ := wipeD_ask e
    rw [wipe_out h2]
    exact R.ask h1
  uniq := fun e e' => R.uniq (wipeD_ob e).1 (wipeD_ob e').1
  ex := fun m => ⟨(R.ex m).1, (R.ex m).2.1, fun ⟨i, c, e⟩ => (R.ex m).2.2.1 ⟨i, c, (wipeD_ob e).1⟩, (R.ex m).2.2.2⟩
  sub := R.sub
  nt := R.nt
/-- the slots that were wiped are as they were -/
theorem Rep.unwipe {vs : List Nat} {F' : List (Addr × HO)} {H1 : Hp} (h : noObs ρ vs) (R : Rep K F G ρ σ H) (s : Ex K.T G G') (R' : Rep K F' G' (wipeD ρ vs) (L2.wipe σ vs) H1) : Rep K F' G' ρ σ H1 where
  len := R.len
  sh := fun {i D} e => by
    obtain ⟨v, h1, h2⟩ := R.sh e
    exact ⟨v, h1, Dw.mono s h2⟩
  ob := fun {i a c} e => by
    have m : i ∉ vs := fun m => noOb_ne (noObs_mem h m) _ _ e
    obtain ⟨h1, h2⟩ := R'.ob (i := i) (by rw [wipeD_out m]; exact e)
    exact ⟨(R.ob e).1, h2⟩
  exc := fun {i a C d D} e => by
    obtain ⟨h1, v, h2, h3⟩ := R.exc e
    exact ⟨h1, v, s.1 _ _ h2 (fun _ z => nomatch z), h3.mono s⟩
  ask := fun {i O} e => by
    obtain ⟨f, h1, h2⟩ := R.ask e
    exact ⟨f, h1, h2.mono s⟩
  uniq := fun e e' => R.uniq e e'
  ex := fun m => ⟨(R'.ex m).1, (R'.ex m).2.1, fun ⟨i, c, e⟩ => (R'.ex m).2.2.1 ⟨i, c, by
    rw [wipeD_out fun m => noOb_ne (noObs_mem h m) _ _ e]
    exact e⟩, (R'.ex m).2.2.2⟩
  sub := R'.sub
  nt := R'.nt
theorem Rep.push {D : Addr} {o : HO} (R : Rep K F G ρ σ H) (h : H D = none) (l : Lcl o := by exact lcl_lst) : Rep K ((D, o) :: F) G ρ σ (upd H D o) where
  len := R.len
  sh := R.sh
  ob := fun {i a c} e => by
    obtain ⟨h1, h2, o, h3, h4⟩ := R.ob e
    exact ⟨h1, h2, o, by rw [upd_ne (ne_of_none h3 h)]; exact h3, h4⟩
  exc := R.exc
  ask := R.ask
  uniq := R.uniq
  ex := fun {a o} m => by
    rcases List.mem_cons.mp m with e | m
    · cases e
      refine ⟨upd_same, R.gnone h, fun ⟨i, c, e⟩ => ?_, l⟩
      obtain ⟨_, _, o, h3, _⟩ := R.ob e
      rw [h3] at h
      cases h
    · obtain ⟨h1, h2⟩ := R.ex m
      exact ⟨by rw [upd_ne (ne_of_none h1 h)]; exact h1, h2⟩
  sub := fun b u e => by
    rw [upd_ne (ne_of_none (R.sub b u e) h)]
    exact R.sub b u e
  nt := R.nt
theorem Rep.grow {D : Addr} {o u : HO} (nF : ∀ o, (D, o) ∉ F) (R : Rep K ((D, o) :: F) G ρ σ H) (l : Lcl u := by exact lcl_lst) : Rep K ((D, u) :: F) G ρ σ (upd H D u) where
  len := R.len
  sh := R.sh
  ob := fun {i a c} e => by
    obtain ⟨h1, h2, o, h3, h4⟩ := R.ob e
    have q : a ≠ D := fun z => by
      subst z
      exact (R.ex List.mem_cons_self).2.2.1 ⟨i, c, e⟩
    exact ⟨h1, h2, o, by rw [upd_ne q]; exact h3, h4⟩
  exc := R.exc
  ask := R.ask
  uniq := R.uniq
  ex := fun {a o} m => by
    rcases List.mem_cons.mp m with e | m
    · cases e
      exact ⟨upd_same, (R.ex List.mem_cons_self).2.1, (R.ex List.mem_cons_self).2.2.1, l⟩
    · obtain ⟨h1, h2⟩ := R.ex (List.mem_cons_of_mem _ m)
      have q : a ≠ D := fun z => by
        rw [z] at m
        exact nF o m
      exact ⟨by rw [upd_ne q]; exact h1, h2⟩
  sub := fun b u e => by
    rw [upd_ne (fun z => by rw [z, (R.ex List.mem_cons_self).2.1] at e; cases e)]
    exact R.sub b u e
  nt := R.nt
/-- the list that was made stands for good -/
theorem Rep.land {D : Addr} {o : HO} (t : Tg G K.T) (nF : ∀ o, (D, o) ∉ F) (R : Rep K ((D, o) :: F) G ρ σ H) (nt : NTo o := by exact trivial) : Ex K.T G (upd G D o) ∧ Rep K F (upd G D o) ρ σ H := by
  obtain ⟨e1, e2, e3, _⟩ := R.ex List.mem_cons_self
  have s : Ex K.T G (upd G D o) := Ex.new t e2
  have R1 : Rep K F G ρ σ H := ⟨R.len, R.sh, R.ob, R.exc, R.ask, R.uniq, fun m => R.ex (List.mem_cons_of_mem _ m), R.sub, R.nt⟩
  refine ⟨s, R1.grow0 s (fun {i a c} e => ?_) (fun {a u} m => ?_) (fun b u e => ?_) (R.nt.upd nt)⟩
  · rw [upd_ne fun z => ?_]
    · exact (R.ob e).2.1
    · subst z
      exact e3 ⟨i, c, e⟩
  · rw [upd_ne fun z => ?_]
    · exact (R1.ex m).2.1
    · rw [z] at m
      exact nF u m
  · by_cases q : b = D
    · rw [q, upd_same] at e
      cases e
      rw [q]
      exact e1
    · rw [upd_ne q] at e
      exact R.sub b u e
theorem wipe_chg {is vs : List Nat} (c : Chg is (L2.wipe σ vs) σ') (sub : ∀ i ∈ is, i ∈ vs) : L2.wipe σ' vs = L2.wipe σ vs := by
  have inn : ∀ {τ : L2.St} {vs : List Nat} {i : Nat}, i ∈ vs → i < τ.length → (L2.wipe τ vs)[i]? = some none := by
    intro τ vs
    induction vs with
    | nil => intro i m; cases m
    | cons v vs ih =>
      intro i m l
      unfold L2.wipe
      by_cases q : v = i
      · subst q
        rw [List.getElem?_set_self (by rw [wipe_length]; exact l)]
      · rw [List.getElem?_set_ne q]
        exact ih ((List.mem_cons.mp m).resolve_left (Ne.symm q)) l
  have l : σ'.length = σ.length := c.1.trans (wipe_length σ vs)
  refine List.ext_getElem? fun i => ?_
  by_cases m : i ∈ vs
  · by_cases q : i < σ.length
    · rw [inn m (by omega), inn m q]
    · rw [List.getElem?_eq_none_iff.mpr (by rw [wipe_length]; omega), List.getElem?_eq_none_iff.mpr (by rw [wipe_length]; omega)]
  · rw [wipe_out m, c.2 i fun z => m (sub i z)]
end
section
variable {P : Tb} {G0 : Hp} {n : Nat} {X : Cx} {elt tg iter : Expr} {ifs : List Expr} {scope : Scope} {own : List (Str × Nat)} {pos : Pos} {is : List Nat} {ti : DTI} {g : DTG} {tt : DTT} {te : DTE}
/-- a fresh list: its content -/
abbrev DTF := Sto → (List PyData → Sto → Prop) → Prop
def KnF (K : Zw) (F : List (Addr × HO)) (n : Nat) (Q0 : List PyData → Sto → Prop) (ρ : Sto) (G : Hp) (σ : L2.St) (Q : VK) : Prop :=
  ∀ Ds ρ' vs G' H' p, Q0 Ds ρ' → Ex K.T G G' → Alike n ρ ρ' → Rep K ((p, .lst vs) :: F) G' ρ' σ H' → (∀ o, (p, o) ∉ F) → DwAll K G' vs Ds → Q (.ref p) H'
def rdF (K : Zw) (G0 : Hp) (n : Nat) (t : DTF) : TE := fun σ H Q => ∃ F ρ G Q0, Ex K.T G0 G ∧ Rep K F G ρ σ H ∧ t ρ Q0 ∧ KnF K F n Q0 ρ G σ Q
def DF (P : Tb) (G0 : Hp) (n : Nat) (X : Cx) (e : Expr) (t : DTF) : Prop := PE X e (rdF (zOf X P) G0 n t)
theorem de_of_df {e : Expr} {t : DTF} (h : DF P G0 n X e t) : DE P G0 n X e (fun ρ Q => t ρ fun ds ρ' => Q (.list ds) ρ') := pe_weak h fun σ H Q ⟨F, ρ, G, Q0, s, R, h, k⟩ =>
  ⟨F, ρ, G, _, s, R, h, fun Ds ρ' vs G' H' p q s' al R' nF d => by
    obtain ⟨s2, R2⟩ := R'.land s'.2 nF
    exact k _ _ _ _ _ q (s'.trans s2) al R2 (.lst (.inl (.inl upd_same)) (DwAll.mono s2 d))⟩
def dLc (vs : List Nat) (ti : DTI) (g : DTG) (tt : DTT) (te : DTE) : DTF := fun ρ Q => ti ρ fun ds ρ1 => noObs ρ1 vs ∧ lcW (wipeD ρ1 vs) vs g tt te ds [] fun acc => Q acc ρ1
theorem lc_read {vs : List Nat} {σ : L2.St} {H : Hp} {Q : VK} (sub : ∀ i ∈ is, i ∈ vs) (h : rdF (zOf X P) G0 n (dLc vs ti g tt te) σ H Q) : tLc (rdI (zOf X P) G0 n ti) (rdG (zOf X P) G0 n is g) (rdT (zOf X P) G0 n tt) (rdE (zOf X P) G0 n te) vs σ H Q := by
  obtain ⟨F, ρ, G, Q0, s, R, h, k⟩ := h
  refine ⟨F, ρ, G, _, s, R, h, fun Ds ρ1 G1 H1 J ⟨no, q1⟩ s1 al1 R1 w D hD => ?_⟩
  have nF : ∀ o, (D, o) ∉ F := fun o m => by
    rw [(R1.ex m).1] at hD
    cases hD
  refine ⟨fun i m H2 => m = Ds.length - i ∧ i ≤ Ds.length ∧ ∃ acc us G2, Ex P G1 G2 ∧ Rep (zOf X P) ((D, .lst us) :: F) G2 (wipeD ρ1 vs) (L2.wipe σ vs) H2 ∧ DwAll (zOf X P) G2 us acc ∧ lcW (wipeD ρ1 vs) vs g tt te (Ds.drop i) acc (fun acc => Q0 acc ρ1),
    ⟨_, by rw [Nat.sub_zero], Nat.zero_le _, [], [], G1, Ex.refl s1.2, (R1.wipe no).push hD, .nil, q1⟩, ?_⟩
  rintro i m H2 ⟨rfl, hi, acc, us, G2, s2, R2, d2, q2⟩
  have s01 := s.trans s1
  by_cases hl : i < Ds.length
  · refine .inr ⟨w.goes hl s2 R2, fun H' => i + 1 ≤ Ds.length ∧ ∃ acc us G2, Ex P G1 G2 ∧ Rep (zOf X P) ((D, .lst us) :: F) G2 (wipeD ρ1 vs) (L2.wipe σ vs) H' ∧ DwAll (zOf X P) G2 us acc ∧ lcW (wipeD ρ1 vs) vs g tt te (Ds.drop (i + 1)) acc (fun acc => Q0 acc ρ1), fun H' z => ⟨_, by omega, rfl, z⟩, fun x H3 y => ?_⟩
    obtain ⟨d, G3, e3, s3, R3, dx⟩ := w.yields hl s2 R2 y
    rw [List.drop_eq_getElem_cons hl] at q2
    have e3' : Ds[i] = d := by rw [List.getElem?_eq_getElem hl] at e3; exact Option.some.inj e3
    rw [e3'] at q2
    unfold lcW at q2
    refine ⟨(D, .lst us) :: F, wipeD ρ1 vs, G3, d, _, (s01.trans s2).trans s3, R3, dx, q2, fun ρ4 σ4 G4 H4 q4 s4 al4 c4 R4 => ⟨wipe_chg c4 sub, (D, .lst us) :: F, ρ4, G4, _, ((s01.trans s2).trans s3).trans s4, R4, q4, fun b ρ5 G5 H5 q5 s5 al5 R5 => ?_⟩⟩
    have s35 := (s3.trans s4).trans s5
    have back : ∀ {τ : Sto} {G6 H6 : Hp} {F' : List (Addr × HO)}, wipeD τ vs = wipeD ρ1 vs → noObs τ vs → Rep (zOf X P) F' G6 τ σ4 H6 → Rep (zOf X P) F' G6 (wipeD ρ1 vs) (L2.wipe σ vs) H6 := fun {τ G6 H6 F'} e no' R' => by
      have := R'.wipe no'
      rw [e, wipe_chg c4 sub] at this
      exact this
    cases b with
    | false =>
      exact ⟨hl, acc, us, G5, s2.trans s35, back q5.1.2 q5.1.1 R5, DwAll.mono s35 d2, q5.2⟩
    | true =>
      refine ⟨(D, .lst us) :: F, ρ5, G5, _, (((s01.trans s2).trans s3).trans s4).trans s5, R5, q5, fun yv ρ6 v6 G6 H6 ⟨e6, l6, q6⟩ s6 al6 R6 d6 => ?_⟩
      have s36 := s35.trans s6
      have d26 := DwAll.mono s36 d2
      refine ⟨us, (R6.ex List.mem_cons_self).1, by rw [dpa_len d2]; exact l6, hl, acc ++ [yv], us ++ [v6], G6, s2.trans s36, (back e6.2 e6.1 R6).grow nF, dpa_app d26 (.cons d6 .nil), q6⟩
  · have e : i = Ds.length := by omega
    subst e
    rw [List.drop_length] at q2
    refine .inl ⟨w.stops s2 R2, ?_⟩
    exact k acc ρ1 us G2 H2 D q2 (s1.trans s2) al1 (Rep.unwipe no R1 s2 R2) nF d2
end
end Dl
set_option Elab.async false
set_option linter.all false
set_option maxRecDepth 100000
set_option maxHeartbeats 4000000
namespace Dl
open PySem PySem.Spec PyProof PyProof.Rows L2 So Da
section
variable {P : Tb} {G0 : Hp} {n : Nat} {X : Cx} {elt tg iter e c : Expr} {es ifs : List Expr} {scope : Scope} {own : List (Str × Nat)} {pos : Pos} {is : List Nat} {ti : DTI} {g : DTG} {tt : DTT} {te : DTE}
theorem df_lst {t : DTA} (h : DA P G0 n X es t) : DF P G0 n X (.List es pos) (fun ρ Q => t ρ fun Ds ρ' => Ds.length ≤ sizeLine ∧ Q Ds ρ') := pe_weak (pe_lst h) fun σ H Q ⟨F, ρ, G, Q0, s, R, h, k⟩ =>
  ⟨F, ρ, G, _, s, R, h, fun Ds ρ' vs G' H' ⟨l, q⟩ s' al R' d => ⟨by rw [dpa_len d]; exact l, fun p hp => k Ds ρ' vs G' _ p q s' al (R'.push hp) (fun o m => by rw [(R'.ex m).1] at hp; cases hp) d⟩⟩
theorem df_list {t : DTR} {p : Pos} (hg : Gl X "list") (hm : X.mg "list" = none) (ha : DR P G0 n X e t) (hs : starEach [e] X.env = (false, eval e X.env) :: starEach [] X.env := by rfl) (hpl : (backTo pos (starEach [] X.env)).any (·.1) = false := by rfl) :
    DF P G0 n X (.Call (.Name "list" p) [e] [] pos) (fun ρ Q => t ρ fun r ρ1 => derefW ρ1 r fun x => itemsD x fun ds => Q ds ρ1) := pe_weak (pe_callTy call_list_of hg hm (by decide +kernel) (pa_cons ha pa_nil hs) (by decide) (by decide) hs hpl) fun σ H Q ⟨F, ρ, G, Q0, s, R, h, k⟩ =>
  ⟨F, ρ, G, _, s, R, h, fun r1 ρ1 v1 G1 H1 h1 s1 a1 R1 d1 => by
    unfold derefW at h1
    split at h1
    · rename_i D1 e1
      have dq := dq_of R1 d1 e1
      unfold itemsD at h1
      split at h1
      · obtain ⟨a, xs, rfl, ha, da⟩ := dq.list R1
        exact ⟨a, xs, rfl, .inl ha, fun p hp => k _ ρ1 xs G1 _ p h1 s1 a1 (R1.push hp) (fun o m => by rw [(R1.ex m).1] at hp; cases hp) da⟩
      · obtain ⟨a, xs, rfl, ha, da, _⟩ := dq.tup R1
        exact ⟨a, xs, rfl, .inr ha, fun p hp => k _ ρ1 xs G1 _ p h1 s1 a1 (R1.push hp) (fun o m => by rw [(R1.ex m).1] at hp; cases hp) da⟩
      · exact h1.elim
    · exact h1.elim⟩
theorem dts_nil : PTs X [] (rdT (zOf X P) G0 n fun ρ Q => Q true ρ) := ⟨fun pins s σ H Q I ⟨F, ρ, G, Q0, s', R, h, k⟩ => pts_nil.run pins s σ H Q I (k true ρ G H h (Ex.refl s'.2) Alike.refl R)⟩
theorem dts_one {t : DTT} (h : DT P G0 n X c t) : PTs X [c] (rdT (zOf X P) G0 n t) := pts_one h
theorem df_lc (hc : X.calm = true) (hN : X.N.Nodup) (hi : DI P G0 n X tg iter ti) (ok : BlkOk X.N X.env.scope scope own)
    (hg : ∀ (s : Shared) (H : Hp) (C : Addr) (cl : List (Str × Addr)) (fp : List Addr), DG P G0 n (X.blk s H scope (compEnvC scope cl C X.env) fp) is tg g) (ht : ∀ (s : Shared) (H : Hp) (C : Addr) (cl : List (Str × Addr)) (fp : List Addr), PTs (X.blk s H scope (compEnvC scope cl C X.env) fp) ifs (rdT (zOf X P) G0 n tt))
    (he : ∀ (s : Shared) (H : Hp) (C : Addr) (cl : List (Str × Addr)) (fp : List Addr), DE P G0 n (X.blk s H scope (compEnvC scope cl C X.env) fp) elt te) (sub : ∀ i ∈ is, i ∈ own.map (·.2) := by decide) (hs : ∀ x, foldedSetIterable iter X.env x = pure x := by intro _; rfl) :
    DF P G0 n X (.ListComp elt [⟨tg, iter, ifs, 0⟩] scope pos) (dLc (own.map (·.2)) ti g tt te) := pe_weak (pe_lc (g := rdG (zOf X P) G0 n is g) (tt := rdT (zOf X P) G0 n tt) (te := rdE (zOf X P) G0 n te) hc hN hi ok hg ht he hs) fun _ _ _ h => lc_read sub h
/-- [e] * k -/
theorem df_rep {b : Expr} {p : Pos} {t : DTE} {u : DTE} (ha : DE P G0 n X e t) (hb : DE P G0 n X b u) (hs : starEach [e] X.env = (false, eval e X.env) :: starEach [] X.env := by rfl) : DF P G0 n X (.BinOp (.List [e] p) .Mult b pos) (fun ρ Q => t ρ fun D ρ1 => u ρ1 fun E ρ2 => match E with
  | .int k => -(2 ^ 63) ≤ k ∧ k < 2 ^ 63 ∧ k.toNat ≤ sizeLine ∧ Q (List.replicate k.toNat D) ρ2
  | _ => False) := pe_weak (pe_op op_rep (pe_lst (pa_cons ha pa_nil hs)) hb) fun σ H Q ⟨F, ρ, G, Q0, s, R, h, k⟩ =>
  ⟨F, ρ, G, _, s, R, h, fun D ρ1 v G1 H1 q1 s1 al1 R1 d1 => ⟨by show 1 ≤ sizeLine; decide, fun p hp => by
    obtain ⟨gp, R1'⟩ := R1.new (o := .lst [v]) s1.2 hp trivial
    have s1' := Ex.new s1.2 gp (o := .lst [v])
    refine ⟨F, ρ1, _, _, (s.trans s1).trans s1', R1', q1, fun E ρ2 v2 G2 H2 q2 s2 al2 R2 d2 => ?_⟩
    split at q2
    · rename_i kk
      cases d2
      obtain ⟨l1, l2, l3, q2⟩ := q2
      have hp2 : H2 p = some (.lst [v]) := R2.sub _ _ (s2.1 _ _ upd_same (fun _ z => nomatch z))
      refine ⟨p, kk, [v], rfl, rfl, hp2, l1, l2, by rw [List.length_singleton, Nat.one_mul]; exact l3, fun q hq => ?_⟩
      have e1 : (List.replicate kk.toNat [v]).flatten = List.replicate kk.toNat v := by
        generalize kk.toNat = m
        induction m with
        | zero => rfl
        | succ m ih => rw [List.replicate_succ, List.flatten_cons, ih]; rfl
      rw [e1]
      exact k _ ρ2 _ G2 _ q q2 (s1.trans (s1'.trans s2)) (al1.trans al2) (R2.push hq) (fun o m => by rw [(R2.ex m).1] at hq; cases hq) (dpa_rep (Dw.mono (s1'.trans s2) d1) _)
    · exact q2.elim⟩⟩
end
structure EndsD where
  nx : Sto → Prop
  rt : PyData → Sto → Prop
  bk : Sto → Prop := fun _ => False
  ct : Sto → Prop := fun _ => False
  ro : Oc → Sto → Prop := fun _ _ => False
abbrev DTS := EndsD → Sto → Prop
def LkN (K : Zw) (n : Nat) (Q0 : Sto → Prop) (ρ : Sto) (G : Hp) (Q : L2.St → Hp → Prop) : Prop := ∀ ρ' σ' G' H', Q0 ρ' → Ex K.T G G' → Alike n ρ ρ' → Rep K [] G' ρ' σ' H' → Q σ' H'
structure Lk (K : Zw) (n : Nat) (D0 : EndsD) (ρ : Sto) (G : Hp) (D : Ends) : Prop where
  nx : LkN K n D0.nx ρ G D.nx
  bk : LkN K n D0.bk ρ G D.bk
  ct : LkN K n D0.ct ρ G D.ct
  rt : ∀ Dv ρ' v σ' G' H', D0.rt Dv ρ' → Ex K.T G G' → Alike n ρ ρ' → Rep K [] G' ρ' σ' H' → Dw K G' v Dv → D.rt v H'
  ro : ∀ c ρ' a o σ' G' H', D0.ro c ρ' → Ex K.T G G' → Alike n ρ ρ' → Rep K [] G' ρ' σ' H' → H' a = some o → G' a = none → (∀ (i : Nat) (c' : Oc), i < n → ρ'[i]? ≠ some (.ob a c')) → OcOk K G' a c o → D.rt (.ref a) H'
def rdS (K : Zw) (G0 : Hp) (n : Nat) (t : DTS) : TS := fun D σ H => ∃ ρ G D0, Ex K.T G0 G ∧ Rep K [] G ρ σ H ∧ t D0 ρ ∧ Lk K n D0 ρ G D
def DS (P : Tb) (G0 : Hp) (n : Nat) (X : Cx) (st : Stmt) (t : DTS) : Prop := PS X st (rdS (zOf X P) G0 n t)
def DSs (P : Tb) (G0 : Hp) (n : Nat) (X : Cx) (st : List Stmt) (t : DTS) : Prop := PSs X st (rdS (zOf X P) G0 n t)
section
variable {K : Zw} {n : Nat} {D0 : EndsD} {ρ ρ' : Sto} {G G' H : Hp} {D : Ends} {σ : L2.St}
theorem LkN.after {Q0 : Sto → Prop} {Q : L2.St → Hp → Prop} (k : LkN K n Q0 ρ G Q) (s : Ex K.T G G') (a : Alike n ρ ρ') : LkN K n Q0 ρ' G' Q := fun r σ2 G2 H2 q s2 a2 R => k r σ2 G2 H2 q (s.trans s2) (a.trans a2) R
theorem Lk.after (k : Lk K n D0 ρ G D) (s : Ex K.T G G') (a : Alike n ρ ρ') : Lk K n D0 ρ' G' D := ⟨k.nx.after s a, k.bk.after s a, k.ct.after s a, fun Dv r v σ2 G2 H2 q s2 a2 R d => k.rt Dv r v σ2 G2 H2 q (s.trans s2) (a.trans a2) R d, fun c r b o σ2 G2 H2 q s2 a2 R => k.ro c r b o σ2 G2 H2 q (s.trans s2) (a.trans a2) R⟩
theorem LkN.here {Q0 : Sto → Prop} {Q : L2.St → Hp → Prop} (k : LkN K n Q0 ρ G Q) (t : Tg G K.T) (R : Rep K [] G ρ σ H) (q : Q0 ρ) : Q σ H := k ρ σ G H q (Ex.refl t) .refl R
end
section
variable {P : Tb} {G0 : Hp} {n : Nat} {X : Cx} {st : Stmt} {rest : List Stmt} {t u : DTS} {e c tg iter : Expr} {es : List Expr} {te : DTE} {pos : Pos}
def dSeq (t u : DTS) : DTS := fun D ρ => match D with
  | ⟨nx, rt, bk, ct, ro⟩ => t ⟨u ⟨nx, rt, bk, ct, ro⟩, rt, bk, ct, ro⟩ ρ
theorem dss_nil : DSs P G0 n X [] (fun D ρ => D.nx ρ) := pss_weak pss_nil fun D σ H ⟨ρ, G, D0, s, R, h, k⟩ => k.nx.here s.2 R h
theorem dss_cons (h1 : DS P G0 n X st t) (h2 : DSs P G0 n X rest u) : DSs P G0 n X (st :: rest) (dSeq t u) := pss_weak (pss_cons h1 h2) fun D σ H ⟨ρ, G, D0, s, R, h, k⟩ =>
  match D0, h, k with
  | ⟨nx, rt, bk, ct, ro⟩, h, k => ⟨ρ, G, _, s, R, h, fun ρ' σ' G' H' q s' al R' => ⟨ρ', G', ⟨nx, rt, bk, ct, ro⟩, s.trans s', R', q, k.after s' al⟩, k.bk, k.ct, k.rt, k.ro⟩
theorem dss_one (h1 : DS P G0 n X st t) : DSs P G0 n X [st] t := pss_one h1
theorem ds_break : DS P G0 n X (.Break pos) (fun D ρ => D.bk ρ) := ps_weak ps_break fun D σ H ⟨ρ, G, D0, s, R, h, k⟩ => k.bk.here s.2 R h
theorem ds_ret (he : DE P G0 n X e te) : DS P G0 n X (.Return (some e) pos) (fun D ρ => te ρ fun Dv ρ' => D.rt Dv ρ') := ps_weak (ps_ret he) fun D σ H ⟨ρ, G, D0, s, R, h, k⟩ =>
  ⟨[], ρ, G, _, s, R, h, fun Dv ρ' v G' H' q s' al R' d => k.rt _ _ _ _ _ _ q s' al R' d⟩
def dIfS (c : DTT) (t u : DTS) : DTS := fun D ρ => c ρ fun b ρ1 => if b = true then t D ρ1 else u D ρ1
theorem ds_if {a b : List Stmt} {tc : DTT} (hc : DT P G0 n X c tc) (ha : DSs P G0 n X a t) (hb : DSs P G0 n X b u) : DS P G0 n X (.If c a b pos) (dIfS tc t u) := ps_weak (ps_if hc ha hb) fun D σ H ⟨ρ, G, D0, s, R, h, k⟩ =>
  ⟨[], ρ, G, _, s, R, h, fun b ρ' G' H' q s' al R' => by
    cases b with
    | true => exact ⟨ρ', G', D0, s.trans s', R', q, k.after s' al⟩
    | false => exact ⟨ρ', G', D0, s.trans s', R', q, k.after s' al⟩⟩
/-- x = e, and (a, b) = e -/
theorem ds_asg {is : List Nat} {g : DTG} (he : DE P G0 n X e te) (hg : DG P G0 n X is tg g) (hs : swapsWithSole [tg] e pos.line X.env = pure false := by rfl) (hw : swappedStores [tg] e X.env = pure none := by rfl) (h1 : (assignEach [tg] X.env).map (·.2) = [assign tg X.env] := by rfl) : DS P G0 n X (.Assign [tg] e pos) (fun D ρ => te ρ fun Dv ρ' => g Dv ρ' D.nx) :=
  ps_weak (ps_asg he hg hs hw h1) fun D σ H ⟨ρ, G, D0, s, R, h, k⟩ => ⟨[], ρ, G, _, s, R, h, fun Dv ρ' v G' H' q s' al R' d => ⟨[], ρ', G', Dv, _, s.trans s', R', d, q, fun ρ2 σ2 G2 H2 q2 s2 al2 _ R2 => k.nx _ _ _ _ q2 (s'.trans s2) (al.trans al2) R2⟩⟩
theorem ds_set {i : Nat} {x : Str} {pos' : Pos} (hN : X.N.Nodup) (hi : X.N[i]? = some x) (hx : Loc X.env.scope x) (he : DE P G0 n X e te) (hs : swapsWith e (some (.Name x pos')) pos.line X.env = pure false := by rfl) (hf : X.fn x = true ∨ X.env.scope.names.lookup x = some .local := by first | exact .inl rfl | exact .inr rfl | assumption) :
    DS P G0 n X (.Assign [.Name x pos'] e pos) (fun D ρ => te ρ fun Dv ρ' => noOb ρ' i ∧ D.nx (ρ'.set i (.sh Dv))) := ps_weak (ps_set hN hi hx he hs hf) fun D σ H ⟨ρ, G, D0, s, R, h, k⟩ =>
  ⟨[], ρ, G, _, s, R, h, fun Dv ρ' v G' H' ⟨q1, q2⟩ s' al R' d => k.nx _ _ _ _ q2 s' (al.trans (.set q1)) (R'.set (noOb_ne q1) d)⟩
/-- what was made fresh is taken as one's own -/
theorem Rep.take {K : Zw} {F : List (Addr × HO)} {G H : Hp} {ρ : Sto} {σ : L2.St} {p : Addr} {o : HO} {c : Oc} {i : Nat} (R : Rep K ((p, o) :: F) G ρ σ H) (nF : ∀ o, (p, o) ∉ F) (hi : i < ρ.length) (no : noOb ρ i) (d : OcOk K G p c o) :
    Rep K F G (ρ.set i (.ob p c)) (σ.set i (some (.ref p))) H := by
  obtain ⟨e1, e2, e3, _⟩ := R.ex List.mem_cons_self
  have ob' : ∀ {j a c'}, (ρ.set i (.ob p c))[j]? = some (.ob a c') → (j = i ∧ a = p ∧ c' = c) ∨ (j ≠ i ∧ ρ[j]? = some (.ob a c')) := fun {j a c'} e => by
    rcases set_get e with ⟨z, z2, _⟩ | ⟨q, e⟩
    · cases z2
      exact .inl ⟨z, rfl, rfl⟩
    · exact .inr ⟨q, e⟩
  have oth : ∀ {j : Nat} {lc' : Lc}, (ρ.set i (.ob p c))[j]? = some lc' → (∀ a c, lc' ≠ .ob a c) → j ≠ i ∧ ρ[j]? = some lc' := fun {j lc'} e m => by
    rcases set_get e with ⟨_, z, _⟩ | h
    · exact absurd z (m p c)
    · exact h
  refine ⟨by rw [List.length_set, List.length_set]; exact R.len, fun {j D'} e => ?_, fun {j a c'} e => ?_, fun {j a C d D} e => ?_, fun {j O} e => ?_, fun {j j' a c1 c2} e e' => ?_, fun {a o} m => ?_, R.sub, R.nt⟩
  · obtain ⟨q, e⟩ := oth e (fun _ _ z => nomatch z)
    rw [List.getElem?_set_ne (Ne.symm q)]
    exact R.sh e
  · rcases ob' e with ⟨rfl, rfl, rfl⟩ | ⟨q, e⟩
    · exact ⟨by rw [List.getElem?_set_self (by rw [R.len]; exact hi)], e2, _, e1, d⟩
    · rw [List.getElem?_set_ne (Ne.symm q)]
      exact R.ob e
  · obtain ⟨q, e⟩ := oth e (fun _ _ z => nomatch z)
    rw [List.getElem?_set_ne (Ne.symm q)]
    exact R.exc e
  · obtain ⟨q, e⟩ := oth e (fun _ _ z => nomatch z)
    rw [List.getElem?_set_ne (Ne.symm q)]
    exact R.ask e
  · rcases ob' e with ⟨z1, z2, _⟩ | ⟨_, f⟩
    · rcases ob' e' with ⟨z3, _, _⟩ | ⟨_, f'⟩
      · rw [z1, z3]
      · exact absurd ⟨_, _, z2 ▸ f'⟩ e3
    · rcases ob' e' with ⟨_, z2, _⟩ | ⟨_, f'⟩
      · exact absurd ⟨_, _, z2 ▸ f⟩ e3
      · exact R.uniq f f'
  · obtain ⟨h1, h2, h3, h4⟩ := R.ex (List.mem_cons_of_mem _ m)
    refine ⟨h1, h2, fun ⟨j, c', e⟩ => ?_, h4⟩
    rcases ob' e with ⟨_, z, _⟩ | ⟨_, e⟩
    · rw [z] at m
      exact nF o m
    · exact h3 ⟨j, c', e⟩
/-- x = a fresh list, to be changed later on -/
def ownS (i : Nat) (D : EndsD) (ds : List PyData) (ρ : Sto) : Prop := i < ρ.length ∧ noOb ρ i ∧ ∀ a, D.nx (ρ.set i (.ob a (.lst ds)))
theorem own_nx {D0 : EndsD} {D : Ends} {i : Nat} {ρ ρ' : Sto} {G G' H' : Hp} {σ : L2.St} {p : Addr} {o : HO} {c : Oc} (k : Lk (zOf X P) n D0 ρ G D) (h : i < ρ'.length ∧ noOb ρ' i ∧ ∀ a, D0.nx (ρ'.set i (.ob a c))) (s' : Ex P G G') (al : Alike n ρ ρ') (R' : Rep (zOf X P) [(p, o)] G' ρ' σ H') (d : OcOk (zOf X P) G' p c o) : D.nx (σ.set i (some (.ref p))) H' :=
  k.nx _ _ G' H' (h.2.2 p) s' (al.trans (.set h.2.1)) (R'.take (fun o m => nomatch m) h.1 h.2.1 d)
theorem ds_own {i : Nat} {x : Str} {pos' : Pos} {t : DTF} (hN : X.N.Nodup) (hi : X.N[i]? = some x) (hx : Loc X.env.scope x) (he : DF P G0 n X e t) (hs : swapsWith e (some (.Name x pos')) pos.line X.env = pure false := by rfl) (hf : X.fn x = true ∨ X.env.scope.names.lookup x = some .local := by first | exact .inl rfl | exact .inr rfl | assumption) :
    DS P G0 n X (.Assign [.Name x pos'] e pos) (fun D ρ => t ρ fun ds ρ' => ownS i D ds ρ') := ps_weak (ps_set hN hi hx he hs hf) fun D σ H ⟨ρ, G, D0, s, R, h, k⟩ =>
  ⟨[], ρ, G, _, s, R, h, fun Ds ρ' vs G' H' p q s' al R' nF d => own_nx k q s' al R' ⟨_, rfl, d⟩⟩
section
variable {elt : Expr} {ifs : List Expr} {scope : Scope} {own : List (Str × Nat)} {is : List Nat} {ti : DTI} {g : DTG} {tt : DTT} {te : DTE} {spos py : Pos} {y : Str} {i : Nat}
end
/-- a, b = e1, e2 -/
theorem ds_par {i j : Nat} {ta tb : DTE} (hij : i ≠ j) (hps : PS X st (tPar i j (tCons (rdE (zOf X P) G0 n ta) (tCons (rdE (zOf X P) G0 n tb) tNil)))) : DS P G0 n X st (fun D ρ => ta ρ fun D1 ρ1 => tb ρ1 fun D2 ρ2 => noOb ρ2 i ∧ noOb ρ2 j ∧ D.nx ((ρ2.set i (.sh D1)).set j (.sh D2))) := ps_weak hps fun D σ H ⟨ρ, G, D0, s, R, h, k⟩ =>
  ⟨[], ρ, G, _, s, R, h, fun D1 ρ1 v1 G1 H1 q1 s1 al1 R1 d1 => ⟨[], ρ1, G1, _, s.trans s1, R1, q1, fun D2 ρ2 v2 G2 H2 ⟨n1, n2, q2⟩ s2 al2 R2 d2 => ⟨v1, v2, rfl, by
    have nj : noOb (ρ2.set i (.sh D1)) j := by
      unfold noOb at n2 ⊢
      rw [List.getElem?_set_ne hij]
      exact n2
    exact k.nx _ _ _ _ q2 (s1.trans s2) ((al1.trans al2).trans ((Alike.set n1).trans (.set nj))) ((R2.set (noOb_ne n1) (Dw.mono s2 d1)).set (noOb_ne nj) d2)⟩⟩⟩
/-- x += e, whole numbers -/
theorem ds_aug {i : Nat} {f : Int → Int → Int} (hps : PS X st (tAug i (rdE (zOf X P) G0 n te) (ipI f))) : DS P G0 n X st (fun D ρ => known ρ i ∧ noOb ρ i ∧ te ρ fun Dv ρ' => ρ'[i]? = ρ[i]? ∧ match ρ'[i]?, Dv with
  | some (.sh (.int a)), .int b => D.nx (ρ'.set i (.sh (.int (f a b))))
  | _, _ => False) := ps_weak hps fun D σ H ⟨ρ, G, D0, s, R, ⟨h1, h2, h⟩, k⟩ => by
  cases q : ρ[i]? with
  | none => unfold known at h1; rw [q] at h1; exact h1.elim
  | some lc =>
    cases lc with
    | un => unfold known at h1; rw [q] at h1; exact h1.elim
    | ob a c => unfold noOb at h2; rw [q] at h2; exact h2.elim
    | exc a C d D => unfold known at h1; rw [q] at h1; exact h1.elim
    | ask O =>
      obtain ⟨f, hv, _⟩ := R.ask q
      refine ⟨_, hv, [], ρ, G, _, s, R, h, fun Dv ρ' w G' H' ⟨e1, q2⟩ s' al R' d => ?_⟩
      rw [e1, q] at q2
      exact q2.elim
    | sh A =>
      obtain ⟨v, hv, dv⟩ := R.sh q
      refine ⟨v, hv, [], ρ, G, _, s, R, h, fun Dv ρ' w G' H' ⟨e1, q2⟩ s' al R' d => ?_⟩
      rw [e1, q] at q2
      have no : noOb ρ' i := by unfold noOb; rw [e1, q]; trivial
      cases A with
      | int a =>
        cases Dv with
        | int b =>
          cases dv
          cases d
          exact ⟨_, _, rfl, rfl, k.nx _ _ _ _ q2 s' (al.trans (.set no)) (R'.set (noOb_ne no) (.int _))⟩
        | _ => exact q2.elim
      | _ => exact q2.elim
def isOl (ρ : Sto) (i : Nat) : Prop := match ρ[i]? with
  | some (.ob _ (.lst _)) => True
  | _ => False
theorem ol_at {K : Zw} {F : List (Addr × HO)} {G : Hp} {ρ : Sto} {σ : L2.St} {H : Hp} {i : Nat} (R : Rep K F G ρ σ H) (h : isOl ρ i) : ∃ a, σ[i]? = some (some (.ref a)) ∧ tyV K.K "list" (.ref a) H := by
  unfold isOl at h
  split at h
  · rename_i a ds q
    obtain ⟨h1, h2, o, h3, vs, rfl, h4⟩ := R.ob q
    exact ⟨a, h1, .inl ⟨rfl, vs, .inl (.inl h3)⟩⟩
  · exact h.elim
/-- what holds of the list in slot i -/
def atOl (ρ : Sto) (i : Nat) (k : Addr → List PyData → Prop) : Prop := match ρ[i]? with
  | some (.ob a (.lst ds)) => k a ds
  | _ => False
theorem at_ol {ρ : Sto} {i : Nat} {k : Addr → List PyData → Prop} (h : atOl ρ i k) : ∃ a ds, ρ[i]? = some (.ob a (.lst ds)) ∧ k a ds := by
  unfold atOl at h
  split at h
  · rename_i a ds q
    exact ⟨a, ds, q, h⟩
  · exact h.elim
theorem put_alike {n i : Nat} {ρ : Sto} {a : Addr} {c c' : Oc} (h : ρ[i]? = some (.ob a c)) : Alike n ρ (ρ.set i (.ob a c')) := fun j b d _ e => by
  by_cases q : j = i
  · subst q
    rw [h] at e
    cases e
    exact ⟨c', by rw [List.getElem?_set_self (List.getElem?_eq_some_iff.mp h).1]⟩
  · exact ⟨d, by rw [List.getElem?_set_ne (Ne.symm q)]; exact e⟩
/-- xs.append(e) -/
theorem ds_app {i : Nat} (hps : PS X st (tDrop (tBM X.K "list" rAppend (tVar i) (tCons (rdE (zOf X P) G0 n te) tNil)))) : DS P G0 n X st (fun D ρ => isOl ρ i ∧ te ρ fun Dv ρ' => atOl ρ' i fun a ds => ds.length < sizeLine ∧ D.nx (ρ'.set i (.ob a (.lst (ds ++ [Dv]))))) := ps_weak hps fun D σ H ⟨ρ, G, D0, s, R, ⟨h0, h⟩, k⟩ => by
  obtain ⟨a, h1, h2⟩ := ol_at R h0
  refine ⟨_, h1, h2, [], ρ, G, _, s, R, h, fun Dv ρ' v G' H' q s' al R' d => ?_⟩
  obtain ⟨a', ds, e, l, q⟩ := at_ol q
  obtain ⟨h3, h4, o, h5, vs, rfl, h6⟩ := R'.ob e
  rw [h1] at h3
  cases h3
  exact ⟨a, vs, v, rfl, rfl, h5, by rw [dpa_len h6]; exact l, k.nx _ _ _ _ q s' (al.trans (put_alike e)) (R'.put e ⟨_, rfl, dpa_app h6 (.cons d .nil)⟩)⟩
theorem dpa_last {K : Zw} {H : Hp} {xs : List V} {ds : List PyData} {d : PyData} (h : DwAll K H xs ds) (e : ds.getLast? = some d) : ∃ x, xs[xs.length - 1]? = some x ∧ Dw K H x d := by
  rw [List.getLast?_eq_getElem?, ← dpa_len h] at e
  exact dpa_at' h e
theorem dpa_init {K : Zw} {H : Hp} {xs : List V} {ds : List PyData} (h : DwAll K H xs ds) : DwAll K H xs.dropLast ds.dropLast := by
  rw [List.dropLast_eq_take, List.dropLast_eq_take, dpa_len h]
  exact dpa_take _ h
def popW (ρ : Sto) (i : Nat) (k : PyData → Sto → Prop) : Prop := atOl ρ i fun a ds => match ds.getLast? with
  | some d => k d (ρ.set i (.ob a (.lst ds.dropLast)))
  | none => False
theorem pop_read {i : Nat} {σ : L2.St} {H G : Hp} {ρ : Sto} {Q : VK} {q : PyData → Sto → Prop} (t : Tg G P) (R : Rep (zOf X P) [] G ρ σ H) (h : popW ρ i q) (k : ∀ d v ρ' H', q d ρ' → Alike n ρ ρ' → Rep (zOf X P) [] G ρ' σ H' → Dw (zOf X P) G v d → Q v H') : tBM0 X.K "list" rPop (tVar i) σ H Q := by
  unfold popW at h
  obtain ⟨a, ds, e, h⟩ := at_ol h
  split at h
  · rename_i d e2
    obtain ⟨h3, h4, o, h5, vs, rfl, h6⟩ := R.ob e
    obtain ⟨x, h7, h8⟩ := dpa_last h6 e2
    exact ⟨_, h3, .inl ⟨rfl, vs, .inl (.inl h5)⟩, a, vs, x, rfl, rfl, h5, h7, k d x _ _ h (put_alike e) (R.put e ⟨_, rfl, dpa_init h6⟩) h8⟩
  · exact h.elim
/-- xs.pop() -/
theorem ds_pop {i : Nat} (hps : PS X st (tDrop (tBM0 X.K "list" rPop (tVar i)))) : DS P G0 n X st (fun D ρ => popW ρ i fun _ ρ' => D.nx ρ') := ps_weak hps fun D σ H ⟨ρ, G, D0, s, R, h, k⟩ =>
  pop_read s.2 R h fun d v ρ' H' q al R' _ => k.nx _ _ _ _ q (Ex.refl s.2) al R'
/-- from here on the object in slot i stands for good -/
def frzD (i : Nat) (ρ : Sto) : Sto := match ρ[i]? with
  | some (.ob _ (.lst ds)) => ρ.set i (.sh (.list ds))
  | some (.ob _ (.dic ds)) => ρ.set i (.sh (.dict ds))
  | _ => ρ
theorem ds_frz (i : Nat) (hi : n ≤ i) (h : DS P G0 n X st t) : DS P G0 n X st (fun D ρ => t D (frzD i ρ)) := ps_weak h fun D σ H ⟨ρ, G, D0, s, R, h, k⟩ => by
  have h : t D0 (frzD i ρ) := h
  have go : ∀ {a c D1}, ρ[i]? = some (.ob a c) → ocD c = some D1 → t D0 (ρ.set i (.sh D1)) → rdS (zOf X P) G0 n t D σ H := fun {a c D1} q e h => by
    obtain ⟨G', s', R'⟩ := R.freeze s.2 q e
    refine ⟨_, G', D0, s.trans s', R', h, k.after s' fun j b c hj e => ?_⟩
    have q2 : i ≠ j := by omega
    exact ⟨c, by rw [List.getElem?_set_ne q2]; exact e⟩
  unfold frzD at h
  split at h
  · rename_i a ds q
    exact go q rfl h
  · rename_i a ds q
    exact go q rfl h
  · exact ⟨ρ, G, D0, s, R, h, k⟩
def forW (g : DTG) (tb : DTS) (D : EndsD) : List PyData → Sto → Prop
  | [], ρ => D.nx ρ
  | d :: ds, ρ => g d ρ fun ρ' => tb { D with nx := forW g tb D ds, ct := forW g tb D ds, bk := D.nx } ρ'
def dFor (ti : DTI) (g : DTG) (tb : DTS) : DTS := fun D ρ => ti ρ fun ds ρ1 => forW g tb D ds ρ1
theorem ds_for {is : List Nat} {ti : DTI} {g : DTG} {tb : DTS} {body : List Stmt} (hp : PassesOwn (model X.prog X.w) X.A X.env X.xe) (hc : X.calm = true) (hi : DI P G0 n X tg iter ti) (hg : DG P G0 n X is tg g) (hb : DSs P G0 n X body tb) (hs : ∀ x, foldedSetIterable iter X.env x = pure x := by intro _; rfl) :
    DS P G0 n X (.For tg iter body [] pos) (dFor ti g tb) := ps_weak (ps_for hp hc hi hg hb hs) fun D σ H ⟨ρ, G, D0, s, R, h, k⟩ =>
  ⟨[], ρ, G, _, s, R, h, fun Ds ρ1 G1 H1 J q1 s1 al1 R1 w => by
    refine ⟨fun i m σ2 H2 => m = Ds.length - i ∧ i ≤ Ds.length ∧ ∃ ρ2 G2, Ex P G1 G2 ∧ Alike n ρ1 ρ2 ∧ Rep (zOf X P) [] G2 ρ2 σ2 H2 ∧ forW g tb D0 (Ds.drop i) ρ2, ⟨_, by rw [Nat.sub_zero], Nat.zero_le _, ρ1, G1, Ex.refl s1.2, .refl, R1, q1⟩, ?_⟩
    rintro i m σ2 H2 ⟨rfl, hi, ρ2, G2, s2, al2, R2, q2⟩
    have s02 := (s.trans s1).trans s2
    by_cases hl : i < Ds.length
    · refine .inr ⟨w.goes hl s2 R2, fun σ' H' => i + 1 ≤ Ds.length ∧ ∃ ρ2 G2, Ex P G1 G2 ∧ Alike n ρ1 ρ2 ∧ Rep (zOf X P) [] G2 ρ2 σ' H' ∧ forW g tb D0 (Ds.drop (i + 1)) ρ2, fun σ' H' z => ⟨_, by omega, rfl, z⟩, fun x H3 y => ?_⟩
      obtain ⟨d, G3, e3, s3, R3, dx⟩ := w.yields hl s2 R2 y
      rw [List.drop_eq_getElem_cons hl] at q2
      have e3' : Ds[i] = d := by rw [List.getElem?_eq_getElem hl] at e3; exact Option.some.inj e3
      rw [e3'] at q2
      unfold forW at q2
      refine ⟨[], ρ2, G3, d, _, s02.trans s3, R3, dx, q2, fun ρ4 σ4 G4 H4 q4 s4 al4 _ R4 => ⟨ρ4, G4, _, (s02.trans s3).trans s4, R4, q4, ?_⟩⟩
      have on : LkN (zOf X P) n (forW g tb D0 (Ds.drop (i + 1))) ρ4 G4 (fun σ' H' => i + 1 ≤ Ds.length ∧ ∃ ρ2 G2, Ex P G1 G2 ∧ Alike n ρ1 ρ2 ∧ Rep (zOf X P) [] G2 ρ2 σ' H' ∧ forW g tb D0 (Ds.drop (i + 1)) ρ2) := fun ρ5 σ5 G5 H5 q5 s5 al5 R5 => ⟨hl, ρ5, G5, ((s2.trans s3).trans s4).trans s5, (al2.trans al4).trans al5, R5, q5⟩
      have kk := k.after (((s1.trans s2).trans s3).trans s4) ((al1.trans al2).trans al4)
      exact ⟨on, kk.nx, on, kk.rt, kk.ro⟩
    · have e : i = Ds.length := by omega
      subst e
      rw [List.drop_length] at q2
      exact .inl ⟨w.stops s2 R2, k.nx _ _ _ _ q2 (s1.trans s2) (al1.trans al2) R2⟩⟩
def dWh (c : DTT) (tb : DTS) : DTS := fun D ρ => ∃ W : Nat → Sto → Prop, (∃ m, W m ρ) ∧ ∀ m ρ, W m ρ → c ρ fun b ρ1 => if b = true then tb { D with nx := fun ρ' => ∃ m', m' < m ∧ W m' ρ', ct := fun ρ' => ∃ m', m' < m ∧ W m' ρ', bk := D.nx } ρ1 else D.nx ρ1
theorem ds_while {tc : DTT} {tb : DTS} {body : List Stmt} (hp : PassesOwn (model X.prog X.w) X.A X.env X.xe) (hc : DT P G0 n X c tc) (hb : DSs P G0 n X body tb) : DS P G0 n X (.While c body [] pos) (dWh tc tb) := ps_weak (ps_while hp hc hb) fun D σ H ⟨ρ, G, D0, s, R, ⟨W, ⟨m0, w0⟩, turn⟩, k⟩ => by
  refine ⟨fun m σ2 H2 => ∃ ρ2 G2, Ex P G G2 ∧ Alike n ρ ρ2 ∧ Rep (zOf X P) [] G2 ρ2 σ2 H2 ∧ W m ρ2, ⟨m0, ρ, G, Ex.refl s.2, .refl, R, w0⟩, ?_⟩
  rintro m σ2 H2 ⟨ρ2, G2, s2, al2, R2, w2⟩
  refine ⟨[], ρ2, G2, _, s.trans s2, R2, turn m ρ2 w2, fun b ρ3 G3 H3 q3 s3 al3 R3 => ?_⟩
  cases b with
  | false => exact k.nx _ _ _ _ q3 (s2.trans s3) (al2.trans al3) R3
  | true =>
    refine ⟨fun σ' H' => ∃ m', m' < m ∧ ∃ ρ2 G2, Ex P G G2 ∧ Alike n ρ ρ2 ∧ Rep (zOf X P) [] G2 ρ2 σ' H' ∧ W m' ρ2, fun σ' H' z => z, ρ3, G3, _, (s.trans s2).trans s3, R3, q3, ?_⟩
    have on : LkN (zOf X P) n (fun ρ' => ∃ m', m' < m ∧ W m' ρ') ρ3 G3 (fun σ' H' => ∃ m', m' < m ∧ ∃ ρ2 G2, Ex P G G2 ∧ Alike n ρ ρ2 ∧ Rep (zOf X P) [] G2 ρ2 σ' H' ∧ W m' ρ2) := fun ρ5 σ5 G5 H5 ⟨m', hm, w⟩ s5 al5 R5 => ⟨m', hm, ρ5, G5, (s2.trans s3).trans s5, (al2.trans al3).trans al5, R5, w⟩
    have kk := k.after (s2.trans s3) (al2.trans al3)
    exact ⟨on, kk.nx, on, kk.rt, kk.ro⟩
end
end Dl
set_option Elab.async false
set_option linter.all false
set_option maxRecDepth 100000
set_option maxHeartbeats 4000000
namespace Dl
open PySem PySem.Spec PyProof PyProof.Rows L2 So Da
abbrev ErD := Addr × PyData
abbrev EK := ErD → Prop
structure Er (K : PySem.W.Frag) (mg : Str → Option Value) (x q an : Str) (st : Stmt) (C fI : Addr) (fdI : FuncData) : Prop where
  T : OexC K C
  na : PySem.W.findIn K (.ref C) an = some none
  ini : PySem.W.findIn K (.ref C) "__init__" = some (some (.ref fI))
  ty : PySem.W.typeIn K (.ref fI) = some (.type "function")
  F : Fun K "__init__" q (inClass st 0) fI fdI
  b : Binds K fdI ["self", an] []
  g : mg x = some (.ref C)
  te : PySem.W.exmOne K (.ref C) (.ref C) = some true
def spIni (C : Addr) (an : Str) : Sp := fun vs H Q _ => ∃ (a : Addr) (v : V), vs = [.ref a, v] ∧ H a = some (exo a C none) ∧ ∀ dx, H dx = none → dx ≠ a → Q .non (upd (upd H dx (exd dx [(an, v)])) a (exo a C (some dx)))
/-- the heap behind a raise -/
theorem raised {C : Addr} {H : Hp} {v : V} {a dx : Addr} {an : Str} (ha : H a = none) (hd : H dx = none) :
    ∀ b o, H b = some o → upd (del (upd (upd (upd H a (exo a C none)) dx (exd dx [(an, v)])) a (exo a C (some dx))) a) dx (.xd [(an, v)]) b = some o := fun b o e => by
  have h1 := ne_of_none e ha
  have h2 := ne_of_none e hd
  rw [upd_ne h2, del_ne h1, upd_ne h1, upd_ne h2, upd_ne h1]
  exact e
/-- what a raise's reading asks -/
theorem mk_err {C : Addr} {H : Hp} {E : XK} {v : V} {an : Str} (r : ∀ d H', H d = none → (∀ b o, H b = some o → H' b = some o) → H' d = some (.xd [(an, v)]) → E (.ref C) (some d) H') : [v].length ≤ 1000 ∧ ∀ a, H a = none → spIni C an (.ref a :: ([v] ++ [])) (upd H a (exo a C none))
    (fun u H2 => u = .non ∧ ∃ (d : Addr) (fs : List (Str × V)), H2 a = some (exo a C (some d)) ∧ H2 d = some (exd d fs) ∧ H d = none ∧ E (.ref C) (some d) (upd (del H2 a) d (.xd fs))) (fun _ _ _ => False) := by
  refine ⟨by show 1 ≤ 1000; decide, fun a ha => ⟨a, v, rfl, upd_same, fun dx n1 n2 => ⟨rfl, dx, [(an, v)], upd_same, ?_, ?_, ?_⟩⟩⟩
  · rw [upd_ne n2, upd_same]
  · rwa [upd_ne n2] at n1
  · rw [upd_ne n2] at n1
    exact r dx _ n1 (raised ha n1) upd_same
/-- what is wished of errors -/
def ErrL (K : Zw) (G0 : Hp) (E : XK) (er : EK) : Prop := ∀ C D d v G' H', er (C, D) → Ex K.T G0 G' → Sub G' H' → NT G' → Xd K C G' d v → Dw K G' v D → E (.ref C) (some d) H'
theorem ErrL.after {K : Zw} {G0 G : Hp} {E : XK} {er : EK} (h : ErrL K G0 E er) (s : Ex K.T G0 G) : ErrL K G E er := fun C D d v G' H' q s' => h C D d v G' H' q (s.trans s')
section
variable {P : Tb} {G0 : Hp} {n : Nat} {X : Cx} {st : Stmt} {e : Expr} {te : DTE}
/-- raise C(e) -/
theorem ds_raise {C : Addr} {an : Str} {E : XK} {er : EK} (ha : P.an C = an) (hE : ErrL (zOf X P) G0 E er) (hps : PS X st (fun _ σ H => tMkO C (spIni C an) [] (tCons (rdE (zOf X P) G0 n te) tNil) σ H fun cls d H' => E cls d H')) : DS P G0 n X st (fun _ ρ => te ρ fun Dv _ => er (C, Dv)) := ps_weak hps fun D σ H ⟨ρ, G, D0, s, R, h, k⟩ =>
  ⟨[], ρ, G, _, s, R, h, fun Dv ρ' v G' H' q s' al R' d => mk_err fun dd H2 n1 k x => by
    have gn := R'.gnone n1
    have s2 : Ex P G' (upd G' dd (.xd [(an, v)])) := Ex.new s'.2 gn
    refine hE C Dv dd v _ H2 q ((s.trans s').trans s2) (fun b o e => ?_) (R'.nt.upd trivial) (by unfold Xd; rw [show (zOf X P).T.an C = an from ha]; exact upd_same) (d.mono s2)
    by_cases z : b = dd
    · rw [z, upd_same] at e
      cases e
      rw [z]
      exact x
    · rw [upd_ne z] at e
      exact k b o (R'.sub b o e)⟩
end
abbrev DTRs := Sto → (List Rv → Sto → Prop) → Prop
def RvAll (K : Zw) (G : Hp) (σ : L2.St) : List V → List Rv → Prop
  | [], [] => True
  | v :: vs, r :: rs => RvOk K G σ v r ∧ RvAll K G σ vs rs
  | _, _ => False
theorem RvAll.mono {K : Zw} {G G' : Hp} {σ : L2.St} (s : Ex K.T G G') : ∀ {vs : List V} {rs : List Rv}, RvAll K G σ vs rs → RvAll K G' σ vs rs
  | [], [], _ => trivial
  | _ :: _, _ :: _, h => ⟨h.1.mono s, RvAll.mono s h.2⟩
theorem RvAll.at {K : Zw} {G : Hp} {σ : L2.St} : ∀ {vs : List V} {rs : List Rv} {k : Nat} {r : Rv}, RvAll K G σ vs rs → rs[k]? = some r → ∃ v, vs[k]? = some v ∧ RvOk K G σ v r
  | [], [], _, _, _, e => by simp at e
  | v :: _, r' :: _, 0, r, h, e => by
    cases e
    exact ⟨v, rfl, h.1⟩
  | _ :: vs, _ :: rs, k + 1, r, h, e => RvAll.at (k := k) h.2 (by simpa using e)
theorem RvAll.len {K : Zw} {G : Hp} {σ : L2.St} : ∀ {vs : List V} {rs : List Rv}, RvAll K G σ vs rs → vs.length = rs.length
  | [], [], _ => rfl
  | _ :: _, _ :: _, h => congrArg Nat.succ (RvAll.len h.2)
def KnRs (K : Zw) (F : List (Addr × HO)) (n : Nat) (Q0 : List Rv → Sto → Prop) (ρ : Sto) (G : Hp) (σ : L2.St) (Q : List V → Hp → Prop) : Prop :=
  ∀ rs ρ' vs G' H', Q0 rs ρ' → Ex K.T G G' → Alike n ρ ρ' → Rep K F G' ρ' σ H' → RvAll K G' σ vs rs → Q vs H'
def rdRs (K : Zw) (G0 : Hp) (n : Nat) (t : DTRs) : TA := fun σ H Q => ∃ F ρ G Q0, Ex K.T G0 G ∧ Rep K F G ρ σ H ∧ t ρ Q0 ∧ KnRs K F n Q0 ρ G σ Q
def DRs (P : Tb) (G0 : Hp) (n : Nat) (X : Cx) (es : List Expr) (t : DTRs) : Prop := PA X es (rdRs (zOf X P) G0 n t)
section
variable {P : Tb} {G0 : Hp} {n : Nat} {X : Cx} {e : Expr} {es : List Expr}
theorem drs_nil : DRs P G0 n X [] (fun ρ Q => Q [] ρ) := pa_weak pa_nil fun σ H Q ⟨F, ρ, G, Q0, s, R, h, k⟩ => k _ ρ _ G H h (Ex.refl s.2) Alike.refl R trivial
theorem drs_cons {t : DTR} {u : DTRs} (h : DR P G0 n X e t) (r : DRs P G0 n X es u) (hs : starEach (e :: es) X.env = (false, eval e X.env) :: starEach es X.env := by rfl) : DRs P G0 n X (e :: es) (fun ρ Q => t ρ fun r ρ1 => u ρ1 fun rs ρ2 => Q (r :: rs) ρ2) :=
  pa_weak (pa_cons h r hs) fun σ H Q ⟨F, ρ, G, Q0, s, R, h, k⟩ => ⟨F, ρ, G, _, s, R, h, fun r1 ρ' v G' H' q s' al R' d => ⟨F, ρ', G', _, s.trans s', R', q, fun rs ρ2 vs G2 H2 q2 s2 al2 R2 d2 => k _ ρ2 _ G2 H2 q2 (s'.trans s2) (al.trans al2) R2 ⟨d.mono s2, d2⟩⟩⟩
end
abbrev TD := List Lc → (PyData → List Lc → Prop) → EK → Prop
/-- the same arguments, the objects of one's own perhaps changed -/
inductive Same : List Lc → List Lc → Prop
  | nil : Same [] []
  | un {as bs : List Lc} : Same as bs → Same (.un :: as) (.un :: bs)
  | sh {D : PyData} {as bs : List Lc} : Same as bs → Same (.sh D :: as) (.sh D :: bs)
  | ob {a : Addr} {c c' : Oc} {as bs : List Lc} : Same as bs → Same (.ob a c :: as) (.ob a c' :: bs)
  | exc {a C d : Addr} {D : PyData} {as bs : List Lc} : Same as bs → Same (.exc a C d D :: as) (.exc a C d D :: bs)
  | ask {O : Fk} {as bs : List Lc} : Same as bs → Same (.ask O :: as) (.ask O :: bs)
theorem Same.len : ∀ {as bs : List Lc}, Same as bs → as.length = bs.length
  | _, _, .nil => rfl
  | _, _, .un h => congrArg Nat.succ h.len
  | _, _, .sh h => congrArg Nat.succ h.len
  | _, _, .ob h => congrArg Nat.succ h.len
  | _, _, .exc h => congrArg Nat.succ h.len
  | _, _, .ask h => congrArg Nat.succ h.len
theorem Same.fwd {a : Addr} {c : Oc} : ∀ {as bs : List Lc} {k : Nat}, Same as bs → as[k]? = some (.ob a c) → ∃ c', bs[k]? = some (.ob a c')
  | _, _, 0, .ob h, e => by cases e; exact ⟨_, rfl⟩
  | _, _, k + 1, .un h, e => Same.fwd (k := k) h (by simpa using e)
  | _, _, k + 1, .sh h, e => Same.fwd (k := k) h (by simpa using e)
  | _, _, k + 1, .ob h, e => Same.fwd (k := k) h (by simpa using e)
  | _, _, k + 1, .exc h, e => Same.fwd (k := k) h (by simpa using e)
  | _, _, k + 1, .ask h, e => Same.fwd (k := k) h (by simpa using e)
  | _, _, _, .nil, e => by simp at e
theorem Same.bwd {a : Addr} {c : Oc} : ∀ {as bs : List Lc} {k : Nat}, Same as bs → bs[k]? = some (.ob a c) → ∃ c', as[k]? = some (.ob a c')
  | _, _, 0, .ob h, e => by cases e; exact ⟨_, rfl⟩
  | _, _, k + 1, .un h, e => Same.bwd (k := k) h (by simpa using e)
  | _, _, k + 1, .sh h, e => Same.bwd (k := k) h (by simpa using e)
  | _, _, k + 1, .ob h, e => Same.bwd (k := k) h (by simpa using e)
  | _, _, k + 1, .exc h, e => Same.bwd (k := k) h (by simpa using e)
  | _, _, k + 1, .ask h, e => Same.bwd (k := k) h (by simpa using e)
  | _, _, _, .nil, e => by simp at e
theorem Same.shw {D : PyData} : ∀ {as bs : List Lc} {k : Nat}, Same as bs → bs[k]? = some (.sh D) → as[k]? = some (.sh D)
  | _, _, 0, .sh h, e => by cases e; rfl
  | _, _, k + 1, .un h, e => by simpa using Same.shw (k := k) h (by simpa using e)
  | _, _, k + 1, .sh h, e => by simpa using Same.shw (k := k) h (by simpa using e)
  | _, _, k + 1, .ob h, e => by simpa using Same.shw (k := k) h (by simpa using e)
  | _, _, k + 1, .exc h, e => by simpa using Same.shw (k := k) h (by simpa using e)
  | _, _, k + 1, .ask h, e => by simpa using Same.shw (k := k) h (by simpa using e)
  | _, _, _, .nil, e => by simp at e
theorem Same.exw {a C d : Addr} {D : PyData} : ∀ {as bs : List Lc} {k : Nat}, Same as bs → bs[k]? = some (.exc a C d D) → as[k]? = some (.exc a C d D)
  | _, _, 0, .exc h, e => by cases e; rfl
  | _, _, k + 1, .un h, e => by simpa using Same.exw (k := k) h (by simpa using e)
  | _, _, k + 1, .sh h, e => by simpa using Same.exw (k := k) h (by simpa using e)
  | _, _, k + 1, .ob h, e => by simpa using Same.exw (k := k) h (by simpa using e)
  | _, _, k + 1, .exc h, e => by simpa using Same.exw (k := k) h (by simpa using e)
  | _, _, k + 1, .ask h, e => by simpa using Same.exw (k := k) h (by simpa using e)
  | _, _, _, .nil, e => by simp at e
theorem Same.asw {O : Fk} : ∀ {as bs : List Lc} {k : Nat}, Same as bs → bs[k]? = some (.ask O) → as[k]? = some (.ask O)
  | _, _, 0, .ask h, e => by cases e; rfl
  | _, _, k + 1, .un h, e => by simpa using Same.asw (k := k) h (by simpa using e)
  | _, _, k + 1, .sh h, e => by simpa using Same.asw (k := k) h (by simpa using e)
  | _, _, k + 1, .ob h, e => by simpa using Same.asw (k := k) h (by simpa using e)
  | _, _, k + 1, .exc h, e => by simpa using Same.asw (k := k) h (by simpa using e)
  | _, _, k + 1, .ask h, e => by simpa using Same.asw (k := k) h (by simpa using e)
  | _, _, _, .nil, e => by simp at e
def spT (K : Zw) (T : TD) : Sp := fun vs H Q E => ∃ G as Q0 er, Tg G K.T ∧ Rep K [] G as (vs.map some) H ∧ T as Q0 er ∧
  (∀ D as' v G' H', Q0 D as' → Same as as' → Ex K.T G G' → Rep K [] G' as' (vs.map some) H' → Dw K G' v D → Q v H') ∧ ErrL K G E er
def argLc (ρ : Sto) : Rv → Lc
  | .val D => .sh D
  | .slot i => ρ[i]?.getD .un
def upO (r : Rv) (lc : Lc) (ρ : Sto) : Sto := match r, lc with
  | .slot i, .ob a c => ρ.set i (.ob a c)
  | _, _ => ρ
def upS : List Rv → List Lc → Sto → Sto
  | r :: rs, lc :: as, ρ => upO r lc (upS rs as ρ)
  | [], _, ρ => ρ
  | _ :: _, [], ρ => ρ
def obSlots (ρ : Sto) : List Rv → List Nat
  | [] => []
  | .val _ :: rs => obSlots ρ rs
  | .slot i :: rs => match ρ[i]? with
    | some (.ob _ _) => i :: obSlots ρ rs
    | _ => obSlots ρ rs
theorem upO_len (r : Rv) (lc : Lc) (ρ : Sto) : (upO r lc ρ).length = ρ.length := by
  unfold upO
  split
  · rw [List.length_set]
  · rfl
theorem upS_len : ∀ (rs : List Rv) (as : List Lc) (ρ : Sto), (upS rs as ρ).length = ρ.length
  | [], _, _ => rfl
  | _ :: _, [], ρ => rfl
  | r :: rs, lc :: as, ρ => (upO_len r lc _).trans (upS_len rs as ρ)
theorem upS_get {ρ : Sto} {i : Nat} (hi : i < ρ.length) : ∀ (rs : List Rv) (as : List Lc), (∃ (k : Nat) (a : Addr) (c : Oc), rs[k]? = some (.slot i) ∧ as[k]? = some (.ob a c) ∧ (upS rs as ρ)[i]? = some (.ob a c)) ∨
    ((upS rs as ρ)[i]? = ρ[i]? ∧ ∀ (k : Nat) (a : Addr) (c : Oc), rs[k]? = some (.slot i) → as[k]? ≠ some (.ob a c))
  | [], as => .inr ⟨rfl, fun k a c e => by simp at e⟩
  | _ :: _, [] => .inr ⟨rfl, fun k a c _ e => by simp at e⟩
  | r :: rs, lc :: as => by
    have ih := upS_get hi rs as
    have next : (∀ a c, ¬ (r = .slot i ∧ lc = .ob a c)) → (upS (r :: rs) (lc :: as) ρ)[i]? = (upS rs as ρ)[i]? → (∃ (k : Nat) (a : Addr) (c : Oc), (r :: rs)[k]? = some (.slot i) ∧ (lc :: as)[k]? = some (.ob a c) ∧ (upS (r :: rs) (lc :: as) ρ)[i]? = some (.ob a c)) ∨
      ((upS (r :: rs) (lc :: as) ρ)[i]? = ρ[i]? ∧ ∀ (k : Nat) (a : Addr) (c : Oc), (r :: rs)[k]? = some (.slot i) → (lc :: as)[k]? ≠ some (.ob a c)) := fun no e => by
      rcases ih with ⟨k, a, c, h1, h2, h3⟩ | ⟨h1, h2⟩
      · exact .inl ⟨k + 1, a, c, by simpa using h1, by simpa using h2, e.trans h3⟩
      · refine .inr ⟨e.trans h1, fun k a c e1 e2 => ?_⟩
        cases k with
        | zero =>
          have e1 : some r = some (Rv.slot i) := e1
          have e2 : some lc = some (Lc.ob a c) := e2
          exact no a c ⟨Option.some.inj e1, Option.some.inj e2⟩
        | succ k => exact h2 k a c (by simpa using e1) (by simpa using e2)
    cases r with
    | val D => exact next (fun a c z => nomatch z.1) rfl
    | slot j =>
      cases lc with
      | un => exact next (fun a c z => nomatch z.2) rfl
      | sh D => exact next (fun a c z => nomatch z.2) rfl
      | exc a C d D => exact next (fun a c z => nomatch z.2) rfl
      | ask O => exact next (fun a c z => nomatch z.2) rfl
      | ob a c =>
        by_cases q : j = i
        · subst q
          refine .inl ⟨0, a, c, rfl, rfl, ?_⟩
          show ((upS rs as ρ).set j (.ob a c))[j]? = _
          rw [List.getElem?_set_self (by rw [upS_len]; exact hi)]
        · refine next (fun a' c' z => q (Rv.slot.inj z.1)) ?_
          show ((upS rs as ρ).set j (.ob a c))[i]? = _
          rw [List.getElem?_set_ne q]
def ownL : List Lc → List Addr
  | [] => []
  | .ob a _ :: r => a :: ownL r
  | _ :: r => ownL r
theorem mem_ownL {a : Addr} : ∀ {ρ : List Lc}, a ∈ ownL ρ ↔ Owns ρ a
  | [] => ⟨(fun h => nomatch h), fun ⟨i, c, e⟩ => by simp at e⟩
  | lc :: r => by
    have ih := mem_ownL (a := a) (ρ := r)
    have step : Owns r a → Owns (lc :: r) a := fun ⟨i, c, e⟩ => ⟨i + 1, c, by simpa using e⟩
    have back : (∀ c, lc ≠ .ob a c) → Owns (lc :: r) a → Owns r a := fun no ⟨i, c, e⟩ => by
      cases i with
      | zero => exact absurd (Option.some.inj (show some lc = some (Lc.ob a c) from e)) (no c)
      | succ i => exact ⟨i, c, by simpa using e⟩
    cases lc with
    | un => exact ih.trans ⟨step, back fun c z => nomatch z⟩
    | sh D => exact ih.trans ⟨step, back fun c z => nomatch z⟩
    | exc a C d D => exact ih.trans ⟨step, back fun c z => nomatch z⟩
    | ask O => exact ih.trans ⟨step, back fun c z => nomatch z⟩
    | ob b c =>
      show a ∈ b :: ownL r ↔ _
      rw [List.mem_cons, ih]
      refine ⟨fun h => h.elim (fun z => ⟨0, c, by rw [z]; rfl⟩) step, fun h => ?_⟩
      by_cases q : a = b
      · exact .inl q
      · exact .inr (back (fun c' z => q (Lc.ob.inj z).1.symm) h)
section
variable {K : Zw} {F : List (Addr × HO)} {G G' H H' : Hp} {ρ : Sto} {σ : L2.St} {vs : List V} {rs : List Rv} {as' : List Lc}
/-- what a call hides -/
def hidL (F : List (Addr × HO)) (ρ : Sto) (as : List Lc) : List Addr := (ownL ρ).filter (fun a => decide (a ∉ ownL as)) ++ F.map (·.1)
theorem mem_hidL {as : List Lc} {a : Addr} : a ∈ hidL F ρ as ↔ (Owns ρ a ∧ ¬ Owns as a) ∨ ∃ o, (a, o) ∈ F := by
  unfold hidL
  rw [List.mem_append, List.mem_filter, mem_ownL, decide_eq_true_eq, mem_ownL, List.mem_map]
  exact or_congr Iff.rfl ⟨fun ⟨⟨b, o⟩, h1, h2⟩ => ⟨o, by cases h2; exact h1⟩, fun ⟨o, h⟩ => ⟨(a, o), h, rfl⟩⟩
abbrev argsOf (ρ : Sto) (rs : List Rv) : List Lc := rs.map (argLc ρ)
theorem arg_at {k : Nat} {lc : Lc} (h : (argsOf ρ rs)[k]? = some lc) : ∃ r, rs[k]? = some r ∧ argLc ρ r = lc := by
  rw [List.getElem?_map] at h
  cases e : rs[k]? with
  | none => rw [e] at h; cases h
  | some r => rw [e] at h; exact ⟨r, rfl, Option.some.inj h⟩
theorem argLc_ob {r : Rv} {a : Addr} {c : Oc} (h : argLc ρ r = .ob a c) : ∃ i, r = .slot i ∧ ρ[i]? = some (.ob a c) := by
  cases r with
  | val D => exact nomatch h
  | slot i =>
    refine ⟨i, rfl, ?_⟩
    unfold argLc at h
    dsimp only at h
    cases e : ρ[i]? with
    | none => rw [e] at h; exact nomatch h
    | some lc => rw [e] at h; exact congrArg some h
theorem argLc_sh {r : Rv} {D : PyData} (h : argLc ρ r = .sh D) : r = .val D ∨ ∃ i, r = .slot i ∧ ρ[i]? = some (.sh D) := by
  cases r with
  | val D' => cases h; exact .inl rfl
  | slot i =>
    refine .inr ⟨i, rfl, ?_⟩
    unfold argLc at h
    dsimp only at h
    cases e : ρ[i]? with
    | none => rw [e] at h; exact nomatch h
    | some lc => rw [e] at h; exact congrArg some h
theorem own_arg {a : Addr} (h : Owns (argsOf ρ rs) a) : ∃ (k i : Nat) (c : Oc), rs[k]? = some (.slot i) ∧ ρ[i]? = some (.ob a c) := by
  obtain ⟨k, c, e⟩ := h
  obtain ⟨r, h1, h2⟩ := arg_at e
  obtain ⟨i, rfl, h3⟩ := argLc_ob h2
  exact ⟨k, i, c, h1, h3⟩
theorem nodup_slots : ∀ {rs : List Rv} {k k' i : Nat} {a : Addr} {c : Oc}, (obSlots ρ rs).Nodup → ρ[i]? = some (.ob a c) → rs[k]? = some (.slot i) → rs[k']? = some (.slot i) → k = k' := by
  intro rs
  induction rs with
  | nil => intro k k' i a c _ _ h; simp at h
  | cons r rs ih =>
    intro k k' i a c nd e h h'
    have mem : ∀ {j : Nat} {rs : List Rv}, rs[j]? = some (.slot i) → i ∈ obSlots ρ rs := by
      intro j rs
      induction rs generalizing j with
      | nil => intro h; simp at h
      | cons r rs ih =>
        intro h
        cases j with
        | zero =>
          cases h
          unfold obSlots
          rw [e]
          exact List.mem_cons_self
        | succ j =>
          have m := ih (j := j) (by simpa using h)
          cases r with
          | val D => exact m
          | slot q =>
            unfold obSlots
            split
            · exact List.mem_cons_of_mem _ m
            · exact m
    have tl : (obSlots ρ rs).Nodup := by
      cases r with
      | val D => exact nd
      | slot q =>
        unfold obSlots at nd
        split at nd
        · exact (List.nodup_cons.mp nd).2
        · exact nd
    cases k with
    | zero =>
      cases k' with
      | zero => rfl
      | succ k' =>
        cases h
        unfold obSlots at nd
        rw [e] at nd
        exact absurd (mem (j := k') (by simpa using h')) (List.nodup_cons.mp nd).1
    | succ k =>
      cases k' with
      | zero =>
        cases h'
        unfold obSlots at nd
        rw [e] at nd
        exact absurd (mem (j := k) (by simpa using h)) (List.nodup_cons.mp nd).1
      | succ k' => exact congrArg Nat.succ (ih (k := k) (k' := k') tl e (by simpa using h) (by simpa using h'))
theorem argLc_lc {r : Rv} {lc : Lc} (h : argLc ρ r = lc) (n : ∀ D, lc ≠ .sh D) (m : lc ≠ .un) : ∃ i, r = .slot i ∧ ρ[i]? = some lc := by
  cases r with
  | val D => exact absurd h.symm (n D)
  | slot i =>
    refine ⟨i, rfl, ?_⟩
    unfold argLc at h
    dsimp only at h
    cases e : ρ[i]? with
    | none => rw [e] at h; exact absurd h.symm m
    | some lc => rw [e] at h; exact congrArg some h
def hid (ls : List Addr) (H : Hp) : Hp := mask ls noCo H
def bak (ls : List Addr) (H H' : Hp) : Hp := unmask ls noCo H H'
theorem hid_out {ls : List Addr} {b : Addr} (h : b ∉ ls) : hid ls H b = H b := mask_out h rfl
theorem bak_in {ls : List Addr} {b : Addr} (h : b ∈ ls) : bak ls H H' b = H b := unmask_in h
theorem bak_out {ls : List Addr} {b : Addr} (h : b ∉ ls) : bak ls H H' b = H' b := unmask_out h rfl
/-- the state as the called def sees it -/
theorem Rep.call (R : Rep K F G ρ σ H) (va : RvAll K G σ vs rs) (nd : (obSlots ρ rs).Nodup) : (∀ b ∈ hidL F ρ (argsOf ρ rs), ∃ o, H b = some o ∧ Lcl o) ∧ Rep K [] G (argsOf ρ rs) (vs.map some) (hid (hidL F ρ (argsOf ρ rs)) H) := by
  refine ⟨fun b m => ?_, by rw [List.length_map, List.length_map]; exact va.len, fun {k D} e => ?_, fun {k a c} e => ?_, fun {k a C d D} e => ?_, fun {k O} e => ?_, fun {k k' a c c'} e e' => ?_, fun m => absurd m List.not_mem_nil, fun b u e => ?_, R.nt⟩
  · rcases mem_hidL.mp m with ⟨⟨i, c, e⟩, _⟩ | ⟨o, m⟩
    · obtain ⟨_, _, o, h3, h4⟩ := R.ob e
      exact ⟨o, h3, h4.lcl⟩
    · obtain ⟨h1, _, _, l⟩ := R.ex m
      exact ⟨_, h1, l⟩
  · obtain ⟨r, h1, h2⟩ := arg_at e
    obtain ⟨v, h3, h4⟩ := va.at h1
    refine ⟨v, by rw [List.getElem?_map, h3]; rfl, ?_⟩
    rcases argLc_sh h2 with rfl | ⟨i, rfl, e2⟩
    · exact h4
    · obtain ⟨v', h5, h6⟩ := R.sh e2
      have h4 : σ[i]? = some (some v) := h4
      rw [h4] at h5
      cases h5
      exact h6
  · obtain ⟨r, h1, h2⟩ := arg_at e
    obtain ⟨v, h3, h4⟩ := va.at h1
    obtain ⟨i, rfl, e2⟩ := argLc_ob h2
    obtain ⟨h5, h6, o, h7, h8⟩ := R.ob e2
    have h4 : σ[i]? = some (some v) := h4
    rw [h4] at h5
    cases h5
    refine ⟨by rw [List.getElem?_map, h3]; rfl, h6, o, ?_, h8⟩
    rw [hid_out fun m => ?_]
    · exact h7
    · rcases mem_hidL.mp m with ⟨_, no⟩ | ⟨u, m⟩
      · exact no ⟨k, c, e⟩
      · exact (R.ex m).2.2.1 ⟨i, c, e2⟩
  · obtain ⟨r, h1, h2⟩ := arg_at e
    obtain ⟨v, h3, h4⟩ := va.at h1
    obtain ⟨i, rfl, e2⟩ := argLc_lc h2 (fun _ z => nomatch z) (fun z => nomatch z)
    obtain ⟨h5, h6⟩ := R.exc e2
    have h4 : σ[i]? = some (some v) := h4
    rw [h4] at h5
    cases h5
    exact ⟨by rw [List.getElem?_map, h3]; rfl, h6⟩
  · obtain ⟨r, h1, h2⟩ := arg_at e
    obtain ⟨v, h3, h4⟩ := va.at h1
    obtain ⟨i, rfl, e2⟩ := argLc_lc h2 (fun _ z => nomatch z) (fun z => nomatch z)
    obtain ⟨f, h5, h6⟩ := R.ask e2
    have h4 : σ[i]? = some (some v) := h4
    rw [h4] at h5
    cases h5
    exact ⟨f, by rw [List.getElem?_map, h3]; rfl, h6⟩
  · obtain ⟨r, h1, h2⟩ := arg_at e
    obtain ⟨i, rfl, e2⟩ := argLc_ob h2
    obtain ⟨r', h1', h2'⟩ := arg_at e'
    obtain ⟨i', rfl, e2'⟩ := argLc_ob h2'
    have := R.uniq e2 e2'
    subst this
    exact nodup_slots nd e2 h1 h1'
  · rw [hid_out fun m => ?_]
    · exact R.sub b u e
    · rcases mem_hidL.mp m with ⟨⟨i, c, z⟩, _⟩ | ⟨o, m⟩
      · rw [(R.ob z).2.1] at e
        cases e
      · rw [(R.ex m).2.1] at e
        cases e
theorem upS_alike {n : Nat} (sm : Same (argsOf ρ rs) as') : Alike n ρ (upS rs as' ρ) := fun i a c _ e => by
  have hi := (List.getElem?_eq_some_iff.mp e).1
  rcases upS_get hi rs as' with ⟨k, b, d, h1, h2, h3⟩ | ⟨h1, _⟩
  · obtain ⟨c', h4⟩ := sm.bwd h2
    obtain ⟨r, h5, h6⟩ := arg_at h4
    rw [h1] at h5
    cases h5
    obtain ⟨j, h7, h8⟩ := argLc_ob h6
    cases h7
    rw [e] at h8
    cases h8
    exact ⟨d, h3⟩
  · exact ⟨c, h1.trans e⟩
/-- .. and behind the call -/
theorem Rep.back (t : Tg G K.T) (R : Rep K F G ρ σ H) (va : RvAll K G σ vs rs) (sm : Same (argsOf ρ rs) as') (s : Ex K.T G G') (R' : Rep K [] G' as' (vs.map some) H') (gone : ∀ b ∈ hidL F ρ (argsOf ρ rs), H' b = none) :
    Rep K F G' (upS rs as' ρ) σ (bak (hidL F ρ (argsOf ρ rs)) H H') := by
  have ow' : ∀ {b}, Owns as' b → Owns (argsOf ρ rs) b := fun {b} ⟨k, c, e⟩ => by
    obtain ⟨c', h⟩ := sm.bwd e
    exact ⟨k, c', h⟩
  have free : ∀ {b}, b ∈ hidL F ρ (argsOf ρ rs) → ¬ Owns (argsOf ρ rs) b → G' b = none := fun {b} m no => by
    cases e : G' b with
    | none => rfl
    | some u =>
      have := R'.sub b u e
      rw [gone b m] at this
      cases this
  have get : ∀ {i a c}, (upS rs as' ρ)[i]? = some (.ob a c) → i < ρ.length := fun {i a c} e => by
    have := (List.getElem?_eq_some_iff.mp e).1
    rwa [upS_len] at this
  -- an object of one's own behind the call was one ahead of it, in the same slot
  have was : ∀ {i : Nat} {a : Addr} {c : Oc}, (upS rs as' ρ)[i]? = some (Lc.ob a c) → ∃ c', ρ[i]? = some (Lc.ob a c') := fun {i a c} e => by
    rcases upS_get (get e) rs as' with ⟨k, b, d, h1, h2, h3⟩ | ⟨h1, _⟩
    · rw [h3] at e
      cases e
      obtain ⟨c', h4⟩ := sm.bwd h2
      obtain ⟨r, h5, h6⟩ := arg_at h4
      rw [h1] at h5
      cases h5
      obtain ⟨j, h7, h8⟩ := argLc_ob h6
      cases h7
      exact ⟨c', h8⟩
    · exact ⟨c, h1.symm.trans e⟩
  have old : ∀ {i : Nat} {lc : Lc}, (upS rs as' ρ)[i]? = some lc → (∀ a c, lc ≠ .ob a c) → ρ[i]? = some lc := fun {i lc} e n => by
    have hi : i < ρ.length := by
      have := (List.getElem?_eq_some_iff.mp e).1
      rwa [upS_len] at this
    rcases upS_get hi rs as' with ⟨k, b, d, h1, h2, h3⟩ | ⟨h1, _⟩
    · rw [h3] at e
      exact absurd (Option.some.inj e).symm (n b d)
    · exact h1.symm.trans e
  refine ⟨by rw [upS_len]; exact R.len, fun {i D} e => ?_, fun {i a c} e => ?_, fun {i a C d D} e => ?_, fun {i O} e => ?_, fun {i j a c c'} e e' => ?_, fun {a o} m => ?_, fun b u e => ?_, R'.nt⟩
  · have hi : i < ρ.length := by
      have := (List.getElem?_eq_some_iff.mp e).1
      rwa [upS_len] at this
    rcases upS_get hi rs as' with ⟨k, b, d, h1, h2, h3⟩ | ⟨h1, _⟩
    · rw [h3] at e
      cases e
    · obtain ⟨v, h2, h3⟩ := R.sh (h1.symm.trans e)
      exact ⟨v, h2, Dw.mono s h3⟩
  · rcases upS_get (get e) rs as' with ⟨k, b, d, h1, h2, h3⟩ | ⟨h1, h2⟩
    · rw [h3] at e
      cases e
      obtain ⟨c', h4⟩ := sm.bwd h2
      obtain ⟨r, h5, h6⟩ := arg_at h4
      rw [h1] at h5
      cases h5
      obtain ⟨j, h7, h8⟩ := argLc_ob h6
      cases h7
      obtain ⟨q1, q2, o, q3, q4⟩ := R'.ob h2
      refine ⟨(R.ob h8).1, q2, o, ?_, q4⟩
      rw [bak_out fun m => ?_]
      · exact q3
      · rcases mem_hidL.mp m with ⟨_, no⟩ | ⟨u, m⟩
        · exact no ⟨k, c', h4⟩
        · exact (R.ex m).2.2.1 ⟨i, c', h8⟩
    · have e1 := h1.symm.trans e
      obtain ⟨q1, q2, o, q3, q4⟩ := R.ob e1
      have no : ¬ Owns (argsOf ρ rs) a := fun z => by
        obtain ⟨k, i', c', r1, r2⟩ := own_arg z
        have := R.uniq r2 e1
        subst this
        have h4 : (argsOf ρ rs)[k]? = some (.ob a c') := by
          rw [List.getElem?_map, r1]
          show some (ρ[i']?.getD .un) = _
          rw [r2]
          rfl
        obtain ⟨c2, h5⟩ := sm.fwd h4
        exact h2 k a c2 r1 h5
      have m : a ∈ hidL F ρ (argsOf ρ rs) := mem_hidL.mpr (.inl ⟨⟨i, c, e1⟩, no⟩)
      exact ⟨q1, free m no, o, by rw [bak_in m]; exact q3, q4.mono s⟩
  · obtain ⟨h2, v, h3, h4⟩ := R.exc (old e (fun _ _ z => nomatch z))
    exact ⟨h2, v, s.1 _ _ h3 (fun _ z => nomatch z), h4.mono s⟩
  · obtain ⟨f, h2, h3⟩ := R.ask (old e (fun _ _ z => nomatch z))
    exact ⟨f, h2, h3.mono s⟩
  · obtain ⟨_, h1⟩ := was e
    obtain ⟨_, h2⟩ := was e'
    exact R.uniq h1 h2
  · obtain ⟨h1, h2, h3, h4⟩ := R.ex m
    have mm : a ∈ hidL F ρ (argsOf ρ rs) := mem_hidL.mpr (.inr ⟨o, m⟩)
    refine ⟨by rw [bak_in mm]; exact h1, free mm fun z => ?_, fun ⟨i, c, e⟩ => ?_, h4⟩
    · obtain ⟨k, i', c', r1, r2⟩ := own_arg z
      exact h3 ⟨i', c', r2⟩
    · obtain ⟨c', e'⟩ := was e
      exact h3 ⟨i, c', e'⟩
  · rw [bak_out fun m => ?_]
    · exact R'.sub b u e
    · have := R'.sub b u e
      rw [gone b m] at this
      cases this
end
section
variable {P : Tb} {G0 : Hp} {n : Nat} {X : Cx} {e : Expr} {es : List Expr} {T : TD} {k : Nat} {f : Addr} {fd : FuncData} {ps ks : List Str} {x : Str} {p pos kpos : Pos} {t : DTRs} {nm : Option Str} {kws : List Keyword} {g : List Value → List Value → List Value} {gV : List V → List V → List V}
theorem noCo_of {X : Cx} {σ : L2.St} {co : Addr → Option Obj} (h : Shown X σ [] co) : co = noCo := by
  funext b
  cases e : co b with
  | none => rfl
  | some ob =>
    obtain ⟨j, y, m, _⟩ := h.own b ob e
    exact nomatch m
/-- the call itself, its arguments known -/
theorem call_at {E : XK} {er : EK} {σ : L2.St} {F : List (Addr × HO)} {G : Hp} {ρ : Sto} {H : Hp} {vs : List V} {rs : List Rv} {Q0 : PyData → Sto → Prop} {Q : VK} (hE : ErrL (zOf X P) G0 E er) (s : Ex P G0 G) (R : Rep (zOf X P) F G ρ σ H) (va : RvAll (zOf X P) G σ vs rs) (nd : (obSlots ρ rs).Nodup)
    (q : T (argsOf ρ rs) (fun D as' => Q0 D (upS rs as' ρ)) er) (kk : Kn (zOf X P) F n Q0 ρ G σ Q) : maskK X σ (spT (zOf X P) T) E vs H Q := by
  unfold maskK
  obtain ⟨L, Rc⟩ := R.call va nd
  refine ⟨hidL F ρ (argsOf ρ rs), [], L, (fun j m => nomatch m), fun co sh _ => ?_⟩
  rw [noCo_of sh]
  refine ⟨G, argsOf ρ rs, _, er, s.2, Rc, q, fun D as' v G2 H2 q2 sm s2 R2 d bk => ?_, fun C D d v G2 H2 q2 s2 sub2 nt2 xd dv bk => ?_⟩
  · exact kk _ _ _ _ _ q2 s2 (upS_alike sm) (R.back s.2 va sm s2 R2 bk.gone) d
  · refine hE C D d v G2 _ q2 (s.trans s2) (fun b o e => ?_) nt2 xd dv
    rw [show unmask (hidL F ρ (argsOf ρ rs)) noCo H H2 b = bak (hidL F ρ (argsOf ρ rs)) H H2 b from rfl, bak_out fun m => ?_]
    · exact sub2 b o e
    · have := sub2 b o e
      rw [bk.gone b m] at this
      cases this
def dCall (T : TD) (er : EK) (t : DTRs) : DTE := fun ρ Q => t ρ fun rs ρ1 => (obSlots ρ1 rs).Nodup ∧ T (argsOf ρ1 rs) (fun D as' => Q D (upS rs as' ρ1)) er
theorem call_read {E : XK} {er : EK} (hE : ErrL (zOf X P) G0 E er) {σ : L2.St} {H : Hp} {Q : VK} (h : rdE (zOf X P) G0 n (dCall T er t) σ H Q) : tCallM X (spT (zOf X P) T) (fun _ => E) (rdRs (zOf X P) G0 n t) σ H Q := by
  obtain ⟨F, ρ, G, Q0, s, R, h, kk⟩ := h
  exact ⟨F, ρ, G, _, s, R, h, fun rs ρ1 vs G1 H1 ⟨nd, q⟩ s1 al1 R1 va => call_at hE (s.trans s1) R1 va nd q (kk.after s1 al1)⟩
theorem errL_none {K : Zw} {G : Hp} : ErrL K G (fun _ _ _ => False) (fun _ => False) := fun _ _ _ _ _ _ q _ _ _ _ _ => q
/-- f(..), f lets nothing out -/
theorem de_call (Fk : FnD X.prog X.w X.K X.mg X.base CX0 k f fd ps (spT (zOf X P) T)) (hr : Room k X.A) (hgd : X.A.guards = some []) (hg : Gl X x) (hm : X.mg x = some (.ref f)) (hk : PySem.W.keepIn X.K (.ref f) = true) (hb : Binds X.K fd ps []) (ha : DRs P G0 n X (e :: es) t)
    (hdb : (x == ("__debug__" : Str)) = false := by decide) (he : starEach (e :: es) X.env = (false, eval e X.env) :: starEach es X.env := by rfl) (hpl : (backTo pos (starEach es X.env)).any (·.1) = false := by rfl) :
    DE P G0 n X (.Call (.Name x p) (e :: es) [] pos) (dCall T (fun _ => False) t) := pe_weak (pe_callM (E := fun _ _ _ _ => False) Fk .non hr hgd hg hm hk hb ha hdb he hpl) fun σ H Q h => call_read errL_none h
/-- f(..), f may raise -/
theorem de_callX {E : XK} {er : EK} (hE : ErrL (zOf X P) G0 E er) (hx : Passes (L2.CX X.prog X.w) X E) (Fk : FnD X.prog X.w X.K X.mg X.base (L2.CX X.prog X.w) k f fd ps (spT (zOf X P) T)) (hr : Room k X.A) (hgd : X.A.guards = some []) (hg : Gl X x) (hm : X.mg x = some (.ref f)) (hk : PySem.W.keepIn X.K (.ref f) = true) (hb : Binds X.K fd ps []) (ha : DRs P G0 n X (e :: es) t)
    (hdb : (x == ("__debug__" : Str)) = false := by decide) (he : starEach (e :: es) X.env = (false, eval e X.env) :: starEach es X.env := by rfl) (hpl : (backTo pos (starEach es X.env)).any (·.1) = false := by rfl) :
    DE P G0 n X (.Call (.Name x p) (e :: es) [] pos) (dCall T er t) := pe_weak (pe_callM Fk (.all hx) hr hgd hg hm hk hb ha hdb he hpl) fun σ H Q h => call_read hE h
def pick {α : Type} (is : List Nat) (l : List α) : List α := is.filterMap fun i => l[i]?
theorem paired_at {α β : Type} {p : α → β → Prop} : ∀ {l : List α} {m : List β} (i : Nat), Paired p l m → (l[i]? = none ∧ m[i]? = none) ∨ ∃ a b, l[i]? = some a ∧ m[i]? = some b ∧ p a b
  | _, _, i, .nil => .inl ⟨by simp, by simp⟩
  | _, _, 0, .cons h _ => .inr ⟨_, _, rfl, rfl, h⟩
  | _, _, i + 1, .cons _ h => by simpa using paired_at i h
theorem paired_pick {α β : Type} {p : α → β → Prop} {l : List α} {m : List β} (h : Paired p l m) : ∀ is : List Nat, Paired p (pick is l) (pick is m)
  | [] => .nil
  | i :: is => by
    have ih := paired_pick h is
    unfold pick at ih ⊢
    rw [List.filterMap_cons, List.filterMap_cons]
    rcases paired_at i h with ⟨h1, h2⟩ | ⟨a, b, h1, h2, h3⟩
    · rw [h1, h2]
      exact ih
    · rw [h1, h2]
      exact .cons h3 ih
theorem rvAll_pick {K : Zw} {G : Hp} {σ : L2.St} {vs : List V} {rs : List Rv} (h : RvAll K G σ vs rs) : ∀ is : List Nat, RvAll K G σ (pick is vs) (pick is rs)
  | [] => trivial
  | i :: is => by
    have ih := rvAll_pick h is
    unfold pick at ih ⊢
    rw [List.filterMap_cons, List.filterMap_cons]
    cases e : rs[i]? with
    | none =>
      have e2 : vs[i]? = none := List.getElem?_eq_none_iff.mpr (by rw [h.len]; exact List.getElem?_eq_none_iff.mp e)
      rw [e2]
      exact ih
    | some r =>
      obtain ⟨v, e2, q⟩ := h.at e
      rw [e2]
      exact ⟨q, ih⟩
theorem kbPick {K : PySem.W.Frag} {x q : Str} {st : Stmt} {f : Addr} {fd : FuncData} {ps ks : List Str} (is : List Nat) (F : Fun K x q st f fd) (hne : ps ≠ [])
    (h : ∀ (kV doc pm : Value) (an : Option Addr) (cdv ct : Value) (ws : List Value), (pick is ws).length = ps.length → bindArgs (PySem.W.fnOf x q (defArgs st) (defBody st) (defScope st) .none kV doc pm an cdv ct) ⟨[], ks.zip ws⟩ = pure (ps.zip (pick is ws))) : KBinds K fd ps ks (fun us ws => if us.isEmpty then pick is ws else []) (fun vs zs => if vs.isEmpty then pick is zs else []) := by
  obtain ⟨oc, od, kV, doc, pm, an, cdv, ct, osl, rfl, lk, hcd⟩ := F.ex
  refine ⟨fun s us ws _ hl2 => ?_, fun r z => ?_⟩
  · cases us with
    | nil => exact .of_eq (h kV doc pm an cdv ct ws hl2)
    | cons u us =>
      have : (0 : Nat) = ps.length := hl2
      exact absurd (List.eq_nil_of_length_eq_zero this.symm) hne
  · cases r with
    | nil => exact paired_pick z is
    | cons a b => exact .nil
def DKs (P : Tb) (G0 : Hp) (n : Nat) (X : Cx) (kws : List Keyword) (t : DTRs) : Prop := PK X kws (rdRs (zOf X P) G0 n t)
theorem pk_weak {t t' : TA} (h : PK X kws t) (i : ∀ σ H Q, t' σ H Q → t σ H Q) : PK X kws t' := ⟨fun pos pins s σ H Q I q => h.run pos pins s σ H Q I (i σ H Q q)⟩
theorem dks_nil : DKs P G0 n X [] (fun ρ Q => Q [] ρ) := pk_weak pk_nil fun σ H Q ⟨F, ρ, G, Q0, s, R, h, k⟩ => k _ ρ _ G H h (Ex.refl s.2) Alike.refl R trivial
theorem dks_cons {t : DTR} {u : DTRs} (h : DR P G0 n X e t) (r : DKs P G0 n X kws u) : DKs P G0 n X (⟨nm, e, kpos⟩ :: kws) (fun ρ Q => t ρ fun r ρ1 => u ρ1 fun rs ρ2 => Q (r :: rs) ρ2) :=
  pk_weak (pk_cons h r) fun σ H Q ⟨F, ρ, G, Q0, s, R, h, k⟩ => ⟨F, ρ, G, _, s, R, h, fun r1 ρ' v G' H' q s' al R' d => ⟨F, ρ', G', _, s.trans s', R', q, fun rs ρ2 vs G2 H2 q2 s2 al2 R2 d2 => k _ ρ2 _ G2 H2 q2 (s'.trans s2) (al.trans al2) R2 ⟨d.mono s2, d2⟩⟩⟩
/-- f(r = .., q = .., p = ..) -/
def dCallK (is : List Nat) (T : TD) (er : EK) (t : DTRs) : DTE := fun ρ Q => t ρ fun rs ρ1 => (obSlots ρ1 (pick is rs)).Nodup ∧ T (argsOf ρ1 (pick is rs)) (fun D as' => Q D (upS (pick is rs) as' ρ1)) er
theorem callK_read {is : List Nat} {E : XK} {er : EK} (hE : ErrL (zOf X P) G0 E er) (hgV : ∀ zs, gV [] zs = pick is zs) {σ : L2.St} {H : Hp} {Q : VK} (h : rdE (zOf X P) G0 n (dCallK is T er t) σ H Q) : rdRs (zOf X P) G0 n t σ H fun zs H1 => maskK X σ (spT (zOf X P) T) E (gV [] zs) H1 Q := by
  obtain ⟨F, ρ, G, Q0, s, R, h, kk⟩ := h
  refine ⟨F, ρ, G, _, s, R, h, fun rs ρ1 vs G1 H1 ⟨nd, q⟩ s1 al1 R1 va => ?_⟩
  dsimp only
  rw [hgV]
  exact call_at hE (s.trans s1) R1 (rvAll_pick va is) nd q (kk.after s1 al1)
theorem de_callKX {is : List Nat} {E : XK} {er : EK} (hE : ErrL (zOf X P) G0 E er) (hx : Passes (L2.CX X.prog X.w) X E) (Fk : FnD X.prog X.w X.K X.mg X.base (L2.CX X.prog X.w) k f fd ps (spT (zOf X P) T)) (hr : Room k X.A) (hgd : X.A.guards = some []) (hg : Gl X x) (hm : X.mg x = some (.ref f)) (hk : PySem.W.keepIn X.K (.ref f) = true) (hb : KBinds X.K fd ps ks g gV) (hgV : ∀ zs, gV [] zs = pick is zs)
    (ha : DKs P G0 n X kws t) (hall : (backToKw pos (keywordEach kws X.env)).all (·.1.isSome) = true := by rfl) (hks : (backToKw pos (keywordEach kws X.env)).filterMap (·.1) = ks := by rfl)
    (hdb : (x == ("__debug__" : Str)) = false := by decide) (hpl : ((backTo pos (starEach [] X.env)).any (·.1) || (backToKw pos (keywordEach kws X.env)).any (·.1.isNone)) = false := by rfl) :
    DE P G0 n X (.Call (.Name x p) [] kws pos) (dCallK is T er t) := pe_weak (pe_callMK Fk (.all hx) hr hgd hg hm hk hb ha hall hks hdb hpl) fun σ H Q h => callK_read hE hgV h
end
end Dl
set_option Elab.async false
set_option linter.all false
set_option maxRecDepth 100000
set_option maxHeartbeats 4000000
namespace Dl
open PySem PySem.Spec PyProof PyProof.Rows L2 So Da
def outA : List Lc → Sto → List Lc
  | [], _ => []
  | lc :: as, ρ => (match lc, ρ.head? with
    | .ob a _, some (.ob _ c') => .ob a c'
    | lc, _ => lc) :: outA as ρ.tail
def start0 (m : Nat) (as : List Lc) : Sto := as ++ List.replicate m .un
section
variable {K : Zw} {F : List (Addr × HO)} {G G' H H' : Hp} {ρ : Sto} {σ : L2.St} {vs : List V} {as : List Lc}
theorem un_of {m i : Nat} {lc : Lc} {ρ : Sto} (h : (ρ ++ List.replicate m Lc.un)[i]? = some lc) (n : lc ≠ .un) : ρ[i]? = some lc := by
  by_cases q : i < ρ.length
  · rwa [List.getElem?_append_left q] at h
  · rw [List.getElem?_append_right (by omega), List.getElem?_replicate] at h
    split at h
    · exact absurd (Option.some.inj h).symm n
    · cases h
theorem Rep.more (m : Nat) (R : Rep K F G ρ σ H) : Rep K F G (ρ ++ List.replicate m .un) (σ ++ List.replicate m none) H := by
  have left : ∀ {i lc}, ρ[i]? = some lc → (σ ++ List.replicate m none)[i]? = σ[i]? := fun {i lc} e => List.getElem?_append_left (R.lt e)
  have ob' : ∀ {i : Nat} {a : Addr} {c : Oc}, (ρ ++ List.replicate m Lc.un)[i]? = some (Lc.ob a c) → ρ[i]? = some (Lc.ob a c) := fun e => un_of e fun z => Lc.noConfusion z
  refine ⟨by rw [List.length_append, List.length_append, List.length_replicate, List.length_replicate, R.len], fun {i D} e => ?_, fun {i a c} e => ?_, fun {i a C d D} e => ?_, fun {i O} e => ?_, fun e e' => R.uniq (ob' e) (ob' e'), fun m => ⟨(R.ex m).1, (R.ex m).2.1, fun ⟨i, c, e⟩ => (R.ex m).2.2.1 ⟨i, c, ob' e⟩, (R.ex m).2.2.2⟩, R.sub, R.nt⟩
  · have e := un_of e fun z => Lc.noConfusion z
    rw [left e]
    exact R.sh e
  · have e := ob' e
    rw [left e]
    exact R.ob e
  · have e := un_of e fun z => Lc.noConfusion z
    rw [left e]
    exact R.exc e
  · have e := un_of e fun z => Lc.noConfusion z
    rw [left e]
    exact R.ask e
theorem outA_same : ∀ (as : List Lc) (ρ : Sto), (∀ (k : Nat) (a : Addr) (c : Oc), as[k]? = some (.ob a c) → ∃ c', ρ[k]? = some (.ob a c')) → Same as (outA as ρ) ∧ ∀ (k : Nat) (a : Addr) (c : Oc), (outA as ρ)[k]? = some (.ob a c) → ρ[k]? = some (.ob a c)
  | [], _, _ => ⟨.nil, fun k a c e => by unfold outA at e; simp at e⟩
  | lc :: as, ρ, h => by
    have tl : ∀ (k : Nat), ρ.tail[k]? = ρ[k + 1]? := fun k => by cases ρ <;> simp
    obtain ⟨h1, h2⟩ := outA_same as ρ.tail fun k a c e => by
      rw [tl]
      exact h (k + 1) a c (by simpa using e)
    have fin : ∀ {lc' : Lc}, (∀ a c, lc' = .ob a c → ρ[0]? = some (.ob a c)) → ∀ (k : Nat) (a : Addr) (c : Oc), (lc' :: outA as ρ.tail)[k]? = some (.ob a c) → ρ[k]? = some (.ob a c) := fun {lc'} z k a c e => by
      cases k with
      | zero => exact z a c (Option.some.inj (show some lc' = some (Lc.ob a c) from e))
      | succ k => rw [← tl]; exact h2 k a c (by simpa using e)
    cases lc with
    | un => exact ⟨.un h1, fin fun a c z => nomatch z⟩
    | sh D => exact ⟨.sh h1, fin fun a c z => nomatch z⟩
    | exc a C d D => exact ⟨.exc h1, fin fun a c z => nomatch z⟩
    | ask O => exact ⟨.ask h1, fin fun a c z => nomatch z⟩
    | ob a c =>
      obtain ⟨c', e⟩ := h 0 a c rfl
      have e2 : ρ.head? = some (.ob a c') := by rw [List.head?_eq_getElem?]; exact e
      have e3 : outA (.ob a c :: as) ρ = .ob a c' :: outA as ρ.tail := by
        conv => lhs; unfold outA
        rw [e2]
      rw [e3]
      exact ⟨.ob h1, fin fun b d z => by cases z; exact e⟩
/-- at a def's end: what it leaves to its caller -/
theorem Rep.out {N : List Str} {n : Nat} {G0 : Hp} {σ0 : L2.St} {H0 : Hp} (t : Tg G0 K.T) (R0 : Rep K [] G0 as (vs.map some) H0) (hn : as.length ≤ n) (m : Nat) (s : Ex K.T G0 G) (al : Alike n (start0 m as) ρ) (R : Rep K [] G ρ σ H) :
    Same as (outA as ρ) ∧ Rep K [] G (outA as ρ) (vs.map some) H ∧ ∀ (k : Nat) (a : Addr) (c : Oc), (outA as ρ)[k]? = some (.ob a c) → k < n ∧ ρ[k]? = some (.ob a c) := by
  have al' : ∀ (k : Nat) (a : Addr) (c : Oc), as[k]? = some (.ob a c) → ∃ c', ρ[k]? = some (.ob a c') := fun k a c e => al k a c (by have := (List.getElem?_eq_some_iff.mp e).1; omega) (by unfold start0; rw [List.getElem?_append_left (List.getElem?_eq_some_iff.mp e).1]; exact e)
  obtain ⟨sm, inv⟩ := outA_same as ρ al'
  refine ⟨sm, ⟨R0.len.trans sm.len, fun {k D} e => ?_, fun {k a c} e => ?_, fun {k a C d D} e => ?_, fun {k O} e => ?_, fun {j k a c c'} e e' => R.uniq (inv _ _ _ e) (inv _ _ _ e'), fun m => absurd m List.not_mem_nil, R.sub, R.nt⟩, fun k a c e => ⟨?_, inv k a c e⟩⟩
  · obtain ⟨v, h1, h2⟩ := R0.sh (sm.shw e)
    exact ⟨v, h1, Dw.mono s h2⟩
  · obtain ⟨c0, e0⟩ := sm.bwd e
    exact ⟨(R0.ob e0).1, (R.ob (inv _ _ _ e)).2⟩
  · obtain ⟨h1, v, h2, h3⟩ := R0.exc (sm.exw e)
    exact ⟨h1, v, s.1 _ _ h2 (fun _ z => nomatch z), h3.mono s⟩
  · obtain ⟨f, h1, h2⟩ := R0.ask (sm.asw e)
    exact ⟨f, h1, h2.mono s⟩
  · have := (List.getElem?_eq_some_iff.mp e).1
    rw [← sm.len] at this
    omega
end
section
variable {Pg : Program} {w : World} {K : Zw} {mg : Str → Option Value} {base : Heap} {x : Str} {st : Stmt} {f : Addr} {fd : FuncData} {N ps : List Str} {k : Nat} {T : TD}
/-- what a body has to come to -/
abbrev endsOf (as : List Lc) (Q0 : PyData → List Lc → Prop) : EndsD := { nx := fun ρ => Q0 .none (outA as ρ), rt := fun D ρ => Q0 D (outA as ρ) }
theorem body_read {t : DTS} {as : List Lc} {Q0 : PyData → List Lc → Prop} {G H : Hp} {vs : List V} {Q : VK} (tb : Tg G K.T) (R : Rep K [] G as (vs.map some) H) (l : vs.length = ps.length) (hq : t (endsOf as Q0) (start0 (N.length - ps.length) as))
    (hQ : ∀ D as' v G' H', Q0 D as' → Same as as' → Ex K.T G G' → Rep K [] G' as' (vs.map some) H' → Dw K G' v D → Q v H') : rdS K G ps.length t { nx := fun _ H' => Q .non H', rt := Q } (L2.start N vs) H := by
  have la : as.length = ps.length := by rw [← l, ← R.len, List.length_map]
  have fin : ∀ (Dv : PyData) (ρ' : Sto) (v : V) (σ' : L2.St) (G' H' : Hp), Q0 Dv (outA as ρ') → Ex K.T G G' → Alike ps.length (start0 (N.length - ps.length) as) ρ' → Rep K [] G' ρ' σ' H' → Dw K G' v Dv → Q v H' := fun Dv ρ' v σ' G' H' q s al R' d => by
    obtain ⟨sm, R2, _⟩ := Rep.out (N := N) (σ0 := σ') tb R (by omega) (N.length - ps.length) s al R'
    exact hQ Dv _ v G' H' q sm s R2 d
  refine ⟨start0 (N.length - ps.length) as, G, endsOf as Q0, Ex.refl tb, ?_, hq, fun ρ' σ' G' H' q s al R' => fin .none ρ' .non σ' G' H' q s al R' .non, fun _ _ _ _ z => z.elim, fun _ _ _ _ z => z.elim, fun Dv ρ' v σ' G' H' q s al R' d => fin Dv ρ' v σ' G' H' q s al R' d, fun _ _ _ _ _ _ _ z => z.elim⟩
  unfold start0 L2.start
  rw [l]
  exact R.more _
/-- a def's promise, where what is answered is the caller's own -/
abbrev TDO := List Lc → (Oc → List Lc → Prop) → EK → Prop
def spO (K : Zw) (T : TDO) : Sp := fun vs H Q E => ∃ G as Q0 er, Tg G K.T ∧ Rep K [] G as (vs.map some) H ∧ T as Q0 er ∧
  (∀ c as' a o G' H', Q0 c as' → Same as as' → Ex K.T G G' → Rep K [] G' as' (vs.map some) H' → H' a = some o → G' a = none → ¬ Owns as' a → OcOk K G' a c o → Q (.ref a) H') ∧ ErrL K G E er
/-- where the slots' cells stand -/
def caOf (X : Cx) (j : Nat) : Addr := ((X.N[j]?).bind fun y => X.env.cells.lookup y).getD 0
theorem spT_len {Z : Zw} (len : ∀ as Q er, T as Q er → as.length = ps.length) : ∀ vs H Q E, spT Z T vs H Q E → vs.length = ps.length := fun vs H Q E ⟨G, as, Q0, er, tb, R, hT, _⟩ => by
  have := R.len
  rw [List.length_map] at this
  exact this.trans (len _ _ _ hT)
end
section
variable {Z : Zw} {x : Str} {st : Stmt} {f : Addr} {fd : FuncData} {N ps : List Str} {k : Nat} {T : TD}
/-- a def that lets nothing out -/
theorem okD {t : (Nat → Addr) → DTS} (F : Fun Z.K x x st f fd) (S : FnScope N ps (defScope st)) (len : ∀ as Q er, T as Q er → as.length = ps.length)
    (h : ∀ (cdv : Value) (A : Around) (outer : List Env) (s : Shared) (H : Hp) (E : XK) (G0 : Hp) (ca : Nat → Addr), Room k (A.deeper (envOfC x (defScope st) s.heap.objs.size f cdv)) → (A.deeper (envOfC x (defScope st) s.heap.objs.size f cdv)).guards = some [] → ca = caOf (cxOf CX0 Z.Pg Z.w Z.K Z.mg Z.base N x (defScope st) f cdv A outer s H E).nox →
      DSs Z.T G0 ps.length (cxOf CX0 Z.Pg Z.w Z.K Z.mg Z.base N x (defScope st) f cdv A outer s H E).nox (defBody st) (t ca))
    (hq : ∀ ca as Q er, T as Q er → t ca (endsOf as Q) (start0 (N.length - ps.length) as)) : FnD Z.Pg Z.w Z.K Z.mg Z.base CX0 (k + 1) f fd ps (spT Z T) :=
  FnD.ok F S (spT_len len) fun cdv A outer s H vs Q E hr hg ⟨G, as, Q0, er, tb, R, hT, hQ, _⟩ => ⟨_, h cdv A outer s H E G _ hr hg rfl, body_read tb R (by
    have := R.len
    rw [List.length_map] at this
    exact this.trans (len _ _ _ hT)) (hq _ _ _ _ hT) hQ⟩
/-- a def that may raise -/
theorem okDX {t : (Nat → Addr) → EK → DTS} (F : Fun Z.K x x st f fd) (S : FnScope N ps (defScope st)) (len : ∀ as Q er, T as Q er → as.length = ps.length)
    (h : ∀ (cdv : Value) (A : Around) (outer : List Env) (s : Shared) (H : Hp) (E : XK) (G0 : Hp) (er : EK) (ca : Nat → Addr), ErrL Z G0 E er → Room k (A.deeper (envOfC x (defScope st) s.heap.objs.size f cdv)) → (A.deeper (envOfC x (defScope st) s.heap.objs.size f cdv)).guards = some [] → ca = caOf (cxOf (L2.CX Z.Pg Z.w) Z.Pg Z.w Z.K Z.mg Z.base N x (defScope st) f cdv A outer s H E) →
      DSs Z.T G0 ps.length (cxOf (L2.CX Z.Pg Z.w) Z.Pg Z.w Z.K Z.mg Z.base N x (defScope st) f cdv A outer s H E) (defBody st) (t ca er))
    (hq : ∀ ca as Q er, T as Q er → t ca er (endsOf as Q) (start0 (N.length - ps.length) as)) : FnD Z.Pg Z.w Z.K Z.mg Z.base (L2.CX Z.Pg Z.w) (k + 1) f fd ps (spT Z T) :=
  FnD.okX F S (spT_len len) fun cdv A outer s H vs Q E hr hg ⟨G, as, Q0, er, tb, R, hT, hQ, hE⟩ => ⟨_, h cdv A outer s H E G er _ hE hr hg rfl, body_read tb R (by
    have := R.len
    rw [List.length_map] at this
    exact this.trans (len _ _ _ hT)) (hq _ _ _ _ hT) hQ⟩
end
end Dl
set_option Elab.async false
set_option linter.all false
set_option maxRecDepth 100000
set_option maxHeartbeats 4000000
namespace Dl
open PySem PySem.Spec PyProof PyProof.Rows L2 So Da
section
variable {P : Tb} {G0 : Hp} {n : Nat} {X : Cx} {a b e : Expr} {pos p : Pos} {t u : DTE}
/-- max(a, b), min(a, b), whole numbers -/
theorem de_max2 (hc : X.calm = true) (hg : Gl X "max") (hm : X.mg "max" = none) (ha : DE P G0 n X a t) (hb : DE P G0 n X b u) (hs : starEach [a, b] X.env = (false, eval a X.env) :: starEach [b] X.env := by rfl) (hs2 : starEach [b] X.env = (false, eval b X.env) :: starEach [] X.env := by rfl) (hpl : (backTo pos (starEach [b] X.env)).any (·.1) = false := by rfl) :
    DE P G0 n X (.Call (.Name "max" p) [a, b] [] pos) (fun ρ Q => t ρ fun D ρ1 => u ρ1 fun E ρ2 => match D, E with
      | .int i, .int j => Q (.int (if j > i then j else i)) ρ2
      | _, _ => False) := pe_weak (pe_callB (call_max2 hc) hg hm (by decide +kernel) (pa_cons ha (pa_cons hb pa_nil hs2) hs) (by decide) (by decide) hs hpl) fun σ H Q ⟨F, ρ, G, Q0, s, R, h, k⟩ =>
  ⟨F, ρ, G, _, s, R, h, fun D ρ1 v G1 H1 q1 s1 al1 R1 d1 => ⟨F, ρ1, G1, _, s.trans s1, R1, q1, fun E ρ2 v2 G2 H2 q s2 al2 R2 d2 => by
    split at q
    · cases d1
      cases d2
      exact ⟨_, _, rfl, k _ _ _ _ _ q (s1.trans s2) (al1.trans al2) R2 (.int _)⟩
    · exact q.elim⟩⟩
theorem de_min2 (hc : X.calm = true) (hg : Gl X "min") (hm : X.mg "min" = none) (ha : DE P G0 n X a t) (hb : DE P G0 n X b u) (hs : starEach [a, b] X.env = (false, eval a X.env) :: starEach [b] X.env := by rfl) (hs2 : starEach [b] X.env = (false, eval b X.env) :: starEach [] X.env := by rfl) (hpl : (backTo pos (starEach [b] X.env)).any (·.1) = false := by rfl) :
    DE P G0 n X (.Call (.Name "min" p) [a, b] [] pos) (fun ρ Q => t ρ fun D ρ1 => u ρ1 fun E ρ2 => match D, E with
      | .int i, .int j => Q (.int (if j < i then j else i)) ρ2
      | _, _ => False) := pe_weak (pe_callB (call_min2 hc) hg hm (by decide +kernel) (pa_cons ha (pa_cons hb pa_nil hs2) hs) (by decide) (by decide) hs hpl) fun σ H Q ⟨F, ρ, G, Q0, s, R, h, k⟩ =>
  ⟨F, ρ, G, _, s, R, h, fun D ρ1 v G1 H1 q1 s1 al1 R1 d1 => ⟨F, ρ1, G1, _, s.trans s1, R1, q1, fun E ρ2 v2 G2 H2 q s2 al2 R2 d2 => by
    split at q
    · cases d1
      cases d2
      exact ⟨_, _, rfl, k _ _ _ _ _ q (s1.trans s2) (al1.trans al2) R2 (.int _)⟩
    · exact q.elim⟩⟩
/-- a + b, lists: a fresh one -/
theorem df_cat {ta tb : DTR} (ha : DR P G0 n X a ta) (hb : DR P G0 n X b tb) : DF P G0 n X (.BinOp a .Add b pos) (fun ρ Q => ta ρ fun r ρ1 => tb ρ1 fun q ρ2 => derefW ρ2 r fun x => derefW ρ2 q fun y => match x, y with
    | .list i, .list j => i.length + j.length ≤ sizeLine ∧ Q (i ++ j) ρ2
    | _, _ => False) := pe_weak (pe_op op_catL ha hb) fun σ H Q ⟨F, ρ, G, Q0, s, R, h, k⟩ =>
  ⟨F, ρ, G, _, s, R, h, fun r1 ρ1 v1 G1 H1 h1 s1 a1 R1 d1 => ⟨F, ρ1, G1, _, s.trans s1, R1, h1, fun r2 ρ2 v2 G2 H2 h2 s2 a2 R2 d2 => by
    unfold derefW at h2
    split at h2
    · rename_i D1 e1
      split at h2
      · rename_i D2 e2
        split at h2
        · obtain ⟨x, xs, rfl, hx, dx⟩ := (dq_of R2 (d1.mono s2) e1).list R2
          obtain ⟨y, ys, rfl, hy, dy⟩ := (dq_of R2 d2 e2).list R2
          exact ⟨x, y, xs, ys, rfl, rfl, hx, hy, by rw [dpa_len dx, dpa_len dy]; exact h2.1, fun q hq => k _ ρ2 _ G2 _ q h2.2 (s1.trans s2) (a1.trans a2) (R2.push hq) (fun o m => by rw [(R2.ex m).1] at hq; cases hq) (dpa_app dx dy)⟩
        · exact h2.elim
      · exact h2.elim
    · exact h2.elim⟩⟩
end
/-- a comprehension without a test: what each item may become -/
theorem lcW_rel {ρw : Sto} {vs : List Nat} {g : DTG} {te : DTE} {Q : List PyData → Prop} {ds : List PyData} (p : PyData → PyData → Prop) (hl : ds.length ≤ 1000000)
    (h : ∀ d ∈ ds, ∀ (R : PyData → Prop), (∀ y, p d y → R y) → g d ρw fun ρ2 => te ρ2 fun y ρ3 => (noObs ρ3 vs ∧ wipeD ρ3 vs = ρw) ∧ R y)
    (hq : ∀ acc, Paired p ds acc → Q acc) : lcW ρw vs g (fun ρ Q => Q true ρ) te ds [] Q := by
  have key : ∀ (rest acc : List PyData), (∀ d ∈ rest, d ∈ ds) → acc.length + rest.length ≤ 1000000 → (∀ acc', Paired p rest acc' → Q (acc ++ acc')) → lcW ρw vs g (fun ρ Q => Q true ρ) te rest acc Q := by
    intro rest
    induction rest with
    | nil => intro acc _ _ q; have := q [] .nil; rw [List.append_nil] at this; exact this
    | cons d rest ih =>
      intro acc m l q
      have l' : acc.length + rest.length + 1 ≤ 1000000 := by simpa [Nat.add_assoc] using l
      unfold lcW
      refine h d (m d List.mem_cons_self) (fun y => acc.length < sizeLine ∧ lcW ρw vs g (fun ρ Q => Q true ρ) te rest (acc ++ [y]) Q) fun y hy => ⟨Nat.lt_of_lt_of_le (show acc.length < 1000001 by omega) (by decide), ih _ (fun d hd => m d (List.mem_cons_of_mem _ hd)) (by rw [List.length_append, List.length_singleton]; omega) fun acc' ha => ?_⟩
      rw [List.append_assoc]
      exact q (y :: acc') (.cons hy ha)
  exact key ds [] (fun _ h => h) (by rw [List.length_nil]; omega) fun acc' ha => hq acc' ha
theorem paired_map {f : PyData → PyData} : ∀ {ds acc : List PyData}, Paired (fun d y => y = f d) ds acc → acc = ds.map f
  | _, _, .nil => rfl
  | _, _, .cons h t => by rw [h, paired_map t]; rfl
/-- .. where it is told -/
theorem lcW_map {ρw : Sto} {vs : List Nat} {g : DTG} {te : DTE} {Q : List PyData → Prop} {ds : List PyData} (f : PyData → PyData) (hl : ds.length ≤ 1000000)
    (h : ∀ d ∈ ds, ∀ (R : PyData → Prop), R (f d) → g d ρw fun ρ2 => te ρ2 fun y ρ3 => (noObs ρ3 vs ∧ wipeD ρ3 vs = ρw) ∧ R y) (hq : Q (ds.map f)) : lcW ρw vs g (fun ρ Q => Q true ρ) te ds [] Q :=
  lcW_rel (fun d y => y = f d) hl (fun d hd R hR => h d hd R (hR _ rfl)) fun acc ha => by rw [paired_map ha]; exact hq
theorem at_0 {α : Type} {a : α} {l : List α} : atI (a :: l) 0 = some a := atI_nat (j := 0) rfl
theorem at_1 {α : Type} {a b : α} {l : List α} : atI (a :: b :: l) 1 = some b := atI_nat (j := 1) rfl
theorem at_2 {α : Type} {a b c : α} {l : List α} : atI (a :: b :: c :: l) 2 = some c := atI_nat (j := 2) rfl
theorem at_3 {α : Type} {a b c d : α} {l : List α} : atI (a :: b :: c :: d :: l) 3 = some d := atI_nat (j := 3) rfl
theorem at_4 {α : Type} {a b c d e : α} {l : List α} : atI (a :: b :: c :: d :: e :: l) 4 = some e := atI_nat (j := 4) rfl
theorem ix_0 {a : PyData} {l : List PyData} {Q : PyData → Prop} : ixD (.tuple (a :: l)) (.int 0) Q = Q a := by
  unfold ixD
  simp only [at_0]
theorem ix_1 {a b : PyData} {l : List PyData} {Q : PyData → Prop} : ixD (.tuple (a :: b :: l)) (.int 1) Q = Q b := by
  unfold ixD
  simp only [at_1]
theorem ix_2 {a b c : PyData} {l : List PyData} {Q : PyData → Prop} : ixD (.tuple (a :: b :: c :: l)) (.int 2) Q = Q c := by
  unfold ixD
  simp only [at_2]
theorem ix_3 {a b c d : PyData} {l : List PyData} {Q : PyData → Prop} : ixD (.tuple (a :: b :: c :: d :: l)) (.int 3) Q = Q d := by
  unfold ixD
  simp only [at_3]
theorem ix_4 {a b c d e : PyData} {l : List PyData} {Q : PyData → Prop} : ixD (.tuple (a :: b :: c :: d :: e :: l)) (.int 4) Q = Q e := by
  unfold ixD
  simp only [at_4]
def T1 (f : PyData → (PyData → Prop) → EK → Prop) : TD := fun as Q er => match as with
  | [.sh a] => f a (fun r => Q r as) er
  | _ => False
def T2 (f : PyData → PyData → (PyData → Prop) → EK → Prop) : TD := fun as Q er => match as with
  | [.sh a, .sh b] => f a b (fun r => Q r as) er
  | _ => False
def T3 (f : PyData → PyData → PyData → (PyData → Prop) → EK → Prop) : TD := fun as Q er => match as with
  | [.sh a, .sh b, .sh c] => f a b c (fun r => Q r as) er
  | _ => False
def T4 (f : PyData → PyData → PyData → PyData → (PyData → Prop) → EK → Prop) : TD := fun as Q er => match as with
  | [.sh a, .sh b, .sh c, .sh d] => f a b c d (fun r => Q r as) er
  | _ => False
theorem t1_inv {f : PyData → (PyData → Prop) → EK → Prop} {as : List Lc} {Q : PyData → List Lc → Prop} {er : EK} (h : T1 f as Q er) : ∃ a, as = [.sh a] ∧ f a (fun r => Q r [.sh a]) er := by
  unfold T1 at h
  split at h
  · exact ⟨_, rfl, h⟩
  · exact h.elim
theorem t2_inv {f : PyData → PyData → (PyData → Prop) → EK → Prop} {as : List Lc} {Q : PyData → List Lc → Prop} {er : EK} (h : T2 f as Q er) : ∃ a b, as = [.sh a, .sh b] ∧ f a b (fun r => Q r [.sh a, .sh b]) er := by
  unfold T2 at h
  split at h
  · exact ⟨_, _, rfl, h⟩
  · exact h.elim
theorem t3_inv {f : PyData → PyData → PyData → (PyData → Prop) → EK → Prop} {as : List Lc} {Q : PyData → List Lc → Prop} {er : EK} (h : T3 f as Q er) : ∃ a b c, as = [.sh a, .sh b, .sh c] ∧ f a b c (fun r => Q r [.sh a, .sh b, .sh c]) er := by
  unfold T3 at h
  split at h
  · exact ⟨_, _, _, rfl, h⟩
  · exact h.elim
end Dl
set_option Elab.async false
set_option linter.all false
set_option maxRecDepth 100000
set_option maxHeartbeats 4000000
namespace Dl
open PySem PySem.Spec PyProof.Rows L2 So Da
section
variable {P : Tb} {G0 : Hp} {n : Nat} {X : Cx} {k : Nat} {f : Addr} {fd : FuncData} {ps : List Str} {x y : Str} {p pos py : Pos} {spos : Pos} {e : Expr} {es : List Expr} {t : DTRs} {i : Nat} {T : TDO}
/-- y = f(..), what is answered is one's own -/
def ownC (T : TDO) (er : EK) (t : DTRs) (i : Nat) : DTS := fun D ρ => t ρ fun rs ρ1 => (obSlots ρ1 rs).Nodup ∧ T (argsOf ρ1 rs) (fun c as' => i < ρ1.length ∧ noOb (upS rs as' ρ1) i ∧ ∀ a, D.nx ((upS rs as' ρ1).set i (.ob a c))) er
theorem ds_ownCall (hN : X.N.Nodup) (hi : X.N[i]? = some y) (hy : Loc X.env.scope y) (Fk : FnD X.prog X.w X.K X.mg X.base CX0 k f fd ps (spO (zOf X P) T)) (hr : Room k X.A) (hgd : X.A.guards = some []) (hg : Gl X x) (hm : X.mg x = some (.ref f)) (hk : PySem.W.keepIn X.K (.ref f) = true) (hb : Binds X.K fd ps []) (ha : DRs P G0 n X (e :: es) t)
    (hdb : (x == ("__debug__" : Str)) = false := by decide) (he : starEach (e :: es) X.env = (false, eval e X.env) :: starEach es X.env := by rfl) (hpl : (backTo pos (starEach es X.env)).any (·.1) = false := by rfl)
    (hs : swapsWith (.Call (.Name x p) (e :: es) [] pos) (some (.Name y py)) spos.line X.env = pure false := by rfl) (hf : X.fn y = true ∨ X.env.scope.names.lookup y = some .local := by first | exact .inl rfl | exact .inr rfl | assumption) :
    DS P G0 n X (.Assign [.Name y py] (.Call (.Name x p) (e :: es) [] pos) spos) (ownC T (fun _ => False) t i) :=
  ps_weak (ps_set hN hi hy (pe_callM (E := fun _ _ _ _ => False) Fk .non hr hgd hg hm hk hb ha hdb he hpl) hs hf) fun D σ H ⟨ρ, G, D0, s, R, h, kk⟩ => by
    refine ⟨[], ρ, G, _, s, R, h, fun rs ρ1 vs G1 H1 ⟨nd, q⟩ s1 al1 R1 va => ?_⟩
    unfold maskK
    obtain ⟨L, Rc⟩ := R1.call va nd
    refine ⟨hidL [] ρ1 (argsOf ρ1 rs), [], L, (fun j m => nomatch m), fun co sh _ => ?_⟩
    rw [noCo_of sh]
    refine ⟨G1, argsOf ρ1 rs, _, _, s1.2, Rc, q, fun c as' a o G2 H2 ⟨l2, no, q2⟩ sm s2 R2 e1 e2 e3 e4 bk => ?_, fun _ _ _ _ _ _ z => z.elim⟩
    have R3 := R1.back s1.2 va sm s2 R2 bk.gone
    have nh : a ∉ hidL [] ρ1 (argsOf ρ1 rs) := fun m => by
      rw [bk.gone a m] at e1
      cases e1
    have ea : bak (hidL [] ρ1 (argsOf ρ1 rs)) H1 H2 a = some o := by rw [bak_out nh]; exact e1
    have no2 : ¬ Owns (upS rs as' ρ1) a := fun ⟨j, c', e⟩ => by
      have hj : j < ρ1.length := by
        have := (List.getElem?_eq_some_iff.mp e).1
        rwa [upS_len] at this
      rcases upS_get hj rs as' with ⟨m, b, d, h1, h2, h3⟩ | ⟨h1, h2⟩
      · rw [h3] at e
        cases e
        exact e3 ⟨m, _, h2⟩
      · have e5 : ρ1[j]? = some (.ob a c') := h1.symm.trans e
        refine nh (mem_hidL.mpr (.inl ⟨⟨j, c', e5⟩, fun z => ?_⟩))
        obtain ⟨m, i', c2, r1, r2⟩ := own_arg z
        have := R1.uniq r2 e5
        subst this
        have h4 : (argsOf ρ1 rs)[m]? = some (.ob a c2) := by
          rw [List.getElem?_map, r1]
          show some (ρ1[i']?.getD .un) = _
          rw [r2]
          rfl
        obtain ⟨c3, h5⟩ := sm.fwd h4
        exact e3 ⟨m, c3, h5⟩
    have R4 : Rep (zOf X P) [(a, o)] G2 (upS rs as' ρ1) σ (bak (hidL [] ρ1 (argsOf ρ1 rs)) H1 H2) := ⟨R3.len, R3.sh, R3.ob, R3.exc, R3.ask, R3.uniq, fun {b u} m => by
      have z := List.mem_singleton.mp m
      cases z
      exact ⟨ea, e2, no2, e4.lcl⟩, R3.sub, R3.nt⟩
    exact kk.nx _ _ _ _ (q2 a) (s1.trans s2) ((al1.trans (upS_alike sm)).trans (.set no)) (R4.take (fun o m => nomatch m) (by rw [upS_len]; exact l2) no e4)
end
def modD : OpT := fun x y Q => match x, y with
  | .int i, .int j => 0 < j ∧ Q (.int (i % j))
  | _, _ => False
def fdivD : OpT := fun x y Q => match x, y with
  | .int i, .int j => (0 < j ∧ j < 1073741824) ∧ Q (.int (i / j))
  | _, _ => False
def powD : OpT := fun x y Q => match x, y with
  | .int i, .int j => CPow i j ∧ Q (.int (i ^ j.toNat))
  | _, _ => False
def intD : PyData → (PyData → Prop) → Prop := fun x Q => match x with
  | .int i => Q (.int i)
  | .bool b => Q (.int (if b = true then 1 else 0))
  | _ => False
section
variable {P : Tb} {G0 : Hp} {n : Nat} {X : Cx}
end
theorem dpa_strs {K : Zw} {H : Hp} : ∀ {xs : List V} {ns : List Str}, DwAll K H xs (ns.map .str) → xs = ns.map V.str
  | _, [], h => by cases h; rfl
  | _, n :: ns, h => by
    cases h with
    | cons a b =>
      cases a
      rw [dpa_strs b]
      rfl
section
variable {P : Tb} {G0 : Hp} {n : Nat} {X : Cx} {o e : Expr} {es : List Expr} {tx ty : DTE} {apos cpos : Pos} {name : Str} {id : String} {r : V → List V → Hp → VK → Prop} {to : TE} {t : TA}
end
section
variable {G0 : Hp} {n : Nat} {X : Cx} {st : Stmt} {ta tb : DTF}
end
end Dl
set_option Elab.async false
set_option linter.all false
set_option maxRecDepth 100000
set_option maxHeartbeats 4000000
namespace Dl
open PySem PySem.Spec PyProof.Rows L2 So Da
/-- what lies in the heap besides, and nobody speaks of -/
theorem Rep.junk {K : Zw} {F : List (Addr × HO)} {G H : Hp} {ρ : Sto} {σ : L2.St} {p : Addr} {o : HO} (R : Rep K F G ρ σ H) (h : H p = none) : Rep K F G ρ σ (upd H p o) :=
  ⟨R.len, R.sh, fun {i a c} e => by
    obtain ⟨h1, h2, u, h3, h4⟩ := R.ob e
    exact ⟨h1, h2, u, by rw [upd_ne (ne_of_none h3 h)]; exact h3, h4⟩, R.exc, R.ask, R.uniq, fun {a u} m => by
    obtain ⟨h1, h2⟩ := R.ex m
    exact ⟨by rw [upd_ne (ne_of_none h1 h)]; exact h1, h2⟩, fun b u e => by
    rw [upd_ne (ne_of_none (R.sub b u e) h)]
    exact R.sub b u e, R.nt⟩
section
variable {G0 : Hp} {n : Nat} {X : Cx} {st : Stmt} {ta tc : DTE} {tb : DTF}
theorem noOb_set {ρ : Sto} {i j : Nat} {lc : Lc} (hij : i ≠ j) (h : noOb ρ j) : noOb (ρ.set i lc) j := by
  unfold noOb at h ⊢
  rw [List.getElem?_set_ne hij]
  exact h
end
end Dl
set_option Elab.async false
set_option linter.all false
set_option maxRecDepth 100000
set_option maxHeartbeats 4000000
namespace Dl
open PySem PySem.Spec PyProof PyProof.Rows L2 So Da
def repD : PyData → Str
  | .none => "None"
  | .bool b => if b then "True" else "False"
  | .int i => toString i
  | .str z => reprText z
  | d => d.shown
/-- it can be shown -/
def repOk : PyData → Prop
  | .none => True
  | .bool _ => True
  | .int i => i.natAbs.log2 < 1920
  | .str z => (reprText z).length ≤ sizeLine
  | d => d.showable = true ∧ d.hasDict = false ∧ d.depth ≤ 60 ∧ d.shown.length ≤ sizeLine
def rReprA (K : PySem.W.Frag) : List V → Hp → VK → Prop := fun xs H Q => ∃ (v : V) (D : PyData), xs = [v] ∧ Dp K H v D ∧ repOk D ∧ Q (.str (repD D)) H
theorem call_reprA {X : Cx} (hg : X.A.guards = some []) (hu : X.A.units + 64 < cLine) : CallR X (.builtin "repr") (rReprA X.K) := by
  intro pins s σ H xs us Q I r h
  obtain ⟨v, D, rfl, hD, ok, q⟩ := h
  match us, r with
  | [u], .cons ru .nil =>
    have big : ∀ {a : Addr}, v = .ref a → D.showable = true ∧ D.hasDict = false ∧ D.depth ≤ 60 ∧ D.shown.length ≤ sizeLine → repD D = D.shown → wpAny (model X.prog X.w) X.A (call (.builtin "repr") [u]) (EP X pins σ Q) X.xe s := by
      rintro a rfl ⟨h1, h2, h3, h4⟩ e
      obtain rfl : u = Value.ref a := ru
      obtain ⟨as, rd⟩ := Dp.reads I D (.ref a) (.ref a) hD rfl
      rw [e] at q
      exact repr_of_reads' rd h1 (PyData.noDict_hsm h2) hg (by omega) (fun _ _ e => e) (fun h' u tk hk => ⟨.str D.shown, H, I.kept hk, ⟨u, rfl⟩, q⟩) h4
    cases hD with
    | lst a b => exact big rfl ok rfl
    | tup a b => exact big rfl ok rfl
    | non =>
      obtain rfl : u = Value.none := ru
      exact PySem.P.repr_of_none ⟨.str "None", H, I.tok _, ⟨_, rfl⟩, q⟩
    | bl b =>
      obtain rfl : u = Value.bool b := ru
      exact PySem.P.repr_of_bool ⟨.str (if b then "True" else "False"), H, I.tok _, ⟨_, rfl⟩, q⟩
    | int i =>
      obtain ⟨t, rfl⟩ := (show ∃ t, u = Value.int i t from ru)
      exact PySem.P.repr_of_int ok ⟨.str (toString i), H, I.tok _, ⟨_, rfl⟩, q⟩
    | str z =>
      obtain ⟨t, rfl⟩ := (show ∃ t, u = Value.str z t from ru)
      exact PySem.P.repr_of_str ⟨.str (reprText z), H, I.tok _, ⟨_, rfl⟩, q⟩ ok
def reprD (D : PyData) (Q : PyData → Prop) : Prop := repOk D ∧ Q (.str (repD D))
mutual
theorem plain_no : ∀ {D : PyData}, D.hasDict = false → plain D = true
  | .none, _ => rfl
  | .bool _, _ => rfl
  | .int _, _ => rfl
  | .str _, _ => rfl
  | .list ds, h => by
    simp only [PyData.hasDict] at h
    unfold plain
    exact plains_no h
  | .tuple ds, h => by
    simp only [PyData.hasDict] at h
    unfold plain
    exact plains_no h
  | .dict _, h => by simp [PyData.hasDict] at h
theorem plains_no : ∀ {Ds : List PyData}, PyData.hasDictAll Ds = false → plains Ds = true
  | [], _ => rfl
  | d :: ds, h => by
    unfold PyData.hasDictAll at h
    rw [Bool.or_eq_false_iff] at h
    unfold plains
    rw [plain_no h.1, plains_no h.2]
    rfl
end
theorem plain_rep {D : PyData} (h : repOk D) : plain D = true := by
  cases D with
  | none => rfl
  | bool _ => rfl
  | int _ => rfl
  | str _ => rfl
  | list ds =>
    obtain ⟨_, h2, _⟩ := h
    exact plain_no h2
  | tuple ds =>
    obtain ⟨_, h2, _⟩ := h
    exact plain_no h2
  | dict kvs =>
    obtain ⟨_, h2, _⟩ := h
    exact nomatch h2
theorem cd_repr {P : Tb} {n : Nat} {X : Cx} : CaD P n X (rReprA X.K) reprD := fun x dx F G ρ σ H Q0 Q t R h f k => ⟨x, dx, rfl, Dw.dp (plain_rep f.1) (h.dp R), f.1, k.here t R (.str _) f.2⟩
end Dl
set_option Elab.async false
set_option linter.all false
set_option maxRecDepth 100000
set_option maxHeartbeats 4000000
namespace SoC
open PySem PySem.Spec PyProof.Rows L2 LamX NdefX So
/-- the words of a lambda of the running def, its code at c -/
abbrev lamF (X : Cx) (params : Arguments) (scope : Scope) (c : Addr) : NF := ⟨"<lambda>", X.env.qual ++ "<lambda>", params, [], scope, cloFrom X.env.cells scope.names [], c⟩
section
variable {X : Cx} {pins : List (Addr × Obj)} {σ : L2.St} {H : Hp} {s : Shared}
theorem lay_lam {F : NF} {body : Expr} {pm ctv : Value} {h' : Heap} {t1 t2 : Nat} (I : Inv X pins σ H { s with heap := h', toks := t1 }) :
    Inv X pins σ (upd H h'.objs.size (LmO h'.objs.size F body)) { s with heap := h'.push (PySem.W.kla_obj "<lambda>" F.qual F.params body F.scope F.cl pm F.c ctv), toks := t2 } := by
  have q := Heap.get?_push_size h' (o := PySem.W.kla_obj "<lambda>" F.qual F.params body F.scope F.cl pm F.c ctv) rfl
  exact I.laid (a := h'.objs.size) (t' := t2) (fun b u e => Heap.get?_push_of_some _ e) (Nat.le_refl _) ⟨⟨pm, ctv, q⟩, ⟨_, q⟩, fun g1 g2 ⟨pm, ctv, z⟩ st => ⟨pm, ctv, st _ z⟩⟩
end
section
variable {X : Cx}
end
theorem cell_one {h : Heap} {c : Addr} {v u : Option Value} (a : h.IsCell c v) (b : h.IsCell c u) : v = u := by
  obtain ⟨o, e1, e2⟩ := a
  obtain ⟨o', e3, e4⟩ := b
  rw [e1] at e3
  cases e3
  rw [e2] at e4
  cases e4
  rfl
section
variable {X : Cx} {pins : List (Addr × Obj)} {σ : L2.St} {H : Hp} {s : Shared} {cl : List (Str × Addr)} {fr : List Str} {js : List Nat}
end
end SoC
set_option Elab.async false
set_option linter.all false
set_option maxRecDepth 100000
set_option maxHeartbeats 4000000
namespace SoC
open PySem PySem.Spec PyProof.Rows L2 LamX NdefX So
structure FnS (Pg : Program) (w : World) (K : PySem.W.Frag) (mg : Str → Option Value) (base : Heap) (CX : CXT) (k : Nat) (f : Addr) (fd : FuncData) (ps : List Str) (sp : Shared → Sp) : Prop where
  len : ∀ s vs H Q E, sp s vs H Q E → vs.length = ps.length
  run : ∀ (A : Around) (outer : List Env) (s : Shared) (H : Hp) (args : Args) (us : List Value) (vs : List V) (Q : VK) (E : XK), Room k A → A.guards = some [] → Env0 Pg w K mg base A outer s H → BindsTo s fd args (ps.zip us) → Vals vs us → sp s vs H Q E →
    codeAny (model Pg w) A (.call (.ref f) args) (CR CX outer Pg w H s Q E) s
section
variable {Pg : Program} {w : World} {K : PySem.W.Frag} {mg : Str → Option Value} {base : Heap} {CX : CXT}
theorem FnS.of {k : Nat} {f : Addr} {fd : FuncData} {ps : List Str} {sp : Sp} (F : FnOk Pg w K mg base CX k f fd ps sp) : FnS Pg w K mg base CX k f fd ps (fun _ => sp) :=
  ⟨fun _ vs H Q E h => F.len vs H Q E h, fun A outer s H args us vs Q E hr _ e0 hb r h => F.run A outer s H args us vs Q E hr e0 hb r h⟩
theorem FnS.imp {k : Nat} {f : Addr} {fd : FuncData} {ps : List Str} {sp sp' : Shared → Sp} (F : FnS Pg w K mg base CX k f fd ps sp) (h : ∀ s vs H Q E, sp' s vs H Q E → sp s vs H Q E) : FnS Pg w K mg base CX k f fd ps sp' :=
  ⟨fun s vs H Q E q => F.len s vs H Q E (h s vs H Q E q), fun A outer s H args us vs Q E hr hg e0 hb r q => F.run A outer s H args us vs Q E hr hg e0 hb r (h s vs H Q E q)⟩
theorem okS {x : Str} {st : Stmt} {f : Addr} {fd : FuncData} {N ps : List Str} {k : Nat} {sp : Shared → Sp} (F : Fun K x x st f fd) (S : FnScope N ps (defScope st)) (len : ∀ s vs H Q E, sp s vs H Q E → vs.length = ps.length)
    (body : ∀ (cd : Value) (A : Around) (outer : List Env) (s : Shared) (H : Hp) (vs : List V) (Q : VK) (E : XK), Room k (A.deeper (envOfC x (defScope st) s.heap.objs.size f cd)) → (A.deeper (envOfC x (defScope st) s.heap.objs.size f cd)).guards = some [] → sp s vs H Q E →
      ∃ t, PSs (cxOf CX Pg w K mg base N x (defScope st) f cd A outer s H E) (defBody st) t ∧ t { nx := fun _ H' => Q .non H', rt := Q } (start N vs) H) : FnS Pg w K mg base CX (k + 1) f fd ps sp := by
  obtain ⟨oc, od, kV, doc, pm, an, cd, ct, osl, rfl, lk, hcd⟩ := F.ex
  exact ⟨len, fun A outer s H args us vs Q E hr hg e0 hb r hsp => run_ofS lk hcd S hr e0 hb r (len _ _ _ _ _ hsp) fun hr' => body cd A outer s H vs Q E hr' hg hsp⟩
/-- .. whose code object is known -/
theorem okC {x : Str} {st : Stmt} {f c : Addr} {fd : FuncData} {N ps : List Str} {k : Nat} {sp : Shared → Sp} (F : DfC K mg x st ps f fd c) (S : FnScope N ps (defScope st)) (len : ∀ s vs H Q E, sp s vs H Q E → vs.length = ps.length)
    (body : ∀ (A : Around) (outer : List Env) (s : Shared) (H : Hp) (vs : List V) (Q : VK) (E : XK), Room k (A.deeper (envOfC x (defScope st) s.heap.objs.size f (.ref c))) → (A.deeper (envOfC x (defScope st) s.heap.objs.size f (.ref c))).guards = some [] → sp s vs H Q E →
      ∃ t, PSs (cxOf CX Pg w K mg base N x (defScope st) f (.ref c) A outer s H E) (defBody st) t ∧ t { nx := fun _ H' => Q .non H', rt := Q } (start N vs) H) : FnS Pg w K mg base CX (k + 1) f fd ps sp := by
  obtain ⟨oc, od, kV, doc, pm, an, ct, osl, rfl, lk, hcd⟩ := F.ex
  exact ⟨len, fun A outer s H args us vs Q E hr hg e0 hb r hsp => run_ofS lk hcd S hr e0 hb r (len _ _ _ _ _ hsp) fun hr' => body A outer s H vs Q E hr' hg hsp⟩
end
section
variable {X : Cx} {CX : CXT} {k j : Nat} {f : Addr} {fd : FuncData} {ps : List Str} {sp : Shared → Sp} {E : XK} {x : Str} {p pos : Pos} {e : Expr} {es : List Expr} {t : TA} {pre : L2.St → List V → Hp → VK → Prop}
end
end SoC
set_option Elab.async false
set_option linter.all false
set_option maxRecDepth 100000
set_option maxHeartbeats 4000000
namespace SoC
open PySem PySem.Spec PyProof.Rows L2 LamX NdefX So
structure IsC (K : PySem.W.Frag) (D : Addr) : Prop where
  cl : (PySem.W.clsIn K D).isSome = true
  ga : PySem.W.findIn K (.ref D) "__getattribute__" = some (some (.builtin "BaseException.__getattribute__"))
  gg : PySem.W.findIn K (.ref D) "__getattr__" = some none
  be : PySem.W.subIn K (.ref D) (.type "BaseException") = some true
  ca : PySem.W.findIn K (.ref D) "__class__" = some (some (.builtin "object.__class__"))
  cg : PySem.W.specialIn K (.builtin "object.__class__") "__get__" = some (some (.builtin "getset_descriptor.__get__"))
  ct : PySem.W.takesIn K (.builtin "object.__class__") = some true
  mo : PySem.W.mroIn K D (.type "object") = some true
def rIsD (K : PySem.W.Frag) (a : Addr) (cls : Value) (d : Option Addr) : List V → Hp → VK → Prop := fun xs H Q => ∃ (D O dd : Addr) (fs : List (Str × V)) (b : Bool), xs = [.ref a, .ref O] ∧ cls = .ref D ∧ d = some dd ∧ IsC K D ∧ H dd = some (.xd fs) ∧ PySem.W.kitOne K (.ref D) (.ref O) = some b ∧ Q (.bl b) H
theorem call_isD {X : Cx} {a : Addr} {oe : Obj} {cls : Value} {d : Option Addr} {pn : List (Addr × Obj)} (hz : Zc cls d oe) (hf : ∃ vs, oe.data = .fields vs) : CallR (X.suite a ((a, oe) :: pn)) (.builtin "isinstance") (rIsD X.K a cls d) := by
  intro pins s σ H xs us Q I r h
  obtain ⟨D, O, dd, fs, b, rfl, rfl, rfl, C, hx, e, q⟩ := h
  match us, r with
  | [u1, u2], .cons r1 (.cons r2 .nil) =>
    obtain rfl : u1 = Value.ref a := r1
    obtain rfl : u2 = Value.ref O := r2
    have get := (I.pin (a, oe) (List.mem_append_left _ List.mem_cons_self)).1
    obtain ⟨mA, ns, _⟩ := (show ∃ mA, s.heap.Ns1 dd mA ∧ ∀ f, RelO (fs.lookup f) (mA f) from I.hok dd _ hx)
    obtain ⟨od, ho, _⟩ := lookIn_ns ns
    obtain ⟨vs, hv⟩ := hf
    have J : PySem.W.InstAt s.heap a oe D (some od) := by
      refine ⟨get, hz.1, ?_, ?_⟩
      · unfold PySem.W.notCls
        rw [hv] <;> rfl
      · rw [hz.2]
        exact ho
    exact PySem.W.kia_one (PySem.W.kitx_exc C.cl C.ga C.gg C.be C.ca C.cg C.ct C.mo) I.kIn J e (fun z => nomatch z) fun tk => ⟨.bl b, H, I.tok tk, rfl, q⟩
/-- a clause: its class, its name's slot, its suite's reading -/
abbrev Cls := Value × Nat × (Addr → Value → Option Addr → TS)
/-- all ends of a suite forget the name -/
def offN (i : Nat) (D : Ends) : Ends := { nx := fun σ H => D.nx (σ.set i none) H, rt := D.rt, bk := fun σ H => D.bk (σ.set i none) H, ct := fun σ H => D.ct (σ.set i none) H }
def wEach (K : PySem.W.Frag) (out : WX) (D : Ends) : List Cls → WX
  | [] => out
  | (c, i, ts) :: r => fun cls d σ H => ∃ b, PySem.W.exmOne K cls c = some b ∧ (b = true → ∀ a, H a = none → ts a cls d (offN i D) (σ.set i (some (.ref a))) H) ∧ (b = false → wEach K out D r cls d σ H)
inductive Clauses (X : Cx) : List ExceptHandler → List Cls → Prop
  | none : Clauses X [] []
  | more {x n : Str} {c : Value} {i : Nat} {ts : Addr → Value → Option Addr → TS} {st : Stmt} {sts : List Stmt} {np p : Pos} {hs : List ExceptHandler} {cs : List Cls} (hx : Names X x c) (hi : X.N[i]? = some n) (hl : X.env.kindOf n = some .local)
      (suite : ∀ (a : Addr) (oe : Obj) (cls : Value) (d : Option Addr) (pn : List (Addr × Obj)), Zc cls d oe → (∃ vs, oe.data = .fields vs) → PSs (X.suite a ((a, oe) :: pn)) (st :: sts) (ts a cls d)) (rest : Clauses X hs cs) :
      Clauses X (.ExceptHandler (some (.Name x np)) (some n) (st :: sts) p :: hs) ((c, i, ts) :: cs)
section
variable {X : Cx} {body : List Stmt} {h0 : ExceptHandler} {hds : List ExceptHandler} {cs : List Cls} {pos : Pos} {tb : WX → TS} {out : WX}
theorem ps_tryEach (hs : X.stack = X.env :: X.outer) (hf : X.env.frame = some X.env.locals) (hN : X.N.Nodup) (tk : Takes X out)
    (hb : ∀ (W : WX) (pn : List (Addr × Obj)) (xe : Value → Shared → Prop), Takes (X.tr pn xe) W → PassesOwn (model X.prog X.w) X.A X.env xe → PSs (X.tr pn xe) body (tb W)) (hh : Clauses X (h0 :: hds) cs) :
    PS X (.Try body (h0 :: hds) [] [] pos) (fun D σ H => tb (wEach X.K out D cs) D σ H) := by
  constructor
  intro pins s σ H D I h
  have okX := I.ok
  have fr : X.A.frames = some (X.env :: X.outer) := okX.frames.trans (congrArg some hs)
  -- what is done with an error: the clauses, from the first on
  let wish : Value → Shared → Prop := fun e s1 => wpAny (model X.prog X.w) X.A (noteFrame e X.env) (fun _ s2 => wpAny (model X.prog X.w) X.A (setFlight e none) (fun _ s3 => wpAny (model X.prog X.w) X.A (handleBy e X.env (h0 :: hds)) (SP X pins D) X.xe s3) X.xe s2) X.xe s1
  have caught : Takes (X.tr (X.pn ++ pins) wish) (wEach X.K out D cs) := by
    rintro u s' ⟨a, B, sI, pins', σ1, H1, cls, d, rfl, J1, nb, up, sky, na, os, ag, w⟩
    have J := J1.ofTry okX
    refine Sky.land Zc.steady fr hf (hs ▸ sky) fun g3 fl3 up3 => ?_
    have J3 : Inv X pins σ1 H1 { s' with heap := g3 } := J.landed nb fl3.1 (up.trans up3) os ag
    obtain ⟨o3, ws, get3, z3, dat3⟩ := fl3.there
    have out1 : a ∉ frs (X.env :: X.outer) := by
      intro m
      obtain ⟨_, o, e, no⟩ := (fl3.2.2.1).mem m
      cases get3.symm.trans e
      exact no _ dat3
    have aL : a ≠ X.env.locals := by
      rintro rfl
      exact out1 (List.mem_filterMap.mpr ⟨X.env, .head _, hf⟩)
    have aF : a ∉ X.fs := by
      intro m
      obtain ⟨v, hv, q⟩ := List.mem_filterMap.mp m
      exact out1 (List.mem_filterMap.mpr ⟨v, .tail _ hv, q⟩)
    have K3 := J3.suite get3 dat3 na aL aF
    suffices go : ∀ {l : List ExceptHandler} {m : List Cls}, Clauses X l m → wEach X.K out D m cls d σ1 H1 → wpAny (model X.prog X.w) X.A (handleBy (.ref a) X.env l) (SP X pins D) X.xe { s' with heap := g3 } from go hh w
    intro l m hc
    induction hc with
    | none =>
      intro hw
      refine wpAny_handleBy_nil ?_
      have fl := fl3
      obtain ⟨_, _, _, o, vs, T, _, _, e, _, dt, at1, _⟩ := fl
      unfold PySem.passOn
      refine wpAny_bind (wpAny_field e dt at1 ?_)
      have nn : ¬ (Value.ref T == Value.none) = true := by simp
      rw [if_neg nn]
      have last : wpAny (model X.prog X.w) X.A (setFlight (.ref a) X.env.frame) (fun _ s4 => wpAny (model X.prog X.w) X.A (throw (.ref a) : Sem Flow) (SP X pins D) X.xe s4) X.xe { s' with heap := g3 } := by
        rw [hf]
        exact HandSPX.setFlight_upZ fl3 fun g4 hh4 up4 => wpAny_throw (tk _ _ ⟨a, B, sI, pins, σ1, H1, cls, d, rfl, J, nb, (up.trans up3).trans up4, .inr (.inr (hs ▸ hh4)), na, os, ag, hw⟩)
      first
        | exact wpAny_bind last
        | exact wpAny_bind (wpAny_pure (wpAny_bind last))
    | @more x n c i ts st sts np p l2 m2 hx hi hl suite rest ih =>
      rintro ⟨b, eb, yes, no⟩
      refine wpAny_handleBy_cons (codeAny_handlers_test ?_) (fun q => nomatch q)
      have isC := PySem.W.exm_one (M := model X.prog X.w) J3.kIn (show PySem.W.Looks (model X.prog X.w) g3 (typeOf (.ref a)) cls from fun A Q E s k q => wpAny_typeOf_ref (k _ _ get3) (z3.1.symm ▸ q)) eb
      have asked : ∀ {Q : Value → Shared → Prop} {E : Value → Shared → Prop}, Q c { s' with heap := g3 } → wpAny (model X.prog X.w) (X.A.mark (some (.ref a))) (eval (.Name x np) X.env) Q E { s' with heap := g3 } := by
        intro Q E q
        rcases hx with ⟨gl, db, mm | ⟨mm, bv, hnn⟩⟩
        · exact ld_glob (X := X.suite a ((a, o3) :: (X.pn ++ pins))) K3 gl mm q db
        · exact ld_blt (X := X.suite a ((a, o3) :: (X.pn ++ pins))) K3 gl mm bv q hnn db
      refine asked (isC.here ?_)
      cases b with
      | false => exact ih (no rfl)
      | true =>
        refine codeAny_handlers_suite_as (HandSPX.lands_againZ fl3 fun g4 fl4 up4 => ?_)
        have J4 : Inv X pins σ1 H1 { s' with heap := g4 } := J.landed nb fl4.1 ((up.trans up3).trans up4) os ag
        obtain ⟨o4, _, get4, z4, dat4⟩ := fl4.there
        refine store_ok (X := X.suite a ((a, o4) :: (X.pn ++ pins))) (v := .ref a) (J4.suite get4 dat4 na aL aF) hN hi (.inl hl) rfl (fun s5 S5 => ?_) (.inr hl)
        refine wpAny_mono ((suite a o4 cls d (X.pn ++ pins) z4 ⟨_, dat4⟩).run [] s5 _ H1 _ S5 (yes rfl a na)) (fun fl s6 hsp => ?_) (fun _ _ z => z.elim)
        have off : ∀ {σ6 : L2.St} {H6 : Hp} {R : Shared → Prop}, Inv (X.suite a ((a, o4) :: (X.pn ++ pins))) [] σ6 H6 s6 → (∀ s7, Inv X pins (σ6.set i none) H6 s7 → R s7) → wpAny (model X.prog X.w) X.A (do bindName X.env n .none; unbindBehindTheSuite X.env n p) (fun _ s7 => R s7) X.xe s6 :=
          fun S hR => gone_ok (S.unsuite okX) hN hi hl hR
        match fl, hsp with
        | .ret u, ⟨v, σ6, H6, S6, rv, q⟩ => exact off S6 fun s7 J7 => ⟨v, _, H6, J7, rv, q⟩
        | .next, ⟨σ6, H6, S6, q⟩ => exact off S6 fun s7 J7 => ⟨_, H6, J7, q⟩
        | .brk, ⟨σ6, H6, S6, q⟩ => exact off S6 fun s7 J7 => ⟨_, H6, J7, q⟩
        | .cont, ⟨σ6, H6, S6, q⟩ => exact off S6 fun s7 J7 => ⟨_, H6, J7, q⟩
  refine wpAny_Try_except (wpAny_mono ((hb (wEach X.K out D cs) (X.pn ++ pins) wish caught PassesOwn.looking).run [] s σ H D (I.toTry _) h) (fun fl s1 hsp => ?_) (fun _ _ he => he))
  match fl, hsp with
  | .next, ⟨σ', H', J', q⟩ => exact wpAny_execs_nil ⟨σ', H', J'.ofTry okX, q⟩
  | .brk, ⟨σ', H', J', q⟩ => exact ⟨σ', H', J'.ofTry okX, q⟩
  | .cont, ⟨σ', H', J', q⟩ => exact ⟨σ', H', J'.ofTry okX, q⟩
  | .ret u, ⟨v, σ', H', J', rv, q⟩ => exact ⟨v, σ', H', J'.ofTry okX, rv, q⟩
end
end SoC
set_option Elab.async false
set_option linter.all false
set_option maxRecDepth 100000
set_option maxHeartbeats 4000000
namespace Dl
open PySem PySem.Spec PyProof PyProof.Rows L2 So Da SoC
section
variable {K : Zw} {F : List (Addr × HO)} {G G' H H' : Hp} {ρ : Sto} {σ : L2.St}
theorem Rep.noF (R : Rep K F G ρ σ H) : Rep K [] G ρ σ H := ⟨R.len, R.sh, R.ob, R.exc, R.ask, R.uniq, fun m => absurd m List.not_mem_nil, R.sub, R.nt⟩
/-- behind a call that was given no object of one's own -/
theorem Rep.past {vs : List V} {rs : List Rv} (t : Tg G K.T) (R : Rep K F G ρ σ H) (va : RvAll K G σ vs rs) (no : obSlots ρ rs = []) (s : Ex K.T G G') (sub : Sub G' H') (nt : NT G') (gone : ∀ b ∈ hidL F ρ (argsOf ρ rs), H' b = none) :
    Rep K F G' ρ σ (bak (hidL F ρ (argsOf ρ rs)) H H') := by
  have nob : ∀ {a : Addr}, ¬ Owns (argsOf ρ rs) a := fun {a} z => by
    obtain ⟨k, i, c, h1, h2⟩ := own_arg z
    have : ∀ {rs : List Rv}, rs[k]? = some (.slot i) → obSlots ρ rs = [] → False := by
      clear h1 va no gone z
      induction k with
      | zero =>
        intro rs h n
        cases rs with
        | nil => simp at h
        | cons r rs =>
          have h : some r = some (Rv.slot i) := h
          cases h
          unfold obSlots at n
          rw [h2] at n
          cases n
      | succ k ih =>
        intro rs h n
        cases rs with
        | nil => simp at h
        | cons r rs =>
          refine ih (rs := rs) (by simpa using h) ?_
          cases r with
          | val D => exact n
          | slot j =>
            unfold obSlots at n
            split at n
            · cases n
            · exact n
    exact this h1 no
  have hidden : ∀ {i : Nat} {a : Addr} {c : Oc}, ρ[i]? = some (Lc.ob a c) → a ∈ hidL F ρ (argsOf ρ rs) := fun {i a c} e => mem_hidL.mpr (.inl ⟨⟨i, c, e⟩, nob⟩)
  have free : ∀ {b}, b ∈ hidL F ρ (argsOf ρ rs) → G' b = none := fun {b} m => by
    cases e : G' b with
    | none => rfl
    | some u =>
      have := sub b u e
      rw [gone b m] at this
      cases this
  refine ⟨R.len, fun {i D} e => ?_, fun {i a c} e => ?_, fun {i a C d D} e => ?_, fun {i O} e => ?_, R.uniq, fun {a o} m => ?_, fun b u e => ?_, nt⟩
  · obtain ⟨v, h1, h2⟩ := R.sh e
    exact ⟨v, h1, h2.mono s⟩
  · obtain ⟨h1, h2, o, h3, h4⟩ := R.ob e
    exact ⟨h1, free (hidden e), o, by rw [bak_in (hidden e)]; exact h3, h4.mono s⟩
  · obtain ⟨h1, v, h2, h3⟩ := R.exc e
    exact ⟨h1, v, s.1 _ _ h2 (fun _ z => nomatch z), h3.mono s⟩
  · obtain ⟨f, h1, h2⟩ := R.ask e
    exact ⟨f, h1, h2.mono s⟩
  · obtain ⟨h1, h2, h3, h4⟩ := R.ex m
    have mm : a ∈ hidL F ρ (argsOf ρ rs) := mem_hidL.mpr (.inr ⟨o, m⟩)
    exact ⟨by rw [bak_in mm]; exact h1, free mm, h3, h4⟩
  · rw [bak_out fun m => ?_]
    · exact sub b u e
    · rw [free m] at e
      cases e
end
abbrev DTEW := Sto → (PyData → Sto → Prop) → (Sto → EK) → Prop
/-- what is wished of errors, by the store in which they come -/
def ErrW (K : Zw) (n : Nat) (W : WX) (ρ : Sto) (G : Hp) (ex : Sto → EK) : Prop := ∀ ρ' σ' G' H' C Dv d v, ex ρ' (C, Dv) → Ex K.T G G' → Alike n ρ ρ' → Rep K [] G' ρ' σ' H' → Xd K C G' d v → Dw K G' v Dv → W (.ref C) (some d) σ' H'
def rdEW (K : Zw) (G0 : Hp) (n : Nat) (W : WX) (u : DTEW) : TE := fun σ H Q => ∃ ρ G Q0 ex, Ex K.T G0 G ∧ Rep K [] G ρ σ H ∧ u ρ Q0 ex ∧ Kn K [] n Q0 ρ G σ Q ∧ ErrW K n W ρ G ex
def DEW (P : Tb) (G0 : Hp) (n : Nat) (X : Cx) (W : WX) (e : Expr) (u : DTEW) : Prop := PE X e (rdEW (zOf X P) G0 n W u)
section
variable {P : Tb} {G0 : Hp} {n : Nat} {X : Cx} {W : WX} {e : Expr} {es : List Expr} {T : TD} {k : Nat} {f : Addr} {fd : FuncData} {ps ks : List Str} {x : Str} {p pos kpos : Pos} {t : DTRs} {kws : List Keyword} {g : List Value → List Value → List Value} {gV : List V → List V → List V}
theorem FnT.at {K : PySem.W.Frag} {Pg : Program} {w : World} {H : Hp} {h : Heap} {f : Addr} (x : FnT K H f) (hok : HOk Pg w H h) (kin : K.In h) : PySem.W.FnAt f h := by
  obtain ⟨φ, e, q⟩ | x := x
  case inr => exact x h kin
  obtain ⟨z, _, _⟩ := hok f _ e
  exact q h z
theorem FnT.sub {K : PySem.W.Frag} {G H : Hp} {f : Addr} (x : FnT K G f) (s : Sub G H) : FnT K H f := x.ext (LamX.ExtN.of s)
theorem Room.le {k j : Nat} {A : Around} (h : Room k A) (l : j ≤ k) : Room j A := h.mono l
theorem ask_run {E : L2.St → XK} {j : Nat} {W : LW} {G : Hp} {ρ : Sto} {σ : L2.St} {H : Hp} {F : List (Addr × HO)} {pins : List (Addr × Obj)} {s : Shared} {us : List Value} {vs : List V} {Ds : List PyData} {Q : VK} {R0 : Out → Prop} (hl : ∀ σ, PassesAt (L2.CX X.prog X.w) X σ (E σ)) (hr : Room j X.A) (hgd : X.A.guards = some [])
    (A : AskOk (zOf X P) G f j W) (I : Inv X pins σ H s) (R : Rep (zOf X P) F G ρ σ H) (t : Tg G P) (r : Vals vs us) (d : DwAll (zOf X P) G vs Ds) (w : W Ds R0)
    (hQ : ∀ o, R0 o → match o with
      | .told D => ∀ v G' H', Ex P G G' → Rep (zOf X P) F G' ρ σ H' → Dw (zOf X P) G' v D → Q v H'
      | .err C D => ∀ d v G' H', Ex P G G' → Rep (zOf X P) F G' ρ σ H' → Xd (zOf X P) C G' d v → Dw (zOf X P) G' v D → E σ (.ref C) (some d) H') :
    wpAny (model X.prog X.w) X.A (call (.ref f) us) (EP X pins σ Q) X.xe s := by
  obtain ⟨L, Rc⟩ := R.call (vs := []) (rs := []) trivial List.nodup_nil
  have M : Msk (frs X.stack) (hidL F ρ (argsOf ρ [])) noCo H s.heap := ⟨L, fun b ob e => nomatch e⟩
  have e0 := I.env0
  refine wpAny_call (codeAny_mono (A.run X.A X.stack s (mask (hidL F ρ (argsOf ρ [])) noCo H) G us vs Ds R0 (fun v H2 => Bck (hidL F ρ (argsOf ρ [])) noCo H2 → Q v (unmask (hidL F ρ (argsOf ρ [])) noCo H H2))
    (fun cls d H2 => Bck (hidL F ρ (argsOf ρ [])) noCo H2 → E σ cls d (unmask (hidL F ρ (argsOf ρ [])) noCo H H2)) hr hgd (mask_env M (fun b ob e => nomatch e) e0) (Ex.refl t) Rc.sub R.nt r d w fun o ho => ?_) fun z s' hq => ?_)
  · have h := hQ o ho
    cases o with
    | told D => exact fun v G2 H2 s2 sub2 nt2 d bk => h _ _ _ s2 (R.past t (vs := []) (rs := []) trivial rfl s2 sub2 nt2 bk.gone) d
    | err C D => exact fun d v G2 H2 s2 sub2 nt2 xd dv bk => h _ _ _ _ s2 (R.past t (vs := []) (rs := []) trivial rfl s2 sub2 nt2 bk.gone) xd dv
  · match z, hq with
    | .error e, hq => exact hl σ pins H s e s' I (cx_unmask M e0.hok e0.frf hq fun cls d H2 q g => q g)
    | .ok (.ret u), ⟨v, H2, os, bare, un, hok, rv, z⟩ =>
      have bk := bck_of M e0.hok un
      exact I.after ⟨v, unmask _ noCo H H2, os, bare, unmask_un M e0.hok un hok, unmask_ok M e0.hok bk hok fun c m o g => un.keep c o g (mask_in m) (fun m2 => by
        obtain ⟨o, e, _⟩ := L c m
        rw [e0.frf c m2] at e
        cases e) (fun z => nomatch z), rv, z bk⟩
/-- x(..) within a try -/
def dAsk (i j : Nat) (t : DTA) : DTEW := fun ρ Q ex => match ρ[i]? with
  | some (.ask (.fn k W)) => k ≤ j ∧ t ρ fun Ds ρ1 => ∃ R, W Ds R ∧ ∀ o, R o → match o with
    | .told D => Q D ρ1
    | .err C D => ex ρ1 (C, D)
  | _ => False
/-- .. elsewhere -/
def dAskE (i j : Nat) (t : DTA) (er : EK) : DTE := fun ρ Q => match ρ[i]? with
  | some (.ask (.fn k W)) => k ≤ j ∧ t ρ fun Ds ρ1 => ∃ R, W Ds R ∧ ∀ o, R o → match o with
    | .told D => Q D ρ1
    | .err C D => er (C, D)
  | _ => False
theorem pe_ask0 {te : TE} (i : Nat) (hN : X.N[i]? = some x) (hv : Vis X.env.scope x) (hd : (x == ("__debug__" : Str)) = false) (hcd : (x == ("__classdict__" : Str)) = false)
    (h : ∀ (pins : List (Addr × Obj)) (σ : L2.St) (H : Hp) (s : Shared) (Q : VK), Inv X pins σ H s → te σ H Q → ∃ f, σ[i]? = some (some (.ref f)) ∧ FnT X.K H f ∧ wpAny (model X.prog X.w) X.A (call (.ref f) []) (EP X pins σ Q) X.xe s) : PE X (.Call (.Name x p) [] [] pos) te := by
  refine ⟨fun pins s σ H Q I hq => ?_⟩
  obtain ⟨f, hs, _, _⟩ := h pins σ H s Q I hq
  refine wpAny_Call_Name_kw (thn ((pe_var (pos := p) hN hv hd hcd).run pins s σ H (fun v H1 => v = .ref f ∧ H1 = H) I ⟨.ref f, hs, rfl, rfl⟩) fun u s1 ⟨v, H1, I1, r1, q1⟩ => ?_)
  obtain ⟨rfl, rfl⟩ := q1
  obtain rfl : u = Value.ref f := r1
  obtain ⟨f', hs', hf, w⟩ := h pins σ H1 s1 Q I1 hq
  rw [hs] at hs'
  cases hs'
  exact PySem.W.callWith_F0 (first := []) (hf.at I1.hok I1.kIn) w
theorem pe_askA {te : TE} {ta : TA} (i : Nat) (ha : PA X (e :: es) ta) (hN : X.N[i]? = some x) (hv : Vis X.env.scope x) (hd : (x == ("__debug__" : Str)) = false) (hcd : (x == ("__classdict__" : Str)) = false)
    (h : ∀ (σ : L2.St) (H : Hp) (Q : VK), te σ H Q → ∃ f, σ[i]? = some (some (.ref f)) ∧ FnT X.K H f ∧ ta σ H fun vs H1 => FnT X.K H1 f ∧ ∀ (pins : List (Addr × Obj)) (s : Shared) (us : List Value), Inv X pins σ H1 s → Vals vs us → wpAny (model X.prog X.w) X.A (call (.ref f) us) (EP X pins σ Q) X.xe s)
    (he : starEach (e :: es) X.env = (false, eval e X.env) :: starEach es X.env) (hpl : (backTo pos (starEach es X.env)).any (·.1) = false) : PE X (.Call (.Name x p) (e :: es) [] pos) te := by
  refine ⟨fun pins s σ H Q I hq => ?_⟩
  obtain ⟨f, hs, hf, q⟩ := h σ H Q hq
  refine wpAny_Call_Name_kw (thn ((pe_var (pos := p) hN hv hd hcd).run pins s σ H (fun v H1 => v = .ref f ∧ H1 = H) I ⟨.ref f, hs, rfl, rfl⟩) fun u s1 ⟨v, H1, I1, r1, q1⟩ => ?_)
  obtain ⟨rfl, rfl⟩ := q1
  obtain rfl : u = Value.ref f := r1
  refine PySem.W.callWith_F (first := []) (hf.at I1.hok I1.kIn) (thn (ha.run pos pins s1 σ _ _ I1 q) fun us s2 ⟨vs, H2, I2, r, g1, g2⟩ => ⟨g1.at I2.hok I2.kIn, ?_⟩) he hpl
  exact g2 pins s2 us I2 r
theorem dew_ask {j : Nat} (tk : Takes X W) (hr : Room j X.A) (hgd : X.A.guards = some []) (i : Nat) (hN : X.N[i]? = some x := by rfl) (hv : Vis X.env.scope x := by first | exact Or.inl rfl | exact Or.inr (Or.inl rfl) | exact Or.inr (Or.inr rfl)) (hd : (x == ("__debug__" : Str)) = false := by decide)
    (hcd : (x == ("__classdict__" : Str)) = false := by decide) : DEW P G0 n X W (.Call (.Name x p) [] [] pos) (dAsk i j fun ρ Q => Q [] ρ) := pe_ask0 i hN hv hd hcd fun pins σ H s Q I ⟨ρ, G, Q0, ex, s0, R, h, kk, ee⟩ => by
  unfold dAsk at h
  split at h
  case h_2 => exact h.elim
  rename_i k2 W2 q
  obtain ⟨f, hs, A⟩ := R.ask q
  obtain ⟨hk, R0, w, h⟩ := h
  refine ⟨f, hs, A.fnT.sub R.sub, ask_run (E := WE W) (Ds := []) (vs := []) (fun σ => passAt tk σ) (hr.mono hk) hgd A I R s0.2 .nil .nil w fun o ho => ?_⟩
  have ho := h o ho
  cases o with
  | told D => exact fun v G2 H2 s2 R2 d => kk _ _ _ _ _ ho s2 .refl R2 d
  | err C D => exact fun d v G2 H2 s2 R2 xd dv => ee _ _ _ _ _ _ _ _ ho s2 .refl R2 xd dv
theorem de_askA {j : Nat} {ta : DTA} {E : XK} {er : EK} (hE : ErrL (zOf X P) G0 E er) (hx : Passes (L2.CX X.prog X.w) X E) (hr : Room j X.A) (hgd : X.A.guards = some []) (i : Nat) (ha : DA P G0 n X (e :: es) ta) (hN : X.N[i]? = some x := by rfl) (hv : Vis X.env.scope x := by first | exact Or.inl rfl | exact Or.inr (Or.inl rfl) | exact Or.inr (Or.inr rfl)) (hd : (x == ("__debug__" : Str)) = false := by decide)
    (hcd : (x == ("__classdict__" : Str)) = false := by decide) (he : starEach (e :: es) X.env = (false, eval e X.env) :: starEach es X.env := by rfl) (hpl : (backTo pos (starEach es X.env)).any (·.1) = false := by rfl) : DE P G0 n X (.Call (.Name x p) (e :: es) [] pos) (dAskE i j ta er) := pe_askA i ha hN hv hd hcd (fun σ H Q ⟨F, ρ, G, Q0, s0, R, h, kk⟩ => by
  unfold dAskE at h
  split at h
  case h_2 => exact h.elim
  rename_i k2 W2 q
  obtain ⟨f, hs, A⟩ := R.ask q
  refine ⟨f, hs, A.fnT.sub R.sub, F, ρ, G, _, s0, R, h.2, fun Ds ρ1 vs G1 H1 ⟨R0, w, q1⟩ s1 al1 R1 d1 => ⟨(FkOk.mono (O := .fn k2 W2) s1 A).fnT.sub R1.sub, fun pins s us I r => ask_run (E := fun _ => E) (fun σ pins H s e s' I c => hx pins σ H s e s' I c) (hr.mono h.1) hgd (AskOk.mono s1 A) I R1 s1.2 r d1 w fun o ho => ?_⟩⟩
  have ho := q1 o ho
  cases o with
  | told D => exact fun v G2 H2 s2 R2 d => kk _ _ _ _ _ ho (s1.trans s2) al1 R2 d
  | err C D => exact fun d v G2 H2 s2 R2 xd dv => hE _ _ _ _ _ _ ho ((s0.trans s1).trans s2) R2.sub R2.nt xd dv) he hpl
end
abbrev DTSW := EndsD → Sto → (Sto → EK) → Prop
def rdSW (K : Zw) (G0 : Hp) (n : Nat) (W : WX) (t : DTSW) : TS := fun D σ H => ∃ ρ G D0 ex, Ex K.T G0 G ∧ Rep K [] G ρ σ H ∧ t D0 ρ ex ∧ Lk K n D0 ρ G D ∧ ErrW K n W ρ G ex
def DSW (P : Tb) (G0 : Hp) (n : Nat) (X : Cx) (W : WX) (st : Stmt) (t : DTSW) : Prop := PS X st (rdSW (zOf X P) G0 n W t)
section
variable {P : Tb} {G0 : Hp} {n : Nat} {X : Cx} {W : WX} {e : Expr} {u : DTEW} {pos tp : Pos}
/-- return ('told', e) -/
theorem dsw_told {z : Str} {j kk : Nat} {cp : Pos} (he : DEW P G0 n X W e u) (hs : starEach [e] X.env = (false, eval e X.env) :: starEach [] X.env := by rfl) : DSW P G0 n X W (.Return (some (.Tuple [.Constant (.str z) j cp, e] kk tp)) pos) (fun D ρ ex => u ρ (fun Dv ρ' => D.rt (.tuple [.str z, Dv]) ρ') ex) :=
  ps_weak (ps_ret (pe_tupF (pa_cons pe_str (pa_cons he pa_nil hs)))) fun D σ H ⟨ρ, G, D0, ex, s, R, h, k, ee⟩ =>
  ⟨ρ, G, _, ex, s, R, h, fun Dv ρ' v G' H' q s' al R' d => ⟨by show 2 ≤ sizeLine; decide, fun p ob hp hd => by
    obtain ⟨gp, R2⟩ := R'.new (o := .frz ob (.tup [.str z, v])) s'.2 hp hd
    have s2 : Ex P G' _ := Ex.new s'.2 gp (o := .frz ob (.tup [.str z, v]))
    exact k.rt _ _ _ _ _ _ q (s'.trans s2) al R2 (.tup (.inl (.inr ⟨ob, upd_same⟩)) (.cons (.str _) (.cons (Dw.mono s2 d) .nil)))⟩, ee⟩
end
section
variable {P : Tb} {G0 : Hp} {n : Nat} {X : Cx} {a C : Addr} {oe : Obj} {cls : Value} {d : Option Addr} {pn : List (Addr × Obj)} {pos p p2 p3 : Pos} {x nm : Str}
def dFlt (a C : Addr) (cls : Value) (d : Option Addr) (i : Nat) : (DTE) := fun ρ Q => match ρ[i]? with
  | some (.exc a' C' d' D) => a' = a ∧ C' = C ∧ cls = .ref C' ∧ d = some d' ∧ Q D ρ
  | _ => False
/-- fault.at -/
theorem de_flt (hn : P.an C = nm) (T : XfC X.K C) (hno : PySem.W.findIn X.K (.ref C) nm = some none) (hz : Zc cls d oe) (hf : ∃ vs, oe.data = .fields vs) (i : Nat) (hN : X.N[i]? = some x := by rfl)
    (hv : Vis X.env.scope x := by first | exact Or.inl rfl | exact Or.inr (Or.inl rfl) | exact Or.inr (Or.inr rfl)) (hd : (x == ("__debug__" : Str)) = false := by decide) (hcd : (x == ("__classdict__" : Str)) = false := by decide)
    (hb : attributeBase (.Name x p) nm X.env (eval (.Name x p) X.env) = eval (.Name x p) X.env := by rfl) : DE P G0 n (X.suite a ((a, oe) :: pn)) (.Attribute (.Name x p) nm pos) (dFlt a C cls d i) :=
  pe_weak (pe_xf T hno hz hf (pe_var (X := X.suite a ((a, oe) :: pn)) hN hv hd hcd) hb) fun σ H Q ⟨F, ρ, G, Q0, s, R, h, k⟩ => by
    unfold dFlt at h
    split at h
    · rename_i a' C' d' D q
      obtain ⟨rfl, rfl, rfl, rfl, h⟩ := h
      obtain ⟨h1, v, h2, h3⟩ := R.exc q
      refine ⟨_, h1, rfl, rfl, d', _, v, rfl, R.sub _ _ h2, ?_, k.here s.2 R h3 h⟩
      show List.lookup nm [(P.an C', v)] = some v
      rw [hn, List.lookup_cons_self]
    · exact h.elim
def dFlI (a C : Addr) (cls : Value) (d : Option Addr) (b : Bool) (i : Nat) : (DTE) := fun ρ Q => match ρ[i]? with
  | some (.exc a' C' d' D) => a' = a ∧ C' = C ∧ cls = .ref C' ∧ d = some d' ∧ Q (.bool b) ρ
  | _ => False
/-- isinstance(fault, O) -/
theorem de_fltI {O : Addr} {o : Str} {b : Bool} (T : IsC X.K C) (hk : PySem.W.kitOne X.K (.ref C) (.ref O) = some b) (hz : Zc cls d oe) (hf : ∃ vs, oe.data = .fields vs) (hgi : Gl X "isinstance") (hmi : X.mg "isinstance" = none) (hgo : Gl X o) (hmo : X.mg o = some (.ref O)) (i : Nat) (hN : X.N[i]? = some x := by rfl)
    (hv : Vis X.env.scope x := by first | exact Or.inl rfl | exact Or.inr (Or.inl rfl) | exact Or.inr (Or.inr rfl)) (hd : (x == ("__debug__" : Str)) = false := by decide) (hcd : (x == ("__classdict__" : Str)) = false := by decide) (hdo : (o == ("__debug__" : Str)) = false := by decide)
    (hs : starEach [.Name x p2, .Name o p3] X.env = (false, eval (.Name x p2) X.env) :: starEach [.Name o p3] X.env := by rfl) (hs2 : starEach [.Name o p3] X.env = (false, eval (.Name o p3) X.env) :: starEach [] X.env := by rfl) (hpl : (backTo pos (starEach [.Name o p3] X.env)).any (·.1) = false := by rfl) :
    DE P G0 n (X.suite a ((a, oe) :: pn)) (.Call (.Name "isinstance" p) [.Name x p2, .Name o p3] [] pos) (dFlI a C cls d b i) :=
  pe_weak (pe_callB (X := X.suite a ((a, oe) :: pn)) (call_isD hz hf) hgi hmi (by decide +kernel) (pa_cons (X := X.suite a ((a, oe) :: pn)) (pe_var (X := X.suite a ((a, oe) :: pn)) hN hv hd hcd) (pa_cons (X := X.suite a ((a, oe) :: pn)) (pe_glob (X := X.suite a ((a, oe) :: pn)) (v := .ref O) hgo hmo rfl hdo) pa_nil hs2) hs) (by decide) (by decide) hs hpl) fun σ H Q ⟨F, ρ, G, Q0, s, R, h, k⟩ => by
    unfold dFlI at h
    split at h
    · rename_i a' C' d' D q
      obtain ⟨rfl, rfl, rfl, rfl, h⟩ := h
      obtain ⟨h1, v, h2, h3⟩ := R.exc q
      exact ⟨_, h1, C', O, d', _, b, rfl, rfl, rfl, T, R.sub _ _ h2, hk, k.here s.2 R (.bl _) h⟩
    · exact h.elim
end
/-- a clause by data: its class, its name's slot, its suite's reading -/
abbrev ClsD := Addr × Nat × (Addr → Value → Option Addr → DTS)
def offD (i : Nat) (D : EndsD) : EndsD := { nx := fun ρ => noOb ρ i ∧ D.nx (ρ.set i .un), rt := D.rt, bk := fun ρ => noOb ρ i ∧ D.bk (ρ.set i .un), ct := fun ρ => noOb ρ i ∧ D.ct (ρ.set i .un), ro := D.ro }
def hearD (K : PySem.W.Frag) (D : EndsD) : List ClsD → Sto → EK
  | [], _ => fun _ => False
  | (c, i, t) :: r, ρ => fun er => ∃ b, PySem.W.exmOne K (.ref er.1) (.ref c) = some b ∧ (b = true → noOb ρ i ∧ ∀ a d, t a (.ref er.1) (some d) (offD i D) (ρ.set i (.exc a er.1 d er.2))) ∧ (b = false → hearD K D r ρ er)
inductive HdsD (P : Tb) (G0 : Hp) (n : Nat) (X : Cx) : List ExceptHandler → List ClsD → Prop
  | none : HdsD P G0 n X [] []
  | more {x nm : Str} {c : Addr} {i : Nat} {t : Addr → Value → Option Addr → DTS} {st : Stmt} {sts : List Stmt} {np p : Pos} {hs : List ExceptHandler} {cs : List ClsD} (hx : Names X x (.ref c)) (hi : X.N[i]? = some nm) (hl : X.env.kindOf nm = some .local)
      (suite : ∀ (a : Addr) (oe : Obj) (cls : Value) (d : Option Addr) (pn : List (Addr × Obj)), Zc cls d oe → (∃ vs, oe.data = .fields vs) → DSs P G0 n (X.suite a ((a, oe) :: pn)) (st :: sts) (t a cls d)) (rest : HdsD P G0 n X hs cs) :
      HdsD P G0 n X (.ExceptHandler (some (.Name x np)) (some nm) (st :: sts) p :: hs) ((c, i, t) :: cs)
section
variable {P : Tb} {G0 : Hp} {n : Nat} {X : Cx} {st : Stmt} {h0 : ExceptHandler} {hds : List ExceptHandler} {cs : List ClsD} {pos : Pos} {tb : DTSW}
def clsT (K : Zw) (G0 : Hp) (n : Nat) (c : ClsD) : SoC.Cls := (.ref c.1, c.2.1, fun a cls d => rdS K G0 n (c.2.2 a cls d))
theorem HdsD.cl : ∀ {hs : List ExceptHandler} {cs : List ClsD}, HdsD P G0 n X hs cs → Clauses X hs (cs.map (clsT (zOf X P) G0 n))
  | _, _, .none => .none
  | _, _, .more hx hi hl su r => .more hx hi hl su r.cl
theorem exc_fresh {K : Zw} {F : List (Addr × HO)} {G H : Hp} {ρ : Sto} {σ : L2.St} {i : Nat} {a C d : Addr} {v : V} {D : PyData} (R : Rep K F G ρ σ H) (n : ∀ a c, ρ[i]? ≠ some (.ob a c)) (x : Xd K C G d v) (dv : Dw K G v D) : Rep K F G (ρ.set i (.exc a C d D)) (σ.set i (some (.ref a))) H := R.setLc n ⟨rfl, v, x, dv⟩
theorem hear_read {D : Ends} {D0 : EndsD} {ρ : Sto} {G : Hp} (k : Lk (zOf X P) n D0 ρ G D) (s0 : Ex P G0 G) : ∀ (cs : List ClsD), ErrW (zOf X P) n (wEach X.K (fun _ _ _ _ => False) D (cs.map (clsT (zOf X P) G0 n))) ρ G (hearD X.K D0 cs)
  | [] => fun ρ' σ' G' H' C Dv d v q _ _ _ _ _ => q.elim
  | (c, i, t) :: r => fun ρ' σ' G' H' C Dv d v ⟨b, hb, hy, hn⟩ s al R x dv => by
    refine ⟨b, hb, fun e a ha => ?_, fun e => hear_read k s0 r ρ' σ' G' H' C Dv d v (hn e) s al R x dv⟩
    obtain ⟨no, hy⟩ := hy e
    have k2 := k.after s (al.trans (Alike.set (lc := .exc a C d Dv) no))
    have off : ∀ {Q0 : Sto → Prop} {Q : L2.St → Hp → Prop}, LkN (zOf X P) n Q0 (ρ'.set i (.exc a C d Dv)) G' Q → LkN (zOf X P) n (fun ρ2 => noOb ρ2 i ∧ Q0 (ρ2.set i .un)) (ρ'.set i (.exc a C d Dv)) G' fun σ2 H2 => Q (σ2.set i none) H2 := fun kk ρ2 σ2 G2 H2 ⟨no2, q2⟩ s2 al2 R2 =>
      kk _ _ _ _ q2 s2 (al2.trans (.set no2)) (R2.forget (noOb_ne no2) none)
    show rdS (zOf X P) G0 n (t a (Value.ref C) (some d)) (offN i D) (σ'.set i (some (V.ref a))) H'
    exact ⟨ρ'.set i (.exc a C d Dv), G', offD i D0, s0.trans s, exc_fresh R (noOb_ne no) x dv, hy a d, ⟨off k2.nx, off k2.bk, off k2.ct, k2.rt, k2.ro⟩⟩
def dTry (K : PySem.W.Frag) (cs : List ClsD) (tb : DTSW) : DTS := fun D ρ => tb D ρ (hearD K D cs)
/-- try: one statement; except C as fault: .. -/
theorem ds_try {K : PySem.W.Frag} (hK : X.K = K) (hs : X.stack = X.env :: X.outer) (hf : X.env.frame = some X.env.locals) (hN : X.N.Nodup) (hb : ∀ (W : WX) (pn : List (Addr × Obj)) (xe : Value → Shared → Prop), Takes (X.tr pn xe) W → PassesOwn (model X.prog X.w) X.A X.env xe → DSW P G0 n (X.tr pn xe) W st tb)
    (hh : HdsD P G0 n X (h0 :: hds) cs) : DS P G0 n X (.Try [st] (h0 :: hds) [] [] pos) (dTry K cs tb) := by
  subst hK
  exact ps_weak (ps_tryEach (tb := fun W => rdSW (zOf X P) G0 n W tb) hs hf hN takes0 (fun W pn xe tk po => pss_one (hb W pn xe tk po)) hh.cl) fun D σ H ⟨ρ, G, D0, s, R, h, k⟩ => ⟨ρ, G, D0, _, s, R, h, k, hear_read k s cs⟩
end
abbrev ClsN := Addr × (Addr → Value → Option Addr → DTS)
inductive HdsN (P : Tb) (G0 : Hp) (n : Nat) (X : Cx) : List ExceptHandler → List ClsN → Prop
  | none : HdsN P G0 n X [] []
  | more {x : Str} {c : Addr} {t : Addr → Value → Option Addr → DTS} {st : Stmt} {sts : List Stmt} {np p : Pos} {hs : List ExceptHandler} {cs : List ClsN} (hx : Names X x (.ref c))
      (suite : ∀ (a : Addr) (oe : Obj) (cls : Value) (d : Option Addr) (pn : List (Addr × Obj)), Zc cls d oe → (∃ vs, oe.data = .fields vs) → DSs P G0 n (X.suite a ((a, oe) :: pn)) (st :: sts) (t a cls d)) (rest : HdsN P G0 n X hs cs) :
      HdsN P G0 n X (.ExceptHandler (some (.Name x np)) none (st :: sts) p :: hs) ((c, t) :: cs)
section
variable {P : Tb} {G0 : Hp} {n : Nat} {X : Cx} {st : Stmt} {h0 : ExceptHandler} {hds : List ExceptHandler} {cs : List ClsN} {pos : Pos} {tb : DTSW}
def clsN (K : Zw) (G0 : Hp) (n : Nat) (c : ClsN) : Value × (Addr → Value → Option Addr → TS) := (.ref c.1, fun a cls d => rdS K G0 n (c.2 a cls d))
theorem HdsN.cl : ∀ {hs : List ExceptHandler} {cs : List ClsN}, HdsN P G0 n X hs cs → HdsOk X hs (cs.map (clsN (zOf X P) G0 n))
  | _, _, .none => .nil
  | _, _, .more hx su r => .cons hx su r.cl
end
end Dl
set_option Elab.async false
set_option linter.all false
set_option maxRecDepth 100000
set_option maxHeartbeats 4000000
namespace SoC
open PySem PySem.Spec PyProof.Rows L2 LamX NdefX So
section
variable {X : Cx} {elt tg iter : Expr} {ifs : List Expr} {scope : Scope} {own : List (Str × Nat)} {pos : Pos} {wi : TI} {g : TG} {tt : L2.St → TT} {te : L2.St → TE}
end
end SoC
set_option Elab.async false
set_option linter.all false
set_option maxRecDepth 100000
set_option maxHeartbeats 4000000
namespace Dl
open PySem PySem.Spec PyProof PyProof.Rows L2 So Da SoC LamX NdefX
structure LamUp (P : Addr) (G H G1 H1 : Hp) : Prop where
  sub : Sub G1 H1
  ext : ExtN G G1
  keep : ∀ b o, b ≠ P → H b = some o → H1 b = some o
  keepG : ∀ b o, b ≠ P → G b = some o → G1 b = some o
  new : ∀ b o, G1 b = some o → G b ≠ none ∨ H b = none
  nt : ∀ b o, G1 b = some o → G b = some o ∨ NTo o
def tLamG (P : Addr) (L : List NTab) (mk : Addr → NF) (body : Expr) : TE := fun _ H Q => ∃ G, Sub G H ∧ TabsN L G ∧ ∀ f c G1 H1, LamUp P G H G1 H1 → TabsN L G1 → H f = none → G1 f = some (LmO f (mk c) body) → G1 c = some (CodeO c (mk c).qual) → Q (.ref f) H1
section
variable {X : Cx}
theorem pe_lamG {L : List NTab} {nm : Nat → Nat → Str} {c P : Addr} {params : Arguments} {body : Expr} {scope : Scope} {pos : Pos} (TB : TabB X.base X.mg c P) (hcode : X.env.code = .ref c) (hm : (P, nm) ∈ L) (hn : nm pos.line pos.col = X.env.qual ++ "<lambda>") (hu : ∀ p ∈ L, p.1 = P → p.2 = nm)
    (hfree : ∀ y ∈ scope.names, y.2 = .free → X.env.scope.names.lookup y.1 = some .cell ∨ X.env.scope.names.lookup y.1 = some .free) (hdef : defaultsOf params X.env = ([], [])) : PE X (.Lambda params body scope pos) (tLamG P L (lamF X params scope) body) := by
  refine ⟨fun pins s σ H Q I hw => PySem.W.kla_eval hdef ?_⟩
  obtain ⟨G, sub, hT, k⟩ := hw
  obtain ⟨ps, tG, tps, tc⟩ := (show TabN G P nm from hT _ hm)
  have tP := sub _ _ tG
  have tP' : s.heap.get? P = some { cls := .none, data := .fields ps } := I.hok P _ tP
  have cl : closureFor scope X.env = pure (cloFrom X.env.cells scope.names []) := closure_ok fun y hy e => (hfree y hy e).elim (fun z => I.ok.has _ (.inl z)) fun z => I.ok.has _ (.inr z)
  have gn : ∀ {b}, H b = none → G b = none := fun {b} n => by
    cases e : G b with
    | none => rfl
    | some o => rw [sub b o e] at n; cases n
  have fin : ∀ {c' : Addr} {pm ctv : Value} {G1 H1 : Hp} {h' : Heap} {t1 t2 : Nat}, Inv X pins σ H1 { s with heap := h', toks := t1 } → s.heap.objs.size ≤ h'.objs.size → LamUp P G H G1 H1 → TabsN L G1 → G1 c' = some (CodeO c' (X.env.qual ++ "<lambda>")) →
      EP X pins σ Q (.ref h'.objs.size) { s with heap := h'.push (PySem.W.kla_obj "<lambda>" (X.env.qual ++ "<lambda>") params body scope (cloFrom X.env.cells scope.names []) pm c' ctv), toks := t2 } := by
    intro c' pm ctv G1 H1 h' t1 t2 J hs up hTs hc
    have f0 : H1 h'.objs.size = none := J.hok.fresh (Nat.le_refl _)
    have fH : H h'.objs.size = none := I.hok.fresh hs
    have g0 : G1 h'.objs.size = none := by
      cases e : G1 h'.objs.size with
      | none => rfl
      | some o => rw [up.sub _ _ e] at f0; cases f0
    have sm : ∀ b o, H1 b = some o → upd H1 h'.objs.size (LmO h'.objs.size (lamF X params scope c') body) b = some o := fun b o e => by
      rw [upd_ne (ne_of_none e f0)]
      exact e
    have smG : ∀ b o, G1 b = some o → upd G1 h'.objs.size (LmO h'.objs.size (lamF X params scope c') body) b = some o := fun b o e => by
      rw [upd_ne (ne_of_none e g0)]
      exact e
    refine ⟨.ref h'.objs.size, _, lay_lam (F := lamF X params scope c') (body := body) (pm := pm) (ctv := ctv) (t2 := t2) J, rfl, k _ c' (upd G1 h'.objs.size (LmO h'.objs.size (lamF X params scope c') body)) _ ⟨fun b o e => ?_, fun b o e n => smG b o (up.ext b o e n), fun b o n e => sm b o (up.keep b o n e), fun b o n e => smG b o (up.keepG b o n e), fun b o e => ?_, fun b o e => ?_⟩ (hTs.ext smG) fH upd_same (smG _ _ hc)⟩
    · by_cases z : b = h'.objs.size
      · rw [z, upd_same] at e ⊢
        exact e
      · rw [upd_ne z] at e ⊢
        exact up.sub b o e
    · by_cases z : b = h'.objs.size
      · rw [z]
        exact .inr fH
      · rw [upd_ne z] at e
        exact up.new b o e
    · by_cases z : b = h'.objs.size
      · rw [z, upd_same] at e
        cases e
        exact .inr trivial
      · rw [upd_ne z] at e
        exact up.nt b o e
  cases hc : codeAmong pos ps.toList with
  | some cv =>
    obtain ⟨c', rfl, hco⟩ := tc pos cv hc
    rw [hn] at hco
    refine PySem.W.kla_makeFunctionHit (mg := X.mg) (c := c) (P := P) (ps := ps) cl I.ok.glob (I.mod.glob.keeps I.bk) hcode (TB.code.keeps I.bk) tP' tps hc (TB.bm.keeps I.bk) fun ctv h' tk kp hs => ?_
    exact fin (t1 := tk) (I.kept kp) hs ⟨sub, ExtN.refl G, fun _ _ _ e => e, fun _ _ _ e => e, fun b o e => .inl (by rw [e]; exact fun z => nomatch z), fun b o e => .inl e⟩ hT hco
  | none =>
    refine PySem.W.kla_makeFunction (mg := X.mg) (c := c) (P := P) (ps := ps) cl I.ok.glob (I.mod.glob.keeps I.bk) hcode (TB.code.keeps I.bk) tP' tps hc TB.gP (TB.bm.keeps I.bk) fun c' ctv h' tk kp hge hlt hrec htb => ?_
    obtain ⟨c2, oc, vs, t, e2, hoc, hd, hv⟩ := hrec
    cases e2
    have nC : H c' = none := I.hok.fresh hge
    have nCG : G c' = none := gn nC
    have nPC : P ≠ c' := ne_of_none tP nC
    have J := inv_table (t' := tk) (more := #[rawInt pos.line, rawInt pos.col, .ref c']) (h' := h') I tP (fun b o hb e => kp b o hb e) htb hge ⟨oc, vs, t, hoc, hd, hv⟩
    have keepO : ∀ (H : Hp), H c' = none → ∀ b o, b ≠ P → H b = some o → upd (upd H P (.tbl (ps ++ #[rawInt pos.line, rawInt pos.col, .ref c']))) c' (CodeO c' (X.env.qual ++ "<lambda>")) b = some o := fun H nC b o hb e => by
      rw [upd_ne (ne_of_none e nC), upd_ne hb]
      exact e
    have codeK : ∀ d q, G d = some (CodeO d q) → upd (upd G P (.tbl (ps ++ #[rawInt pos.line, rawInt pos.col, .ref c']))) c' (CodeO c' (X.env.qual ++ "<lambda>")) d = some (CodeO d q) := fun d q e =>
      keepO G nCG d _ (fun z => by
        rw [z, tG] at e
        exact codeO_ne ps (Option.some.inj e).symm) e
    refine fin (G1 := upd (upd G P (.tbl (ps ++ #[rawInt pos.line, rawInt pos.col, .ref c']))) c' (CodeO c' (X.env.qual ++ "<lambda>"))) (t1 := tk) J (Nat.le_trans hge (Nat.le_of_lt hlt)) ⟨fun b o e => ?_, fun b o e n => keepO G nCG b o (fun z => by
      rw [z, tG] at e
      exact n ps (Option.some.inj e).symm) e, keepO H nC, keepO G nCG, fun b o e => ?_, fun b o e => ?_⟩ (fun p hp => ?_) upd_same
    · by_cases z : b = c'
      · rw [z, upd_same] at e ⊢
        exact e
      · rw [upd_ne z] at e ⊢
        by_cases z2 : b = P
        · rw [z2, upd_same] at e ⊢
          exact e
        · rw [upd_ne z2] at e ⊢
          exact sub b o e
    · by_cases z : b = c'
      · rw [z]
        exact .inr nC
      · rw [upd_ne z] at e
        by_cases z2 : b = P
        · rw [z2, tG]
          exact .inl fun z => nomatch z
        · rw [upd_ne z2] at e
          exact .inl (by rw [e]; exact fun z => nomatch z)
    · by_cases z : b = c'
      · rw [z, upd_same] at e
        cases e
        exact .inr trivial
      · rw [upd_ne z] at e
        by_cases z2 : b = P
        · rw [z2, upd_same] at e
          cases e
          exact .inr trivial
        · rw [upd_ne z2] at e
          exact .inl e
    · by_cases hb : p.1 = P
      · rw [hu p hp hb, hb]
        refine ⟨ps ++ #[rawInt pos.line, rawInt pos.col, .ref c'], by rw [upd_ne nPC, upd_same], by rw [Array.toList_append]; exact PySem.TriplesOk_snoc _ _ _ _ tps, fun p' cv hcv => ?_⟩
        rw [Array.toList_append] at hcv
        rcases among_app2 _ tps hcv with z | ⟨z, z1, z2⟩
        · obtain ⟨d, e1, e3⟩ := tc p' cv z
          exact ⟨d, e1, codeK d _ e3⟩
        · refine ⟨c', z, ?_⟩
          rw [← z1, ← z2, hn]
          exact upd_same
      · obtain ⟨qs, a1, a2, a3⟩ := hT p hp
        refine ⟨qs, keepO G nCG _ _ hb a1, a2, fun p' cv hcv => ?_⟩
        obtain ⟨d, e1, e3⟩ := a3 p' cv hcv
        exact ⟨d, e1, codeK d _ e3⟩
end
section
variable {K : Zw} {F : List (Addr × HO)} {G G' H H' : Hp} {ρ : Sto} {σ : L2.St} {P : Addr}
/-- what is known of all but objects of one's own has grown; these stay -/
theorem Rep.pastC (R : Rep K F G ρ σ H) (s : Ex K.T G G') (sub : Sub G' H') (nt : NT G') (keep : ∀ b, (Owns ρ b ∨ ∃ o, (b, o) ∈ F) → H' b = H b ∧ G' b = none) : Rep K F G' ρ σ H' := by
  refine ⟨R.len, fun {i D} e => ?_, fun {i a c} e => ?_, fun {i a C d D} e => ?_, fun {i O} e => ?_, R.uniq, fun {a o} m => ?_, sub, nt⟩
  · obtain ⟨v, h1, h2⟩ := R.sh e
    exact ⟨v, h1, h2.mono s⟩
  · obtain ⟨h1, h2, o, h3, h4⟩ := R.ob e
    obtain ⟨k1, k2⟩ := keep a (.inl ⟨i, c, e⟩)
    exact ⟨h1, k2, o, by rw [k1]; exact h3, h4.mono s⟩
  · obtain ⟨h1, v, h2, h3⟩ := R.exc e
    exact ⟨h1, v, s.1 _ _ h2 (fun _ z => nomatch z), h3.mono s⟩
  · obtain ⟨f, h1, h2⟩ := R.ask e
    exact ⟨f, h1, h2.mono s⟩
  · obtain ⟨h1, h2, h3, h4⟩ := R.ex m
    obtain ⟨k1, k2⟩ := keep a (.inr ⟨o, m⟩)
    exact ⟨by rw [k1]; exact h1, k2, h3, h4⟩
theorem LamUp.ex {T : Tb} {G H G1 H1 : Hp} (u : LamUp P G H G1 H1) (t : Tg G T) (hP : P ≠ T.P) (tn : TabsN T.L G1) : Ex T G G1 := ⟨u.ext, by
  obtain ⟨⟨ps, h1, h2⟩, _⟩ := t
  exact ⟨ps, u.keepG _ _ (Ne.symm hP) h1, h2⟩, tn⟩
theorem LamUp.rep {G1 H1 : Hp} (u : LamUp P G H G1 H1) (t : Tg G K.T) (hm : ∃ nm, (P, nm) ∈ K.T.L) (hP : P ≠ K.T.P) (tn : TabsN K.T.L G1) (R : Rep K F G ρ σ H) : Rep K F G1 ρ σ H1 := by
  obtain ⟨nm, hm⟩ := hm
  obtain ⟨ps, tG, _⟩ := (show TabN G P nm from t.2 _ hm)
  have go : ∀ {b o}, H b = some o → G b = none → H1 b = H b ∧ G1 b = none := fun {b o} e g => by
    have nP : b ≠ P := fun z => by rw [z, tG] at g; cases g
    refine ⟨by rw [e, u.keep b o nP e], ?_⟩
    cases q : G1 b with
    | none => rfl
    | some x =>
      rcases u.new b x q with z | z
      · exact absurd g z
      · rw [e] at z; cases z
  refine R.pastC (u.ex t hP tn) u.sub (fun b o e => (u.nt b o e).elim (R.nt b o) id) fun b w => ?_
  rcases w with ⟨i, c, e⟩ | ⟨o, m⟩
  · obtain ⟨_, h2, o, h3, _⟩ := R.ob e
    exact go h3 h2
  · obtain ⟨h1, h2, _⟩ := R.ex m
    exact go h1 h2
end
section
variable {Z : Zw} {T : Tb} {G G' H H' : Hp} {as : List Addr} {v : V} {D : PyData}
theorem dels_out {b : Addr} (h : b ∉ as) : dels as G b = G b := if_neg h
theorem cell_nt {ob : Obj} (ps : Array Value) : CellF ob ≠ .tbl ps := fun z => nomatch z
/-- cells stand at as -/
def CellsP (G : Hp) (as : List Addr) : Prop := ∀ a ∈ as, ∃ ob, G a = some (CellF ob)
theorem CellsP.ext (h : CellsP G as) (x : ExtN G G') : CellsP G' as := fun a m => by
  obtain ⟨ob, e⟩ := h a m
  exact ⟨ob, x a _ e cell_nt⟩
theorem CellsP.keep {b : Addr} {o : HO} (h : CellsP G as) (e : G b = some o) (n : ∀ ob, o ≠ CellF ob) : dels as G b = some o := by
  rw [dels_out fun m => ?_]
  · exact e
  · obtain ⟨ob, e2⟩ := h b m
    rw [e] at e2
    exact n ob (Option.some.inj e2)
theorem Tg.dels (t : Tg G T) (h : CellsP G as) : Tg (dels as G) T := by
  obtain ⟨⟨ps, h1, h2⟩, t2⟩ := t
  refine ⟨⟨ps, h.keep h1 (fun ob z => nomatch z), h2⟩, fun p hp => ?_⟩
  obtain ⟨qs, a, b, c⟩ := t2 p hp
  refine ⟨qs, h.keep a (fun ob z => nomatch z), b, fun pos cv hc => ?_⟩
  obtain ⟨d, e1, e2⟩ := c pos cv hc
  exact ⟨d, e1, h.keep e2 (fun ob z => nomatch z)⟩
mutual
/-- where no functions are data: cells may be taken away -/
theorem Dw.but (hst : ∀ s, Z.T.st s = none) : ∀ {G G' : Hp} {v : V} {D : PyData}, (∀ b o, G b = some o → (∀ ob, o ≠ CellF ob) → G' b = some o) → Dw Z G v D → Dw Z G' v D
  | _, _, _, _, _, .non => .non
  | _, _, _, _, _, .bl b => .bl b
  | _, _, _, _, _, .int b => .int b
  | _, _, _, _, _, .str b => .str b
  | _, _, _, _, x, .lst a b => .lst (a.imp (fun q => q.imp (fun q => x _ _ q fun _ z => nomatch z) fun ⟨o, q⟩ => ⟨o, x _ _ q fun _ z => nomatch z⟩) _root_.id) (DwAll.but hst x b)
  | _, _, _, _, x, .tup a b => .tup (a.imp (fun q => q.imp (fun q => x _ _ q fun _ z => nomatch z) fun ⟨o, q⟩ => ⟨o, x _ _ q fun _ z => nomatch z⟩) _root_.id) (DwAll.but hst x b)
  | _, _, _, _, x, .dic a b => .dic (x _ _ a (fun _ z => nomatch z)) (DwKV.but hst x b)
  | _, _, _, _, x, .clo a b => by
    obtain ⟨sc, cl, c, h, _⟩ := a.ex
    rw [hst] at h
    cases h
theorem DwAll.but (hst : ∀ s, Z.T.st s = none) : ∀ {G G' : Hp} {vs : List V} {Ds : List PyData}, (∀ b o, G b = some o → (∀ ob, o ≠ CellF ob) → G' b = some o) → DwAll Z G vs Ds → DwAll Z G' vs Ds
  | _, _, _, _, _, .nil => .nil
  | _, _, _, _, x, .cons a b => .cons (Dw.but hst x a) (DwAll.but hst x b)
theorem DwKV.but (hst : ∀ s, Z.T.st s = none) : ∀ {G G' : Hp} {es : List DictEntry} {kvs : List (PyData × PyData)}, (∀ b o, G b = some o → (∀ ob, o ≠ CellF ob) → G' b = some o) → DwKV Z G es kvs → DwKV Z G' es kvs
  | _, _, _, _, _, .nil => .nil
  | _, _, _, _, x, .cons r1 r2 h a b n c => .cons r1 r2 h (Dw.but hst x a) (Dw.but hst x b) n (DwKV.but hst x c)
end
end
/-- what is told of a lambda by its words alone: its names N, its parameters, what it captured fr from the slots js, its reading -/
structure LamIs (P : Tb) (X : Cx) (k : Nat) (N ps fr : List Str) (js : List Nat) (t : EK → DTE) (params : Arguments) (body : Expr) (scope : Scope) : Prop where
  S : NScope N ps fr scope
  free : ∀ y ∈ scope.names, y.2 = .free → X.env.scope.names.lookup y.1 = some .cell
  sup : ∀ y, y ∈ fr → (y, NameKind.free) ∈ scope.names
  at_ : js.map (fun j => X.N[j]?) = fr.map some
  hb : ∀ (q : Str) (cl : List (Str × Addr)) (pm cv ctv : Value) (us : List Value), us.length = ps.length → bindArgs (PySem.W.kla_fn "<lambda>" q params body scope cl pm cv ctv) ⟨us, []⟩ = pure (ps.zip us)
  body : ∀ (c f : Addr) (A : Around) (outer : List Env) (s1 : Shared) (H1 : Hp) (E : XK) (G0 : Hp) (er : EK), ErrL (zOf X P) G0 E er → Room k (A.deeper (envF (lamF X params scope c) f s1.heap.objs.size)) → (A.deeper (envF (lamF X params scope c) f s1.heap.objs.size)).guards = some [] →
    DE P G0 0 (ncx (L2.CX X.prog X.w) X.prog X.w X.K X.mg X.base N (lamF X params scope c) f A outer s1 H1 E) body (t er)
def cpLc : Cp → Lc
  | .dat D => .sh D
  | .fn k W => .ask (.fn k W)
  | .bx => .ask .bx
def lamSto (N : List Str) (Ds : List PyData) (cs : List Cp) : Sto := Ds.map .sh ++ (cs.map cpLc ++ List.replicate (N.length - Ds.length - cs.length) .un)
/-- what a lambda comes to -/
def lamW (N : List Str) (m : Nat) (t : EK → DTE) : LW2 := fun cs Ds R => Ds.length = m ∧ t (fun er => R (.err er.1 er.2)) (lamSto N Ds cs) (fun D _ => R (.told D))
theorem dwAll_len {Z : Zw} : ∀ {G : Hp} {vs : List V} {Ds : List PyData}, DwAll Z G vs Ds → vs.length = Ds.length
  | _, _, _, .nil => rfl
  | _, _, _, .cons _ b => congrArg Nat.succ (dwAll_len b)
theorem dwAll_at {Z : Zw} : ∀ {G : Hp} {vs : List V} {Ds : List PyData} {i : Nat} {D : PyData}, DwAll Z G vs Ds → Ds[i]? = some D → ∃ v, vs[i]? = some v ∧ Dw Z G v D
  | _, _, _, _, _, .nil, e => by simp at e
  | _, _, _, 0, _, .cons a _, e => by cases e; exact ⟨_, rfl, a⟩
  | _, _, _, i + 1, _, .cons _ b, e => by
    obtain ⟨v, h1, h2⟩ := dwAll_at (i := i) b (by simpa using e)
    exact ⟨v, by simpa using h1, h2⟩
theorem paired_len {α β : Type} {p : α → β → Prop} : ∀ {l : List α} {m : List β}, Paired p l m → l.length = m.length
  | _, _, .nil => rfl
  | _, _, .cons _ b => congrArg Nat.succ (paired_len b)
theorem paired_get {α β : Type} {p : α → β → Prop} : ∀ {l : List α} {m : List β} {i : Nat} {b : β}, Paired p l m → m[i]? = some b → ∃ a, l[i]? = some a ∧ p a b
  | _, _, _, _, .nil, e => by simp at e
  | _, _, 0, _, .cons h _, e => by cases e; exact ⟨_, rfl, h⟩
  | _, _, i + 1, _, .cons _ t, e => by
    obtain ⟨a, h1, h2⟩ := paired_get (i := i) t (by simpa using e)
    exact ⟨a, by simpa using h1, h2⟩
theorem cellsU_len {K : Zw} {G : Hp} {h : Heap} {H : Hp} : ∀ {as : List Addr} {cs : List Cp}, CellsU K G h H as cs → as.length = cs.length
  | [], [], _ => rfl
  | _ :: _, _ :: _, q => congrArg Nat.succ (cellsU_len q.2)
theorem cellsU_at {K : Zw} {G : Hp} {h : Heap} {H : Hp} : ∀ {as : List Addr} {cs : List Cp}, CellsU K G h H as cs → ∃ ws : List V, Paired (CpOk K G) ws cs ∧ ∀ (i : Nat) (a : Addr), as[i]? = some a → H a = none ∧ ∃ v u, ws[i]? = some v ∧ h.IsCell a (some u) ∧ RelV v u
  | [], [], _ => ⟨[], .nil, fun i a e => by simp at e⟩
  | a :: as, c :: cs, ⟨⟨n, v, u, ic, r, cp⟩, q⟩ => by
    obtain ⟨ws, p, k⟩ := cellsU_at q
    refine ⟨v :: ws, .cons cp p, fun i b e => ?_⟩
    cases i with
    | zero =>
      have e : some a = some b := e
      cases e
      exact ⟨n, v, u, rfl, ic, r⟩
    | succ i => simpa using k i b (by simpa using e)
section
variable {P : Tb} {X : Cx} {k : Nat} {N ps fr : List Str} {js : List Nat} {t : EK → DTE} {params : Arguments} {body : Expr} {scope : Scope}
theorem js_at {X : Cx} {fr : List Str} {js : List Nat} (h : js.map (fun j => X.N[j]?) = fr.map some) {i : Nat} {y : Str} (e : fr[i]? = some y) : ∃ j, js[i]? = some j ∧ X.N[j]? = some y := by
  have e2 : (js.map fun j => X.N[j]?)[i]? = some (some y) := by
    rw [h, List.getElem?_map, e] <;> rfl
  rw [List.getElem?_map] at e2
  cases ej : js[i]? with
  | none => rw [ej] at e2; cases e2
  | some j =>
    rw [ej] at e2
    exact ⟨j, rfl, Option.some.inj (show some (X.N[j]?) = some (some y) from e2)⟩
theorem ca_at {X : Cx} {j : Nat} {y : Str} {c : Addr} (h : X.N[j]? = some y) (e : X.env.cells.lookup y = some c) : caOf X j = c := by
  unfold caOf
  rw [h]
  show ((X.env.cells.lookup y).getD 0) = c
  rw [e]
  rfl
theorem lamOk_of (LI : LamIs P X k N ps fr js t params body scope) (ok : X.Ok) {c f : Addr} {G : Hp} (h1 : G f = some (LmO f (lamF X params scope c) body)) (h2 : G c = some (CodeO c (X.env.qual ++ "<lambda>"))) : LamOk (zOf X P) G f (k + 1) (js.map (caOf X)) (lamW N ps.length t) := by
  refine ⟨.inl ⟨_, h1, fun h ⟨pm, ctv, z⟩ => ⟨_, _, _, _, z⟩⟩, fun A outer s H G1 us vs Ds cs R Q E hr hg e0 x sub nt cu r dw w hR => ?_⟩
  have h1 := sub _ _ (x.1 _ _ h1 (fun ps z => nomatch z))
  have h2 := sub _ _ (x.1 _ _ h2 (fun ps z => nomatch z))
  have cp : Caps X (cloFrom X.env.cells scope.names []) fr js := Caps.made ok (fun y hy e => .inl (LI.free y hy e)) LI.sup LI.at_
  obtain ⟨ws, pc, cw⟩ := cellsU_at cu
  have lj : js.length = fr.length := by
    have q := congrArg List.length LI.at_
    rwa [List.length_map, List.length_map] at q
  have lc : ws.length = cs.length := paired_len pc
  have lcs : cs.length = fr.length := by rw [← cellsU_len cu, List.length_map, lj]
  have C : CellsAt (lamF X params scope c).cl fr (ws.map some) s.heap H := by
    have one : ∀ (i : Nat) (y : Str), fr[i]? = some y → ∃ a v u, (cloFrom X.env.cells scope.names []).lookup y = some a ∧ H a = none ∧ ws[i]? = some v ∧ s.heap.IsCell a (some u) ∧ RelV v u := fun i y e => by
      obtain ⟨j, hj, hy⟩ := js_at LI.at_ e
      have ky : X.env.scope.names.lookup y = some .cell := LI.free (y, .free) (LI.sup y (List.mem_of_getElem? e)) rfl
      obtain ⟨a, ha⟩ := ok.has y (.inl ky)
      obtain ⟨n, v, u, g1, g2, g3⟩ := cw i a (by rw [List.getElem?_map, hj]; exact congrArg some (ca_at hy ha))
      exact ⟨a, v, u, cp.sup y (List.mem_of_getElem? e) a ha, n, g1, g2, g3⟩
    refine ⟨by rw [List.length_map]; omega, fun y a e => ?_, fun x y a e1 e2 => ok.inj x y a (cp.sub x a e1) (cp.sub y a e2), fun i y e => ?_⟩
    · have m : y ∈ fr := by
        rcases cloFrom_mem (PySem.mem_of_lookup e) with hm | ⟨h1, _⟩
        · cases hm
        · exact LI.S.free _ h1 rfl
      obtain ⟨i, hi⟩ := List.mem_iff_getElem?.mp m
      obtain ⟨a', v, u, g1, g2, g3, g4, g5⟩ := one i y hi
      have e' : (cloFrom X.env.cells scope.names []).lookup y = some a := e
      rw [g1] at e'
      cases e'
      exact ⟨g2, _, g4⟩
    · obtain ⟨a', v, u, g1, g2, g3, g4, g5⟩ := one i y e
      refine ⟨a', g1, fun v' ev => ?_⟩
      rw [List.getElem?_map, g3] at ev
      cases ev
      exact ⟨u, g5, g4⟩
  have hE : ErrL (zOf X P) G1 E (fun er => R (.err er.1 er.2)) := fun C2 D d v G' H' q s2 sb n2 xd dv => hR _ q d v G' H' s2 sb n2 xd dv
  obtain ⟨lm, w⟩ := w
  have ld := dwAll_len dw
  have lu : us.length = ps.length := by rw [← r.length, ld, lm]
  have lim : s.heap.NoLimit := e0.mod.nolimit.keeps fun b o e => (e0.bs b o e).1
  obtain ⟨⟨pm, ctv, ho⟩, _, _⟩ := e0.hok f _ h1
  obtain ⟨⟨oc, wv, tk, c1, c2, c3⟩, _, _⟩ := e0.hok c _ h2
  refine PySem.W.kla_callFunE hr.depth ho rfl LI.S.co LI.S.gen rfl ⟨c, oc, wv, tk, rfl, c1, c2, c3⟩ ?_
  rw [LI.hb _ _ pm _ ctv us lu]
  refine wpAny_pure (wpAny_newFunctionEnv LI.S.nocell (fun y hy => LI.S.par y.1 (List.of_mem_zip hy).1) (fun h1 hns hsb => ⟨lim.fresh _ hsb, ?_⟩) LI.S.kind)
  have kp : ∀ b o, s.heap.get? b = some o → h1.get? b = some o := fun b o e => hsb.extBut b o (Nat.ne_of_lt (Heap.lt_size e)) (Heap.get?_push_of_some _ e)
  have I := inv_startN (CX := L2.CX X.prog X.w) (E := E) (f := f) (tk := s.toks + (ps.zip us).length) LI.S hr.hd e0 (ld.trans lm) r C hns kp
  have pe := LI.body c f A outer s H E G1 _ hE (hr.deeper _) hg
  have at_ : ∀ {i : Nat} {lc : Lc}, (lamSto N Ds cs)[i]? = some lc → lc ≠ .un → (∃ D, lc = .sh D ∧ Ds[i]? = some D) ∨ (∃ c, lc = cpLc c ∧ Ds.length ≤ i ∧ cs[i - Ds.length]? = some c) := fun {i lc} e n => by
    unfold lamSto at e
    rw [← List.append_assoc] at e
    have e2 := un_of e n
    by_cases z : i < Ds.length
    · rw [List.getElem?_append_left (by rw [List.length_map]; exact z), List.getElem?_map] at e2
      cases e3 : Ds[i]? with
      | none => rw [e3] at e2; cases e2
      | some D => rw [e3] at e2; exact .inl ⟨D, (Option.some.inj e2).symm, rfl⟩
    · rw [List.getElem?_append_right (by rw [List.length_map]; omega), List.length_map, List.getElem?_map] at e2
      cases e3 : cs[i - Ds.length]? with
      | none => rw [e3] at e2; cases e2
      | some D => rw [e3] at e2; exact .inr ⟨D, (Option.some.inj e2).symm, by omega, rfl⟩
  have sl : ∀ {i : Nat} {v : V}, vs[i]? = some v → (startF N vs (ws.map some))[i]? = some (some v) := fun {i v} e => by
    unfold startF
    rw [List.getElem?_append_left (by rw [List.length_map]; exact (List.getElem?_eq_some_iff.mp e).1), List.getElem?_map, e]
    rfl
  have sr : ∀ {i : Nat} {v : V}, Ds.length ≤ i → ws[i - Ds.length]? = some v → (startF N vs (ws.map some))[i]? = some (some v) := fun {i v} l e => by
    have lt := (List.getElem?_eq_some_iff.mp e).1
    have e1 : (vs.map some).length = Ds.length := by rw [List.length_map, ld]
    unfold startF
    rw [List.getElem?_append_right (by rw [e1]; exact l), e1, List.getElem?_append_left (by rw [List.length_map]; exact lt), List.getElem?_map, e]
    rfl
  refine PySem.W.kla_codeExpr (wpAny_mono (pe.run [] _ _ H Q I ⟨[], lamSto N Ds cs, G1, _, Ex.refl x.2, ⟨?_, fun {i D} e => ?_, fun {i a c} e => ?_, fun {i a C d D} e => ?_, fun {i O} e => ?_, fun {i j a c c'} e => ?_, fun m => absurd m List.not_mem_nil, sub, nt⟩, w, fun D ρ' v G' H' q2 s2 al R d => hR _ q2 v G' H' s2 R.sub R.nt d⟩) (fun v s' h => ?_) fun e s' h => h)
  · unfold startF lamSto
    rw [List.length_append, List.length_append, List.length_append, List.length_append, List.length_map, List.length_map, List.length_map, List.length_map, List.length_replicate, List.length_replicate]
    omega
  · rcases at_ e (fun z => nomatch z) with ⟨D', z, e2⟩ | ⟨c', z, l, e2⟩
    · cases z
      obtain ⟨v, h3, h4⟩ := dwAll_at dw e2
      exact ⟨v, sl h3, h4⟩
    · cases c' with
      | fn _ _ => cases z
      | bx => cases z
      | dat D' =>
        cases z
        obtain ⟨v, h3, h4⟩ := paired_get pc e2
        exact ⟨v, sr l h3, h4⟩
  · rcases at_ e (fun z => nomatch z) with ⟨D', z, e2⟩ | ⟨c', z, l, e2⟩
    · cases z
    · cases c' <;> cases z
  · rcases at_ e (fun z => nomatch z) with ⟨D', z, e2⟩ | ⟨c', z, l, e2⟩
    · cases z
    · cases c' <;> cases z
  · rcases at_ e (fun z => nomatch z) with ⟨D', z, e2⟩ | ⟨c', z, l, e2⟩
    · cases z
    · cases c' with
      | dat _ => cases z
      | fn k2 W2 =>
        cases z
        obtain ⟨v, h3, f2, rfl, h4⟩ := paired_get pc e2
        exact ⟨f2, sr l h3, h4⟩
      | bx =>
        cases z
        obtain ⟨v, h3, f2, rfl, h4⟩ := paired_get pc e2
        exact ⟨f2, sr l h3, h4⟩
  · rcases at_ e (fun z => nomatch z) with ⟨D', z, e2⟩ | ⟨c', z, l, e2⟩
    · cases z
    · cases c' <;> cases z
  obtain ⟨v', H', J, rv, q⟩ := h
  exact ⟨v', H', J.os, J.bare, J.base, J.hok, rv, q⟩
end
end Dl
set_option Elab.async false
set_option linter.all false
set_option maxRecDepth 100000
set_option maxHeartbeats 4000000
namespace Dl
open PySem PySem.Spec PyProof PyProof.Rows L2 So Da SoC LamX NdefX
/-- cells that are known hold this -/
def CellsK (G : Hp) (as : List Addr) (vs : List V) : Prop := as.length = vs.length ∧ ∀ (i : Nat) (a : Addr), as[i]? = some a → ∃ v u ob, vs[i]? = some v ∧ G a = some (CellF ob) ∧ ob.data = .cell (some u) ∧ RelV v u
theorem CellsK.cp {G : Hp} {as : List Addr} {vs : List V} (C : CellsK G as vs) : CellsP G as := fun a m => by
  obtain ⟨i, hi⟩ := List.mem_iff_getElem?.mp m
  obtain ⟨v, u, ob, _, h, _⟩ := C.2 i a hi
  exact ⟨ob, h⟩
theorem cellsU_of {K : Zw} {G : Hp} {h : Heap} {H : Hp} : ∀ {as : List Addr} {vs : List V} {cs : List Cp}, as.length = vs.length → Paired (CpOk K G) vs cs → (∀ (i : Nat) (a : Addr), as[i]? = some a → H a = none ∧ ∃ v u, vs[i]? = some v ∧ h.IsCell a (some u) ∧ RelV v u) → CellsU K G h H as cs
  | [], [], [], _, _, _ => trivial
  | a :: as, v :: vs, c :: cs, l, .cons p q, k => by
    obtain ⟨n, v', u, e1, e2, e3⟩ := k 0 a rfl
    have e1 : some v = some v' := e1
    cases e1
    exact ⟨⟨n, v, u, e2, e3, p⟩, cellsU_of (Nat.succ.inj l) q fun i b e => by simpa using k (i + 1) b (by simpa using e)⟩
  | [], _ :: _, _, l, _, _ => nomatch l
  | _ :: _, [], _, l, _, _ => nomatch l
  | [], [], _ :: _, _, q, _ => nomatch q
  | _ :: _, _ :: _, [], _, q, _ => nomatch q
section
variable {Z : Zw}
/-- a function whose cells are known stands for good -/
theorem askOk_of {f : Addr} {k : Nat} {G Gc : Hp} {as : List Addr} {vs : List V} {cs : List Cp} {W : LW2} (L : LamOk Z G f k as W) (x : Ex Z.T G Gc) (C : CellsK Gc as vs) (nG : ∀ a ∈ as, G a = none) (cp : Paired (CpOk Z (dels as Gc)) vs cs) (hst : ∀ s, Z.T.st s = none) : AskOk Z Gc f k (W cs) := by
  refine ⟨L.fn.ext x.1, fun A outer s H G1 us ws Ds R Q E hr hg e0 x1 sub nt r dw w hR => ?_⟩
  have cp1 : CellsP G1 as := C.cp.ext x1.1
  have cH : ∀ a ∈ as, ∃ ob, H a = some (CellF ob) := fun a m => by
    obtain ⟨ob, e⟩ := cp1 a m
    exact ⟨ob, sub _ _ e⟩
  have M : Msk (frs outer) as noCo H s.heap := ⟨fun b m => by
    obtain ⟨ob, e⟩ := cH b m
    exact ⟨_, e, lcl_frz lcl_ext⟩, fun b ob e => nomatch e⟩
  have e0' : Env0 Z.Pg Z.w Z.K Z.mg Z.base A outer s (mask as noCo H) := mask_env M (fun b ob e => nomatch e) e0
  have t1 : Tg (dels as G1) Z.T := x1.2.dels cp1
  have exD : Ex Z.T (dels as Gc) (dels as G1) := ⟨dels_ext x1.1, t1⟩
  have exG : Ex Z.T G (dels as G1) := ⟨(fun b o e n => by
    rw [dels_out fun m => ?_]
    · exact x1.1 b o (x.1 b o e n) n
    · rw [nG b m] at e
      exact nomatch e), t1⟩
  have subD : Sub (dels as G1) (mask as noCo H) := fun b o e => by
    unfold dels at e
    split at e
    · cases e
    · rename_i m
      rw [mask_out m rfl]
      exact sub b o e
  have ntD : NT (dels as G1) := fun b o e => by
    unfold dels at e
    split at e
    · cases e
    · exact nt b o e
  have cu : CellsU Z (dels as G1) s.heap (mask as noCo H) as cs := cellsU_of C.1 (paired_imp (fun a b h => CpOk.mono exD h) cp) fun i a e => by
    obtain ⟨v, u, ob, g1, g2, g3, g4⟩ := C.2 i a e
    have e2 := sub _ _ (x1.1 a _ g2 cell_nt)
    exact ⟨mask_in (List.mem_of_getElem? e), v, u, g1, ⟨ob, (e0.hok a _ e2).1, g3⟩, g4⟩
  have nn : ∀ {G' H2 : Hp}, Sub G' H2 → Bck as noCo H2 → ∀ b ∈ as, G' b = none := fun {G' H2} sb bk b m => by
    cases e : G' b with
    | none => rfl
    | some o =>
      have := sb b o e
      rw [bk.gone b m] at this
      cases this
  let back : Hp → Hp := fun G' b => if b ∈ as then G1 b else G' b
  have bin : ∀ {G' : Hp} {b}, b ∈ as → back G' b = G1 b := fun m => if_pos m
  have bout : ∀ {G' : Hp} {b}, b ∉ as → back G' b = G' b := fun m => if_neg m
  have bext : ∀ {G' H2 : Hp}, Sub G' H2 → Bck as noCo H2 → ∀ b o, G' b = some o → back G' b = some o := fun {G' H2} sb bk b o e => by
    rw [bout fun m => ?_]
    · exact e
    · rw [nn sb bk b m] at e
      cases e
  have bEx : ∀ {G' H2 : Hp}, Ex Z.T (dels as G1) G' → Sub G' H2 → Bck as noCo H2 → Ex Z.T G1 (back G') := fun {G' H2} s2 sb bk => ⟨fun b o e n => by
    by_cases m : b ∈ as
    · rw [bin m]
      exact e
    · rw [bout m]
      exact s2.1 b o (by rw [dels_out m]; exact e) n, s2.2.ext (bext sb bk)⟩
  have bSub : ∀ {G' H2 : Hp}, Sub G' H2 → Sub (back G') (unmask as noCo H H2) := fun {G' H2} sb b o e => by
    by_cases m : b ∈ as
    · rw [bin m] at e
      rw [unmask_in m]
      exact sub b o e
    · rw [bout m] at e
      rw [unmask_out m rfl]
      exact sb b o e
  have bNt : ∀ {G' : Hp}, NT G' → NT (back G') := fun {G'} n b o e => by
    by_cases m : b ∈ as
    · rw [bin m] at e
      exact nt b o e
    · rw [bout m] at e
      exact n b o e
  refine codeAny_mono (L.run A outer s (mask as noCo H) (dels as G1) us ws Ds cs R (fun v H2 => Bck as noCo H2 → Q v (unmask as noCo H H2)) (fun cls d H2 => Bck as noCo H2 → E cls d (unmask as noCo H H2)) hr hg e0' exG subD ntD cu r (DwAll.but hst (fun b o e n => cp1.keep e n) dw) w fun o ho => ?_) fun z s' hq => ?_
  · have h := hR o ho
    cases o with
    | told D => exact fun v G' H' s2 sb n2 d bk => h v (back G') _ (bEx s2 sb bk) (bSub sb) (bNt n2) (d.ext (ExtN.of (bext sb bk)))
    | err C2 D => exact fun d v G' H' s2 sb n2 xd dv bk => h d v (back G') _ (bEx s2 sb bk) (bSub sb) (bNt n2) (bext sb bk _ _ xd) (dv.ext (ExtN.of (bext sb bk)))
  · match z, hq with
    | .error e, hq => exact cx_unmask M e0.hok e0.frf hq fun cls d H2 q g => q g
    | .ok (.ret u), ⟨v, H2, os, bare, un, hok, rv, z⟩ =>
      have bk := bck_of M e0.hok un
      exact ⟨v, unmask as noCo H H2, os, bare, unmask_un M e0.hok un hok, unmask_ok M e0.hok bk hok fun c m o g => un.keep c o g (mask_in m) (fun m2 => by
        obtain ⟨o, e, _⟩ := M.hid c m
        rw [e0.frf c m2] at e
        cases e) (fun z => nomatch z), rv, z bk⟩
end
/-- a def that calls what it is given, without arguments, once, and answers by what that comes to -/
def heardT (j : Nat) (TH : Out → (PyData → Prop) → Prop) : TD := fun as Q _ => ∃ k W R, as = [.ask (.fn k W)] ∧ k ≤ j ∧ W [] R ∧ ∀ o, R o → TH o fun D => Q D [.ask (.fn k W)]
def slotsD (ρ : Sto) : List Nat → (List PyData → Prop) → Prop
  | [], k => k []
  | j :: js, k => match ρ[j]? with
    | some (.sh D) => slotsD ρ js fun Ds => k (D :: Ds)
    | _ => False
/-- what the slots js hold, as a lambda sees it; js0: all that it captured, ja: all slots that are cells -/
def capsD (ca : Nat → Addr) (js0 ja : List Nat) (ρ : Sto) : List Nat → (List Cp → Prop) → Prop
  | [], k => k []
  | j :: js, k => match ρ[j]? with
    | some (.sh D) => capsD ca js0 ja ρ js fun cs => k (.dat D :: cs)
    | some (.ask (.fn i W)) => capsD ca js0 ja ρ js fun cs => k (.fn i W :: cs)
    | some (.ask .bx) => capsD ca js0 ja ρ js fun cs => k (.bx :: cs)
    | some (.ask (.lam ca2 js2 W)) => (ca2 = ca ∧ ∀ j ∈ js2, j ∈ ja ∧ j ∉ js0) ∧ slotsD ρ js2 fun Ds => capsD ca js0 ja ρ js fun cs => k (.fn aL (W (Ds.map .dat)) :: cs)
    | _ => False
def dHeard (ca : Nat → Addr) (js ja : List Nat) (W : LW2) (TH : Out → (PyData → Prop) → Prop) : DTE := fun ρ Q => capsD ca js ja ρ js fun cs => W cs [] fun o => TH o fun D => Q D ρ
theorem slotsD_of {K : Zw} {F : List (Addr × HO)} {G H : Hp} {ρ : Sto} {σ : L2.St} (R : Rep K F G ρ σ H) : ∀ {js : List Nat} {k : List PyData → Prop}, slotsD ρ js k → ∃ Ds vs, k Ds ∧ vs.length = js.length ∧ DwAll K G vs Ds ∧ ∀ (i j : Nat), js[i]? = some j → ∃ v, vs[i]? = some v ∧ σ[j]? = some (some v)
  | [], k, h => ⟨[], [], h, rfl, .nil, fun i j e => by simp at e⟩
  | j :: js, k, h => by
    unfold slotsD at h
    split at h
    · rename_i D e
      obtain ⟨Ds, vs, h1, h2, h3, h4⟩ := slotsD_of R h
      obtain ⟨v, e1, e2⟩ := R.sh e
      refine ⟨D :: Ds, v :: vs, h1, congrArg Nat.succ h2, .cons e2 h3, fun i j' e' => ?_⟩
      cases i with
      | zero =>
        have e' : some j = some j' := e'
        cases e'
        exact ⟨v, rfl, e1⟩
      | succ i =>
        obtain ⟨v', g1, g2⟩ := h4 i j' (by simpa using e')
        exact ⟨v', by simpa using g1, g2⟩
    · exact h.elim
theorem nd_at {α : Type} : ∀ {l : List α} {i j : Nat} {x : α}, l.Nodup → l[i]? = some x → l[j]? = some x → i = j
  | [], _, _, _, _, e, _ => by simp at e
  | _ :: _, 0, 0, _, _, _, _ => rfl
  | a :: l, 0, j + 1, x, nd, e, e' => by
    have e : some a = some x := e
    cases e
    have e' : l[j]? = some a := by simpa using e'
    exact absurd (List.mem_of_getElem? e') (List.nodup_cons.mp nd).1
  | a :: l, i + 1, 0, x, nd, e, e' => by
    have e' : some a = some x := e'
    cases e'
    have e : l[i]? = some a := by simpa using e
    exact absurd (List.mem_of_getElem? e) (List.nodup_cons.mp nd).1
  | a :: l, i + 1, j + 1, x, nd, e, e' => congrArg Nat.succ (nd_at (List.nodup_cons.mp nd).2 (by simpa using e) (by simpa using e'))
theorem dat_paired {K : Zw} : ∀ {G : Hp} {vs : List V} {Ds : List PyData}, DwAll K G vs Ds → Paired (CpOk K G) vs (Ds.map .dat)
  | _, _, _, .nil => .nil
  | _, _, _, .cons a b => .cons a (dat_paired b)
section
variable {P : Tb} {X : Cx}
/-- the cells that are shown, among them those of the slots js -/
theorem shown_at {σ : L2.St} {ja : List Nat} {co : Addr → Option Obj} (sh : Shown X σ ja co) {j : Nat} {v : V} (hj : CellJ X ja) (m : j ∈ ja) (e : σ[j]? = some (some v)) : ∃ u ob, co (caOf X j) = some ob ∧ ob.data = .cell (some u) ∧ RelV v u := by
  obtain ⟨y, hy, _, _⟩ := hj j m
  obtain ⟨c, ob, h1, h2, x, h3, h4⟩ := sh.at_ j m y hy
  obtain ⟨u, rfl, r⟩ := h4 v e
  exact ⟨u, ob, by rw [ca_at hy h1]; exact h2, h3, r⟩
theorem cellsK_shown {σ : L2.St} {ja js : List Nat} {co : Addr → Option Obj} {Gc : Hp} {vs : List V} (sh : Shown X σ ja co) (hj : CellJ X ja) (sb : ∀ j ∈ js, j ∈ ja) (lv : vs.length = js.length) (hv : ∀ (i j : Nat), js[i]? = some j → ∃ v, vs[i]? = some v ∧ σ[j]? = some (some v)) (gco : ∀ b ob, co b = some ob → Gc b = some (CellF ob)) : CellsK Gc (js.map (caOf X)) vs := by
  refine ⟨by rw [List.length_map, lv], fun i a e => ?_⟩
  rw [List.getElem?_map] at e
  cases ej : js[i]? with
  | none => rw [ej] at e; cases e
  | some j =>
    rw [ej] at e
    cases e
    obtain ⟨v, h1, h2⟩ := hv i j ej
    obtain ⟨u, ob, h3, h4, h5⟩ := shown_at sh hj (sb j (List.mem_of_getElem? ej)) h2
    exact ⟨v, u, ob, h1, gco _ _ h3, h4, h5⟩
/-- what is captured, as it stands where the cells are known -/
theorem caps_of (ok : X.Ok) (hN : X.N.Nodup) {σ : L2.St} {ja js0 : List Nat} {co : Addr → Option Obj} {F : List (Addr × HO)} {G Gc H : Hp} {ρ : Sto} {ca : Nat → Addr} (hca : ca = caOf X) (R : Rep (zOf X P) F G ρ σ H) (sh : Shown X σ ja co) (hj : CellJ X ja) (hst : ∀ s, P.st s = none) (s0 : ∀ j ∈ js0, j ∈ ja) (gco : ∀ b ob, co b = some ob → Gc b = some (CellF ob)) (nG : ∀ b ob, co b = some ob → G b = none)
    (x : Ex P G (dels (js0.map (caOf X)) Gc)) : ∀ {js : List Nat} {k : List Cp → Prop}, (∀ j ∈ js, j ∈ js0) → capsD ca js0 ja ρ js k → ∃ cs vs, k cs ∧ vs.length = js.length ∧ Paired (CpOk (zOf X P) (dels (js0.map (caOf X)) Gc)) vs cs ∧ ∀ (i j : Nat), js[i]? = some j → ∃ v, vs[i]? = some v ∧ σ[j]? = some (some v)
  | [], k, _, h => ⟨[], [], h, rfl, .nil, fun i j e => by simp at e⟩
  | j :: js, k, sb, h => by
    have go : ∀ {v : V} {c : Cp}, σ[j]? = some (some v) → CpOk (zOf X P) (dels (js0.map (caOf X)) Gc) v c → capsD ca js0 ja ρ js (fun cs => k (c :: cs)) → ∃ cs vs, k cs ∧ vs.length = (j :: js).length ∧ Paired (CpOk (zOf X P) (dels (js0.map (caOf X)) Gc)) vs cs ∧ ∀ (i j' : Nat), (j :: js)[i]? = some j' → ∃ v, vs[i]? = some v ∧ σ[j']? = some (some v) := fun {v c} ev cv q => by
      obtain ⟨cs, vs, h1, h2, h3, h4⟩ := caps_of ok hN hca R sh hj hst s0 gco nG x (fun j m => sb j (List.mem_cons_of_mem _ m)) q
      refine ⟨c :: cs, v :: vs, h1, congrArg Nat.succ h2, .cons cv h3, fun i j' e' => ?_⟩
      cases i with
      | zero =>
        have e' : some j = some j' := e'
        cases e'
        exact ⟨v, rfl, ev⟩
      | succ i =>
        obtain ⟨v', g1, g2⟩ := h4 i j' (by simpa using e')
        exact ⟨v', by simpa using g1, g2⟩
    unfold capsD at h
    split at h
    · rename_i D e
      obtain ⟨v, e1, e2⟩ := R.sh e
      exact go (c := .dat D) e1 (Dw.mono x e2) h
    · rename_i i W e
      obtain ⟨f, e1, e2⟩ := R.ask e
      exact go (c := .fn i W) e1 ⟨f, rfl, AskOk.mono x e2⟩ h
    · rename_i e
      obtain ⟨f, e1, e2⟩ := R.ask e
      exact go (c := .bx) e1 ⟨f, rfl, x.1 _ _ e2 (fun _ z => nomatch z)⟩ h
    · rename_i ca2 js2 W e
      obtain ⟨⟨rfl, hjs⟩, h⟩ := h
      obtain ⟨f, e1, e2⟩ := R.ask e
      obtain ⟨Ds, vs, h1, h2, h3, h4⟩ := slotsD_of R h
      refine go (c := .fn aL (W (Ds.map .dat))) e1 ⟨f, rfl, ?_⟩ h1
      have e2 : LamOk (zOf X P) G f aL (js2.map ca2) W := e2
      subst hca
      have cell : ∀ j ∈ ja, ∀ v, σ[j]? = some (some v) → ∃ u ob, co (caOf X j) = some ob ∧ ob.data = .cell (some u) ∧ RelV v u := fun j m v e => shown_at sh hj m e
      have inj : ∀ j ∈ ja, ∀ j' ∈ ja, caOf X j = caOf X j' → j = j' := fun j m j' m' e => by
        obtain ⟨y, hy, ky, _⟩ := hj j m
        obtain ⟨y', hy', ky', _⟩ := hj j' m'
        obtain ⟨c, hc⟩ := ok.has y (.inl ky)
        obtain ⟨c', hc'⟩ := ok.has y' (.inl ky')
        rw [ca_at hy hc, ca_at hy' hc'] at e
        subst e
        have := ok.inj y y' c hc hc'
        subst this
        exact nd_at hN hy hy'
      have hk : ∀ (i : Nat) (a : Addr), (js2.map (caOf X))[i]? = some a → ∃ j v u ob, js2[i]? = some j ∧ a = caOf X j ∧ vs[i]? = some v ∧ co a = some ob ∧ ob.data = .cell (some u) ∧ RelV v u := fun i a e => by
        rw [List.getElem?_map] at e
        cases ej : js2[i]? with
        | none => rw [ej] at e; cases e
        | some j =>
          rw [ej] at e
          cases e
          obtain ⟨v, g1, g2⟩ := h4 i j ej
          obtain ⟨u, ob, g3, g4, g5⟩ := cell j (hjs j (List.mem_of_getElem? ej)).1 v g2
          exact ⟨j, v, u, ob, rfl, rfl, g1, g3, g4, g5⟩
      have nin : ∀ a ∈ js2.map (caOf X), a ∉ js0.map (caOf X) := fun a m m2 => by
        obtain ⟨j, mj, rfl⟩ := List.mem_map.mp m
        obtain ⟨j', mj', ej⟩ := List.mem_map.mp m2
        have := inj j' (s0 j' mj') j (hjs j mj).1 ej
        subst this
        exact (hjs _ mj).2 mj'
      have CK : CellsK (dels (js0.map (caOf X)) Gc) (js2.map (caOf X)) vs := ⟨by rw [List.length_map, h2], fun i a e => by
        obtain ⟨j, v, u, ob, g1, rfl, g2, g3, g4, g5⟩ := hk i a e
        exact ⟨v, u, ob, g2, by rw [dels_out (nin _ (List.mem_of_getElem? e))]; exact gco _ _ g3, g4, g5⟩⟩
      have gn2 : ∀ a ∈ js2.map (caOf X), G a = none := fun a m => by
        obtain ⟨i, hi⟩ := List.mem_iff_getElem?.mp m
        obtain ⟨j, v, u, ob, g1, rfl, g2, g3, g4, g5⟩ := hk i a hi
        exact nG _ _ g3
      have exx : LamX.ExtN G (dels (js2.map (caOf X)) (dels (js0.map (caOf X)) Gc)) := fun b o e n => by
        rw [dels_out fun m => ?_]
        · exact x.1 b o e n
        · rw [gn2 b m] at e
          cases e
      have dwx : DwAll (zOf X P) (dels (js2.map (caOf X)) (dels (js0.map (caOf X)) Gc)) vs Ds := h3.ext exx
      exact askOk_of e2 x CK gn2 (dat_paired dwx) hst
    · exact h.elim
end
end Dl
set_option Elab.async false
set_option linter.all false
set_option maxRecDepth 100000
set_option maxHeartbeats 4000000
namespace Dl
open PySem PySem.Spec PyProof PyProof.Rows L2 So Da SoC LamX NdefX
section
variable {P : Tb} {G0 : Hp} {n : Nat} {X : Cx} {ja js : List Nat} {TH : Out → (PyData → Prop) → Prop} {k j : Nat} {f : Addr} {fd : FuncData} {ps : List Str} {x y : Str} {p pos lp : Pos}
/-- the ground with cells shown -/
def shG (co : Addr → Option Obj) (G : Hp) : Hp := fun b => match co b with
  | some ob => some (CellF ob)
  | none => G b
theorem shG_co {co : Addr → Option Obj} {G : Hp} {b : Addr} {ob : Obj} (e : co b = some ob) : shG co G b = some (CellF ob) := by unfold shG; rw [e]
theorem shG_no {co : Addr → Option Obj} {G : Hp} {b : Addr} (e : co b = none) : shG co G b = G b := by unfold shG; rw [e]
/-- the call, its function made or found: some cells shown -/
theorem heard_core {σ : L2.St} {F : List (Addr × HO)} {G H : Hp} {ρ : Sto} {fl : Addr} {kl : Nat} {W : LW2} {Q0 : PyData → Sto → Prop} {Q : VK} {co : Addr → Option Obj} (ok : X.Ok) (hN : X.N.Nodup) (hj : CellJ X ja) (hst : ∀ s, P.st s = none) (t : Tg G P) (R : Rep (zOf X P) F G ρ σ H) (L : LamOk (zOf X P) G fl kl (js.map (caOf X)) W)
    (kl_le : kl ≤ j) (s0 : ∀ i ∈ js, i ∈ ja) (h : dHeard (caOf X) js ja W TH ρ Q0) (kk : Kn (zOf X P) F n Q0 ρ G σ Q) (sh : Shown X σ ja co) (cN : ∀ b ob, co b = some ob → H b = none) :
    (∀ b ∈ hidL F ρ (argsOf ρ []), ∃ o, H b = some o ∧ Lcl o) ∧ spT (zOf X P) (heardT j TH) [.ref fl] (mask (hidL F ρ (argsOf ρ [])) co H) (fun v H2 => Bck (hidL F ρ (argsOf ρ [])) co H2 → Q v (unmask (hidL F ρ (argsOf ρ [])) co H H2)) (fun cls d H2 => Bck (hidL F ρ (argsOf ρ [])) co H2 → False) := by
  obtain ⟨Ls, Rc⟩ := R.call (vs := []) (rs := []) trivial List.nodup_nil
  refine ⟨Ls, ?_⟩
  have noG : ∀ b ob, co b = some ob → G b = none := fun b ob e => R.gnone (cN b ob e)
  have gext : ∀ b o, G b = some o → shG co G b = some o := fun b o e => by
    rw [shG_no]
    · exact e
    · cases q : co b with
      | none => rfl
      | some ob => rw [noG _ _ q] at e; cases e
  have sc : Ex P G (shG co G) := Ex.of t gext
  -- all cells that are shown
  have mem : ∀ a, a ∈ ja.map (caOf X) ↔ ∃ ob, co a = some ob := fun a => ⟨fun m => by
    obtain ⟨i, mi, rfl⟩ := List.mem_map.mp m
    obtain ⟨y, hy, _⟩ := hj i mi
    obtain ⟨c, ob, h1, h2, _⟩ := sh.at_ i mi y hy
    exact ⟨ob, by rw [ca_at hy h1]; exact h2⟩, fun ⟨ob, e⟩ => by
    obtain ⟨i, y, mi, hy, hc⟩ := sh.own a ob e
    exact List.mem_map.mpr ⟨i, mi, ca_at hy hc⟩⟩
  have memS : ∀ a, a ∈ js.map (caOf X) → ∃ ob, co a = some ob := fun a m => (mem a).mp (by
    obtain ⟨i, mi, e⟩ := List.mem_map.mp m
    exact List.mem_map.mpr ⟨i, s0 i mi, e⟩)
  have cpA : CellsP (shG co G) (ja.map (caOf X)) := fun a m => by
    obtain ⟨ob, q⟩ := (mem a).mp m
    exact ⟨ob, shG_co q⟩
  have cpS : CellsP (shG co G) (js.map (caOf X)) := fun a m => by
    obtain ⟨ob, q⟩ := memS a m
    exact ⟨ob, shG_co q⟩
  have xS : Ex P G (dels (js.map (caOf X)) (shG co G)) := ⟨(fun b o e n => by
    rw [dels_out fun m => ?_]
    · exact gext b o e
    · obtain ⟨ob, q⟩ := memS b m
      rw [noG _ _ q] at e
      cases e), sc.2.dels cpS⟩
  obtain ⟨cs, vs, hw, lv, pc, hv⟩ := caps_of ok hN rfl R sh hj hst s0 (fun b ob e => shG_co (G := G) e) noG xS (fun i m => m) h
  have CK := cellsK_shown (Gc := shG co G) sh hj s0 lv hv fun b ob e => shG_co e
  have A : AskOk (zOf X P) (shG co G) fl kl (W cs) := askOk_of L sc CK (fun a m => by
    obtain ⟨ob, q⟩ := memS a m
    exact noG _ _ q) pc hst
  have nhid : ∀ {b o}, G b = some o → b ∉ hidL F ρ (argsOf ρ []) := fun {b o} e m => by
    rcases mem_hidL.mp m with ⟨⟨i, c, z⟩, _⟩ | ⟨o, m⟩
    · rw [(R.ob z).2.1] at e
      cases e
    · rw [(R.ex m).2.1] at e
      cases e
  have M0 : ∀ {b ob}, co b = some ob → b ∉ hidL F ρ (argsOf ρ []) := fun {b ob} e m => by
    obtain ⟨o, q, _⟩ := Ls b m
    rw [cN b ob e] at q
    cases q
  have subc : Sub (shG co G) (mask (hidL F ρ (argsOf ρ [])) co H) := fun b o e => by
    cases q : co b with
    | some ob =>
      rw [shG_co q] at e
      rw [mask_co (M0 q) q]
      exact e
    | none =>
      rw [shG_no q] at e
      rw [mask_out (nhid e) q]
      exact R.sub b o e
  have ntc : NT (shG co G) := fun b o e => by
    cases q : co b with
    | some ob =>
      rw [shG_co q] at e
      cases e
      exact trivial
    | none =>
      rw [shG_no q] at e
      exact R.nt b o e
  refine ⟨shG co G, [.ask (.fn kl (W cs))], fun D _ => Q0 D ρ, fun _ => False, sc.2, ⟨rfl, fun {i D} e => ?_, fun {i a c} e => ?_, fun {i a C d D} e => ?_, fun {i O} e => ?_, fun {i j a c c'} e => ?_, fun m => absurd m List.not_mem_nil, subc, ntc⟩, ⟨kl, W cs, _, rfl, kl_le, hw, fun o ho => ho⟩, fun D as' v G2 H2 q2 sm s2 R2 d bk => ?_, fun _ _ _ _ _ _ z => z.elim⟩
  · rcases i with _ | i <;> simp at e
  · rcases i with _ | i <;> simp at e
  · rcases i with _ | i <;> simp at e
  · rcases i with _ | i
    · have e : some (Lc.ask (.fn kl (W cs))) = some (Lc.ask O) := e
      cases e
      exact ⟨fl, rfl, A⟩
    · simp at e
  · rcases i with _ | i <;> simp at e
  · have cp2 : CellsP G2 (ja.map (caOf X)) := cpA.ext s2.1
    have g2n : ∀ {b}, b ∈ hidL F ρ (argsOf ρ []) → G2 b = none := fun {b} m => by
      cases e : G2 b with
      | none => rfl
      | some o =>
        have := R2.sub b o e
        rw [bk.gone b m] at this
        cases this
    have keepD : ∀ b o, G2 b = some o → (∀ ob, o ≠ CellF ob) → dels (ja.map (caOf X)) G2 b = some o := fun b o e n => cp2.keep e n
    have s3 : Ex P G (dels (ja.map (caOf X)) G2) := ⟨(fun b o e n => by
      have e2 := s2.1 b o (gext b o e) n
      rw [dels_out fun m => ?_]
      · exact e2
      · obtain ⟨ob, q⟩ := (mem b).mp m
        rw [noG _ _ q] at e
        cases e), s2.2.dels cp2⟩
    have sub3 : Sub (dels (ja.map (caOf X)) G2) (unmask (hidL F ρ (argsOf ρ [])) co H H2) := fun b o e => by
      unfold dels at e
      split at e
      · cases e
      · rename_i m
        have nc : co b = none := by
          cases q : co b with
          | none => rfl
          | some ob => exact absurd ((mem b).mpr ⟨ob, q⟩) m
        rw [unmask_out (fun m2 => ?_) nc]
        · exact R2.sub b o e
        · rw [g2n m2] at e
          cases e
    have R3 : Rep (zOf X P) F (dels (ja.map (caOf X)) G2) ρ σ (unmask (hidL F ρ (argsOf ρ [])) co H H2) := R.pastC s3 sub3 (fun b o e => by
      unfold dels at e
      split at e
      · cases e
      · exact R2.nt b o e) fun b w => by
      have m : b ∈ hidL F ρ (argsOf ρ []) := mem_hidL.mpr (w.imp (fun z => ⟨z, fun ⟨i, c, e⟩ => by simp at e⟩) id)
      refine ⟨unmask_in m, ?_⟩
      unfold dels
      split
      · rfl
      · exact g2n m
    exact kk D ρ v (dels (ja.map (caOf X)) G2) _ q2 s3 .refl R3 (Dw.but hst keepD d)
theorem heard_run {σ : L2.St} {F : List (Addr × HO)} {G H : Hp} {ρ : Sto} {fl : Addr} {kl : Nat} {W : LW2} {ca : Nat → Addr} {Q0 : PyData → Sto → Prop} {Q : VK} (ok : X.Ok) (hN : X.N.Nodup) (hca : ca = caOf X) (hj : CellJ X ja) (hst : ∀ s, P.st s = none) (t : Tg G P) (R : Rep (zOf X P) F G ρ σ H) (L : LamOk (zOf X P) G fl kl (js.map ca) W)
    (kl_le : kl ≤ j) (s0 : ∀ i ∈ js, i ∈ ja) (h : dHeard ca js ja W TH ρ Q0) (kk : Kn (zOf X P) F n Q0 ρ G σ Q) : maskK X σ (spT (zOf X P) (heardT j TH)) (fun _ _ _ => False) [.ref fl] H Q := by
  subst hca
  unfold maskK
  obtain ⟨Ls, Rc⟩ := R.call (vs := []) (rs := []) trivial List.nodup_nil
  exact ⟨hidL F ρ (argsOf ρ []), ja, Ls, hj, fun co sh cN => (heard_core ok hN hj hst t R L kl_le s0 h kk sh cN).2⟩
/-- f(lambda: ..) -/
theorem de_heardL {N fr : List Str} {t : EK → DTE} {params : Arguments} {body : Expr} {scope : Scope} {nm : Nat → Nat → Str} {c Pl : Addr} {ca : Nat → Addr} {kb : Nat} (hN : X.N.Nodup) (hca : ca = caOf X) (hj : CellJ X ja) (LI : LamIs P X kb N [] fr js t params body scope) (hle : kb + 1 ≤ j) (s0 : ∀ i ∈ js, i ∈ ja) (hst : ∀ s, P.st s = none) (TB : LamX.TabB X.base X.mg c Pl) (hm : (Pl, nm) ∈ P.L) (hu : ∀ p ∈ P.L, p.1 = Pl → p.2 = nm) (hP : Pl ≠ P.P)
    (Fk : FnD X.prog X.w X.K X.mg X.base CX0 k f fd ps (spT (zOf X P) (heardT j TH))) (hr : Room k X.A) (hgd : X.A.guards = some []) (hg : Gl X x) (hmg : X.mg x = some (.ref f)) (hk : PySem.W.keepIn X.K (.ref f) = true) (hb : Binds X.K fd ps [])
    (hcode : X.env.code = .ref c := by rfl) (hn : nm lp.line lp.col = X.env.qual ++ "<lambda>" := by rfl) (hdef : defaultsOf params X.env = ([], []) := by rfl)
    (hdb : (x == ("__debug__" : Str)) = false := by decide) (he : starEach [.Lambda params body scope lp] X.env = (false, eval (.Lambda params body scope lp) X.env) :: starEach [] X.env := by rfl) (hpl : (backTo pos (starEach [] X.env)).any (·.1) = false := by rfl) :
    DE P G0 n X (.Call (.Name x p) [.Lambda params body scope lp] [] pos) (dHeard ca js ja (lamW N 0 t) TH) := by
  refine ⟨fun pins s σ H Q I h => (pe_callM (E := fun _ _ _ _ => False) Fk .non hr hgd hg hmg hk hb (pa_cons (pe_lamG (params := params) (body := body) (scope := scope) (pos := lp) TB hcode hm hn hu (fun y hy e => .inl (LI.free y hy e)) hdef) pa_nil he) hdb he hpl).run pins s σ H Q I ?_⟩
  obtain ⟨F, ρ, G, Q0, s1, R, h, kk⟩ := h
  refine ⟨G, R.sub, s1.2.2, fun fl cl G1 H1 up tn fH f1 c1 => ?_⟩
  have e1 : Ex P G G1 := up.ex s1.2 hP tn
  have R1 : Rep (zOf X P) F G1 ρ σ H1 := up.rep s1.2 ⟨nm, hm⟩ hP tn R
  have L := lamOk_of LI I.ok f1 c1
  rw [← hca] at L
  exact heard_run I.ok hN hca hj hst e1.2 R1 L hle s0 h (kk.after e1 .refl)
/-- f(ask), ask a lambda of one's own -/
def dHeardS (ca : Nat → Addr) (i j : Nat) (ja : List Nat) (TH : Out → (PyData → Prop) → Prop) : DTE := fun ρ Q => match ρ[i]? with
  | some (.ask (.lam ca2 js W)) => (ca2 = ca ∧ aL ≤ j ∧ ∀ i ∈ js, i ∈ ja) ∧ dHeard ca js ja W TH ρ Q
  | _ => False
end
end Dl
set_option Elab.async false
set_option linter.all false
set_option maxRecDepth 100000
set_option maxHeartbeats 4000000
namespace Dl
open PySem PySem.Spec PyProof PyProof.Rows L2 So Da SoC LamX NdefX
theorem Shown.congr {X : Cx} {σ σ' : L2.St} {js : List Nat} {co : Addr → Option Obj} (sh : Shown X σ js co) (h : ∀ j ∈ js, σ'[j]? = σ[j]?) : Shown X σ' js co :=
  ⟨sh.own, fun j m y ey => by
    obtain ⟨c, ob, h1, h2, x, h3, h4⟩ := sh.at_ j m y ey
    exact ⟨c, ob, h1, h2, x, h3, fun v e => h4 v (by rw [← h j m]; exact e)⟩⟩
section
variable {X : Cx} {k : Nat} {f : Addr} {fd : FuncData} {ps : List Str} {sp : Sp} {x : Str} {p pos : Pos} {e : Expr} {es : List Expr} {t : TA} {co : Addr → Option Obj}
end
def asksW (ca : Nat → Addr) (ja : List Nat) (TH : Out → (PyData → Prop) → Prop) (f : OpT) (tV : DTE) (ρw : Sto) (ik : Nat) : List (List Nat × LW2) → Prop
  | [] => True
  | l :: ls => ((∀ i ∈ l.1, i ∈ ja) ∧ dHeard ca l.1 ja l.2 TH (ρw.set ik (.ask (.lam ca l.1 l.2))) fun D ρ2 => tV ρ2 fun D2 ρ3 => f D D2 fun z => z = .bool false ∧ ρ3 = ρw.set ik (.ask (.lam ca l.1 l.2))) ∧ asksW ca ja TH f tV ρw ik ls
def dAsks (ca : Nat → Addr) (ia ik j : Nat) (ja : List Nat) (TH : Out → (PyData → Prop) → Prop) (f : OpT) (tV : DTE) : DTF := fun ρ Q => match ρ[ia]? with
  | some (.ob _ (.lams ca2 ls)) => (ca2 = ca ∧ aL ≤ j ∧ ia ≠ ik ∧ noOb ρ ik ∧ ik ∉ ja ∧ ik < ρ.length) ∧ asksW ca ja TH f tV (ρ.set ik .un) ik ls ∧ Q [] ρ
  | _ => False
section
variable {P : Tb} {G0 : Hp} {n : Nat} {X : Cx} {ja : List Nat} {TH : Out → (PyData → Prop) → Prop} {k j : Nat} {f : Addr} {fd : FuncData} {ps : List Str} {x y xs : Str} {p cpos yp yp2 yp3 xp pos mpos : Pos} {V : Expr} {scope : Scope} {ia ik : Nat} {tV : DTE} {op : CmpOp} {r : R2} {fO : OpT}
end
end Dl
set_option Elab.async false
set_option linter.all false
set_option maxRecDepth 100000
set_option maxHeartbeats 4000000
namespace Dl
open PySem PySem.Spec PyProof PyProof.Rows L2 So Da SoC LamX NdefX
def LamsOk (K : Zw) (G : Hp) (ca : Nat → Addr) : List V → List (List Nat × LW2) → Prop := Paired fun v l => ∃ f, v = V.ref f ∧ LamOk K G f aL (l.1.map ca) l.2
theorem LamsOk.mono {K : Zw} {G G' : Hp} {ca : Nat → Addr} (s : Ex K.T G G') {vs : List V} {ls : List (List Nat × LW2)} (h : LamsOk K G ca vs ls) : LamsOk K G' ca vs ls := paired_imp (fun _ _ ⟨f, e, m⟩ => ⟨f, e, m.mono s⟩) h
section
variable {P : Tb} {G0 : Hp} {n : Nat} {X : Cx} {N ps fr : List Str} {js : List Nat} {t : EK → DTE} {params : Arguments} {body : Expr} {scope : Scope} {es : List Expr} {ls : List (List Nat × LW2)} {lp pos mp ap np cp lp2 : Pos} {ca : Nat → Addr} {st : Stmt} {xs : Str}
/-- for ask in asks: .. -/
def forLW (ca : Nat → Addr) (ik : Nat) (tb : DTS) (D : EndsD) : List (List Nat × LW2) → Sto → Prop
  | [], ρ => D.nx ρ
  | l :: ls, ρ => noOb ρ ik ∧ tb { D with nx := forLW ca ik tb D ls, ct := forLW ca ik tb D ls, bk := D.nx } (ρ.set ik (.ask (.lam ca l.1 l.2)))
def dForL (n : Nat) (ca : Nat → Addr) (ia ik : Nat) (tb : DTS) : DTS := fun D ρ => match ρ[ia]? with
  | some (.ob _ (.lams ca2 ls)) => (ca2 = ca ∧ n ≤ ia) ∧ forLW ca ik tb D ls (ρ.set ia .un)
  | _ => False
end
end Dl
set_option Elab.async false
set_option linter.all false
set_option maxRecDepth 100000
set_option maxHeartbeats 4000000
namespace Dl
open PySem PySem.Spec PyProof PyProof.Rows L2 So Da
theorem cj_nil {X : Cx} : CellJ X [] := fun j m => absurd m List.not_mem_nil
theorem cj_cons {X : Cx} {j : Nat} {js : List Nat} (h : ∃ y, X.N[j]? = some y ∧ X.env.scope.names.lookup y = some .cell ∧ X.fn y = true) (r : CellJ X js) : CellJ X (j :: js) := fun i m => by
  rcases List.mem_cons.mp m with z | m
  · rw [z]
    exact h
  · exact r i m
section
variable {Pg : Program} {w : World} {K : PySem.W.Frag} {mg : Str → Option Value} {base : Heap} {CX : CXT} {k : Nat} {f c : Addr} {fd : FuncData} {ps : List Str} {sp : Sp} {x : Str} {st : Stmt} {N : List Str}
theorem FnD.okC (F : DfC K mg x st ps f fd c) (S : FnScope N ps (defScope st)) (len : ∀ vs H Q E, sp vs H Q E → vs.length = ps.length)
    (body : ∀ (A : Around) (outer : List Env) (s : Shared) (H : Hp) (vs : List V) (Q : VK) (E : XK), Room k (A.deeper (envOfC x (defScope st) s.heap.objs.size f (.ref c))) → (A.deeper (envOfC x (defScope st) s.heap.objs.size f (.ref c))).guards = some [] → sp vs H Q E →
      ∃ t, PSs (cxOf CX Pg w K mg base N x (defScope st) f (.ref c) A outer s H E) (defBody st) t ∧ t { nx := fun _ H' => Q .non H', rt := Q } (start N vs) H) : FnD Pg w K mg base CX (k + 1) f fd ps sp := by
  obtain ⟨oc, od, kV, doc, pm, an, ct, osl, rfl, lk, hcd⟩ := F.ex
  refine ⟨len, ?_⟩
  intro A outer s H args us vs Q E hr hg e0 hb r hsp
  have hl := len _ _ _ _ hsp
  have kp : ∀ b o, base.get? b = some o → s.heap.get? b = some o := fun b o z => (e0.bs b o z).1
  have pk : ∀ y ∈ ps.zip us, (defScope st).names.lookup y.1 = some .local ∨ ((defScope st).names.lookup y.1 = some .cell ∧ ((cellsFrom (s.heap.objs.size + 1) (defScope st).names []).lookup y.1).isSome = true) := fun y hy =>
    (S.par y.1 (List.of_mem_zip hy).1).imp id fun q => ⟨q, PySem.W.cellsFrom_some _ _ _ (.inl q)⟩
  have KX := e0.mod.kin.keeps kp
  refine codeAny_call_function hr.depth (KX _ _ lk) rfl S.co S.gen rfl (PySem.W.codeRec_of KX hcd) (hb _ _ _ _ (wpAny_newFunctionEnv_cells S.kind pk fun env he s1 x1 => ?_))
  subst he
  obtain ⟨t, ht, hq⟩ := body A outer s H vs Q E (hr.deeper _) hg hsp
  have I := inv_start (CX := CX) (E := E) (cd := .ref c) (f := f) (qual := x) (us := us) S hr.hd e0 hl r x1
  refine ⟨(e0.mod.nolimit.keeps kp).keeps x1.toInCall.keep, codeAny_func (wpAny_mono (ht.run [] s1 _ H _ I hq) (fun fl s' hs => ?_) fun _ _ z => z)⟩
  match fl, hs with
  | .ret u, ⟨v, σ', H', J, rv, q⟩ => exact ⟨v, H', J.os, J.bare, J.base, J.hok, rv, q⟩
  | .next, ⟨σ', H', J, q⟩ => exact ⟨V.non, H', J.os, J.bare, J.base, J.hok, rfl, q⟩
  | .brk, ⟨_, _, _, q⟩ => exact q.elim
  | .cont, ⟨_, _, _, q⟩ => exact q.elim
theorem FnD.okC0 (F : DfC K mg x st ps f fd c) (S : FnScope N ps (defScope st)) (len : ∀ vs H Q E, sp vs H Q E → vs.length = ps.length)
    (body : ∀ (A : Around) (outer : List Env) (s : Shared) (H : Hp) (vs : List V) (Q : VK) (E : XK), Room k (A.deeper (envOfC x (defScope st) s.heap.objs.size f (.ref c))) → (A.deeper (envOfC x (defScope st) s.heap.objs.size f (.ref c))).guards = some [] → sp vs H Q E →
      ∃ t, PSs (cxOf CX0 Pg w K mg base N x (defScope st) f (.ref c) A outer s H E).nox (defBody st) t ∧ t { nx := fun _ H' => Q .non H', rt := Q } (start N vs) H) : FnD Pg w K mg base CX0 (k + 1) f fd ps sp :=
  FnD.okC F S len fun A outer s H vs Q E hr hg hsp => by
    obtain ⟨t, h, q⟩ := body A outer s H vs Q E hr hg hsp
    exact ⟨t, h.nox, q⟩
end
section
variable {Z : Zw} {x : Str} {st : Stmt} {f c : Addr} {fd : FuncData} {N ps : List Str} {k : Nat} {T : TD}
/-- a def that makes functions, and lets nothing out -/
theorem okDC {t : (Nat → Addr) → DTS} (F : DfC Z.K Z.mg x st ps f fd c) (S : FnScope N ps (defScope st)) (len : ∀ as Q er, T as Q er → as.length = ps.length)
    (h : ∀ (A : Around) (outer : List Env) (s : Shared) (H : Hp) (E : XK) (G0 : Hp) (ca : Nat → Addr), Room k (A.deeper (envOfC x (defScope st) s.heap.objs.size f (.ref c))) → (A.deeper (envOfC x (defScope st) s.heap.objs.size f (.ref c))).guards = some [] → ca = caOf (cxOf CX0 Z.Pg Z.w Z.K Z.mg Z.base N x (defScope st) f (.ref c) A outer s H E).nox →
      DSs Z.T G0 ps.length (cxOf CX0 Z.Pg Z.w Z.K Z.mg Z.base N x (defScope st) f (.ref c) A outer s H E).nox (defBody st) (t ca))
    (hq : ∀ ca as Q er, T as Q er → t ca (endsOf as Q) (start0 (N.length - ps.length) as)) : FnD Z.Pg Z.w Z.K Z.mg Z.base CX0 (k + 1) f fd ps (spT Z T) :=
  FnD.okC0 F S (spT_len len) fun A outer s H vs Q E hr hg ⟨G, as, Q0, er, tb, R, hT, hQ, _⟩ => ⟨_, h A outer s H E G _ hr hg rfl, body_read tb R (by
    have := R.len
    rw [List.length_map] at this
    exact this.trans (len _ _ _ hT)) (hq _ _ _ _ hT) hQ⟩
end
/-- what is told of an error that is caught -/
structure ErC (K : PySem.W.Frag) (mg : Str → Option Value) (x an : Str) (C : Addr) : Prop where
  xf : XfC K C
  is : SoC.IsC K C
  na : PySem.W.findIn K (.ref C) an = some none
  te : PySem.W.exmOne K (.ref C) (.ref C) = some true
  g : mg x = some (.ref C)
def kdIn (K : PySem.W.Frag) : Bool := K.all fun p => p.2.dict.isNone || !(p.2.cls == Value.type "tuple")
theorem kd_of : ∀ {K : PySem.W.Frag}, kdIn K = true → ∀ (p : Addr) (ob : Obj), K.lookup p = some ob → ob.cls = .type "tuple" → ob.dict = none
  | [], _, p, ob, h, _ => nomatch h
  | (a, o) :: K, k, p, ob, h, hc => by
    unfold kdIn at k
    rw [List.all_cons, Bool.and_eq_true] at k
    rw [List.lookup_cons] at h
    split at h
    · cases h
      have k1 := k.1
      rw [hc] at k1
      cases e : o.dict with
      | none => rfl
      | some d =>
        dsimp only at k1
        rw [e] at k1
        rw [show (Value.type "tuple" == Value.type "tuple") = true by decide] at k1
        exact nomatch k1
    · exact kd_of (K := K) k.2 p ob h hc
/-- is_label's table has grown -/
theorem Rep.tabbed {K : Zw} {F : List (Addr × HO)} {G H H' : Hp} {ρ : Sto} {σ : L2.St} (ap : Apt K.T) (t : Tg G K.T) (R : Rep K F G ρ σ H) (g : GxR.Tabbed K.T.P H H') : ∃ G', Ex K.T G G' ∧ Rep K F G' ρ σ H' := by
  obtain ⟨⟨ps, h1, h2⟩, t2⟩ := t
  have hP := R.sub _ _ h1
  have gt : GxR.Tabbed K.T.P G (fun b => if b = K.T.P then H' K.T.P else G b) := by
    refine ⟨?_, fun b nb => if_neg nb⟩
    obtain ⟨qs, a, b⟩ := g.1
    exact ⟨qs, (if_pos rfl).trans a, b⟩
  have sx : Ex K.T G (fun b => if b = K.T.P then H' K.T.P else G b) := Ex.tabbed ap ⟨⟨ps, h1, h2⟩, t2⟩ gt
  refine ⟨_, sx, R.pastC sx (fun b o e => ?_) (fun b o e => ?_) fun b w => ?_⟩
  · split at e
    · rename_i z
      rw [z]
      exact e
    · rename_i z
      rw [g.2 b z]
      exact R.sub b o e
  · split at e
    · obtain ⟨qs, a, _⟩ := g.1
      rw [a] at e
      cases e
      trivial
    · exact R.nt b o e
  · have ne : b ≠ K.T.P := fun z => by
      rcases w with ⟨i, c, e⟩ | ⟨o, m⟩
      · have := (R.ob e).2.1
        rw [z, h1] at this
        cases this
      · have := (R.ex m).2.1
        rw [z, h1] at this
        cases this
    refine ⟨g.2 b ne, ?_⟩
    show (if b = K.T.P then H' K.T.P else G b) = none
    rw [if_neg ne]
    rcases w with ⟨i, c, e⟩ | ⟨o, m⟩
    · exact (R.ob e).2.1
    · exact (R.ex m).2.1
theorem rep_dp1 {Z : Zw} {G H : Hp} {v : V} {D : PyData} (R : Rep Z [] G [.sh D] [some v] H) : Dw Z G v D := by
  obtain ⟨v', h1, h2⟩ := R.sh (i := 0) rfl
  cases h1
  exact h2
theorem one_arg {vs : List V} {lc : Lc} {Z : Zw} {F : List (Addr × HO)} {G H : Hp} (R : Rep Z F G [lc] (vs.map some) H) : ∃ v, vs = [v] := by
  have := R.len
  rw [List.length_map] at this
  match vs, this with
  | [v], _ => exact ⟨v, rfl⟩
theorem two_args {vs : List V} {a b : Lc} {Z : Zw} {F : List (Addr × HO)} {G H : Hp} (R : Rep Z F G [a, b] (vs.map some) H) : ∃ v w, vs = [v, w] := by
  have := R.len
  rw [List.length_map] at this
  match vs, this with
  | [v, w], _ => exact ⟨v, w, rfl⟩
def spBx (K : PySem.W.Frag) : Sp := fun vs H Q _ => ∃ (a : Addr) (ns : List Int) (k : Nat), vs = [.ref a, .int (k : Int)] ∧ SqL K H a (ns.map V.int) ∧ ns.length ≤ 1000000 ∧ k < 1000000000 ∧ ∀ (q : Addr) (g s : Int), 0 ≤ g → 0 ≤ s → s ≤ 2147483648 → H q = none → Q (.ref q) (upd H q (.lst [.int g, .int s]))
/-- a box of the draws' from a script of whole numbers -/
def Tbox : TDO := fun as Q _ => ∃ (ns : List Int) (k : Nat), as = [.sh (.list (ns.map .int)), .sh (.int (k : Int))] ∧ ns.length ≤ 1000000 ∧ k < 1000000000 ∧ Q .box as
theorem box_T {Z : Zw} {CX : CXT} {k : Nat} {f : Addr} {fd : FuncData} {ps : List Str} (F : FnD Z.Pg Z.w Z.K Z.mg Z.base CX k f fd ps (spBx Z.K)) : FnD Z.Pg Z.w Z.K Z.mg Z.base CX k f fd ps (spO Z Tbox) :=
  F.imp fun vs H Q E ⟨G, as, Q0, er, t, R, ⟨ns, m, e, l, lm, q⟩, hQ, _⟩ => by
    subst e
    obtain ⟨v1, v2, rfl⟩ := two_args R
    obtain ⟨u1, e1, d1⟩ := R.sh (i := 0) rfl
    obtain ⟨u2, e2, d2⟩ := R.sh (i := 1) rfl
    cases e1
    cases e2
    cases d2
    cases d1 with
    | @lst _ a xs ds sq da =>
      have ex := dpa_ints da
      subst ex
      refine ⟨a, ns, m, rfl, (R.sm t).lst sq, l, lm, fun p g s h1 h2 h3 hp => hQ .box _ p _ G _ q (.sh (.sh .nil)) (Ex.refl t) (R.push (o := .lst [.int g, .int s]) hp).noF upd_same (R.gnone hp) (fun ⟨i, c, e⟩ => ?_) ⟨g, s, rfl, h1, h2, h3⟩⟩
      match i, e with
      | 0, e => cases e
      | 1, e => cases e
      | i + 2, e => simp at e
def spTak : Sp := fun vs H Q _ => ∃ (b : Addr) (n g s : Int), vs = [.ref b, .int n] ∧ (H b = some (.lst [.int g, .int s]) ∧ 0 ≤ g ∧ 0 ≤ s ∧ s ≤ 2147483648) ∧ 0 < n ∧ n < 1000000000 ∧ ∀ (r g' s' : Int), 0 ≤ r → r < n → 0 ≤ g' → 0 ≤ s' → s' ≤ 2147483648 → Q (.int r) (upd H b (.lst [.int g', .int s']))
/-- a number that is drawn -/
def Ttake : TD := fun as Q _ => match as with
  | [.ob b .box, .sh (.int n)] => 0 < n ∧ n < 1000000000 ∧ ∀ r : Int, 0 ≤ r → r < n → Q (.int r) [.ob b .box, .sh (.int n)]
  | _ => False
theorem take_T {Z : Zw} {CX : CXT} {k : Nat} {f : Addr} {fd : FuncData} {ps : List Str} (F : FnD Z.Pg Z.w Z.K Z.mg Z.base CX k f fd ps spTak) : FnD Z.Pg Z.w Z.K Z.mg Z.base CX k f fd ps (spT Z Ttake) :=
  F.imp fun vs H Q E ⟨G, as, Q0, er, t, R, h, k, _⟩ => by
    unfold Ttake at h
    split at h
    · rename_i b n
      obtain ⟨h1, h2, h⟩ := h
      obtain ⟨u, v, rfl⟩ := two_args R
      obtain ⟨e1, gb, o, eo, g, s, rfl, g0, s0, s1⟩ := R.ob (i := 0) rfl
      obtain ⟨x, e2, d⟩ := R.sh (i := 1) rfl
      cases e1
      cases e2
      cases d
      refine ⟨b, n, g, s, rfl, ⟨eo, g0, s0, s1⟩, h1, h2, fun r g' s' r0 r1 a0 b0 b1 => ?_⟩
      exact k (.int r) _ _ G _ (h r r0 r1) (.ob (.sh .nil)) (Ex.refl t) (R.put (i := 0) rfl ⟨g', s', rfl, a0, b0, b1⟩) (.int _)
    · exact h.elim
theorem Sub.refl (H : Hp) : Sub H H := fun _ _ e => e
theorem Sub.trans {H H1 H2 : Hp} (a : Sub H H1) (b : Sub H1 H2) : Sub H H2 := fun c o e => b c o (a c o e)
theorem Sub.new {H : Hp} {p : Addr} {o : HO} (h : H p = none) : Sub H (upd H p o) := fun c u e => by rw [upd_ne (ne_of_none e h)]; exact e
theorem Sub.tup {K : PySem.W.Frag} {H H1 : Hp} {a : Addr} {xs : List V} (s : Sub H H1) (h : SqT K H a xs) : SqT K H1 a xs := sqt_ext (LamX.ExtN.of s) h
theorem Rep.sup {Z : Zw} {G H H' : Hp} {as : List Lc} {σ : L2.St} (R : Rep Z [] G as σ H) (no : ∀ (i : Nat) (a : Addr) (c : Oc), as[i]? ≠ some (.ob a c)) (t : Tg G Z.T) (s : Sub H H') : Rep Z [] G as σ H' := R.pastC (Ex.refl t) (R.sub.trans s) R.nt fun b w => by
  rcases w with ⟨i, c, e⟩ | ⟨o, m⟩
  · exact absurd e (no i b c)
  · exact absurd m List.not_mem_nil
theorem no_sh1 {D : PyData} : ∀ (i : Nat) (a : Addr) (c : Oc), [Lc.sh D][i]? ≠ some (.ob a c) := fun i a c e => by
  match i, e with
  | 0, e => cases e
  | i + 1, e => simp at e
end Dl
set_option Elab.async false
set_option linter.all false
set_option maxRecDepth 100000
set_option maxHeartbeats 4000000
namespace Dl
open PySem PySem.Spec PyProof PyProof.Rows L2 So Da
def lsF (L : List Addr) (cv : Addr → List V) : List (Addr × HO) := L.map fun a => (a, .lst (cv a))
def setF (cv : Addr → List V) (a : Addr) (ys : List V) : Addr → List V := fun b => if b = a then ys else cv b
theorem setF_same {cv : Addr → List V} {a : Addr} {ys : List V} : setF cv a ys a = ys := if_pos rfl
theorem setF_ne {cv : Addr → List V} {a b : Addr} {ys : List V} (h : b ≠ a) : setF cv a ys b = cv b := if_neg h
section
variable {K : Zw} {G H : Hp} {ρ : Sto} {σ : L2.St} {L : List Addr} {cv : Addr → List V} {a p : Addr} {ys : List V}
theorem mem_lsF {o : HO} : (a, o) ∈ lsF L cv ↔ a ∈ L ∧ o = .lst (cv a) := by
  unfold lsF
  rw [List.mem_map]
  exact ⟨fun ⟨b, m, e⟩ => by cases e; exact ⟨m, rfl⟩, fun ⟨m, e⟩ => ⟨a, m, by rw [e]⟩⟩
theorem Rep.subF {F F' : List (Addr × HO)} (R : Rep K F G ρ σ H) (s : ∀ x ∈ F', x ∈ F) : Rep K F' G ρ σ H := ⟨R.len, R.sh, R.ob, R.exc, R.ask, R.uniq, fun m => R.ex (s _ m), R.sub, R.nt⟩
theorem Rep.at_ls (R : Rep K (lsF L cv) G ρ σ H) (m : a ∈ L) : H a = some (.lst (cv a)) := (R.ex (mem_lsF.mpr ⟨m, rfl⟩)).1
theorem Rep.no_ls (R : Rep K (lsF L cv) G ρ σ H) (m : a ∈ L) : G a = none := (R.ex (mem_lsF.mpr ⟨m, rfl⟩)).2.1
/-- one of them changes -/
theorem Rep.mutF (R : Rep K (lsF L cv) G ρ σ H) (m : a ∈ L) : Rep K (lsF L (setF cv a ys)) G ρ σ (upd H a (.lst ys)) := by
  have ga := R.no_ls m
  refine ⟨R.len, R.sh, fun {i b c} e => ?_, R.exc, R.ask, R.uniq, fun {b u} mb => ?_, fun b u e => ?_, R.nt⟩
  · obtain ⟨h1, h2, o, h3, h4⟩ := R.ob e
    have ne : b ≠ a := fun z => (R.ex (mem_lsF.mpr ⟨m, rfl⟩)).2.2.1 ⟨i, c, z ▸ e⟩
    exact ⟨h1, h2, o, by rw [upd_ne ne]; exact h3, h4⟩
  · obtain ⟨m2, rfl⟩ := mem_lsF.mp mb
    by_cases z : b = a
    · subst z
      rw [setF_same]
      exact ⟨upd_same, ga, (R.ex (mem_lsF.mpr ⟨m2, rfl⟩)).2.2.1, lcl_lst⟩
    · rw [setF_ne z]
      obtain ⟨h1, h2, h3, h4⟩ := R.ex (mem_lsF.mpr ⟨m2, rfl⟩)
      exact ⟨by rw [upd_ne z]; exact h1, h2, h3, h4⟩
  · rw [upd_ne (fun z => by rw [z, ga] at e; cases e)]
    exact R.sub b u e
/-- a new one -/
theorem Rep.newF (R : Rep K (lsF L cv) G ρ σ H) (h : H p = none) : p ∉ L ∧ Rep K (lsF (p :: L) (setF cv p ys)) G ρ σ (upd H p (.lst ys)) := by
  have np : p ∉ L := fun m => by
    rw [R.at_ls m] at h
    cases h
  refine ⟨np, (R.push (o := .lst ys) h).subF fun ⟨b, u⟩ m => ?_⟩
  obtain ⟨m2, rfl⟩ := mem_lsF.mp m
  by_cases z : b = p
  · subst z
    rw [setF_same]
    exact List.mem_cons_self
  · rw [setF_ne z]
    exact List.mem_cons_of_mem _ (mem_lsF.mpr ⟨(List.mem_cons.mp m2).resolve_left z, rfl⟩)
end
/-- nothing need be known of slots -/
theorem Rep.less {K : Zw} {F : List (Addr × HO)} {G H : Hp} {ρ ρ' : Sto} {σ : L2.St} (R : Rep K F G ρ σ H) (l : ρ'.length = ρ.length) (h : ∀ (i : Nat) (lc : Lc), ρ'[i]? = some lc → lc = .un ∨ ρ[i]? = some lc) : Rep K F G ρ' σ H :=
  ⟨R.len.trans l.symm, fun e => R.sh ((h _ _ e).resolve_left fun z => nomatch z), fun e => R.ob ((h _ _ e).resolve_left fun z => nomatch z), fun e => R.exc ((h _ _ e).resolve_left fun z => nomatch z), fun e => R.ask ((h _ _ e).resolve_left fun z => nomatch z),
    fun e e' => R.uniq ((h _ _ e).resolve_left fun z => nomatch z) ((h _ _ e').resolve_left fun z => nomatch z), fun m => ⟨(R.ex m).1, (R.ex m).2.1, fun ⟨i, c, e⟩ => (R.ex m).2.2.1 ⟨i, c, (h _ _ e).resolve_left fun z => nomatch z⟩, (R.ex m).2.2.2⟩, R.sub, R.nt⟩
end Dl
set_option Elab.async false
set_option linter.all false
set_option maxRecDepth 100000
set_option maxHeartbeats 4000000
namespace Dl
open PySem PySem.Spec PyProof PyProof.Rows L2 So Da
theorem errL_no {K : Zw} {G : Hp} : ErrL K G (fun _ _ _ => False) (fun _ => False) := fun _ _ _ _ _ _ q _ _ _ _ _ => q
theorem passes_no {X : Cx} : Passes (L2.CX X.prog X.w) X (fun _ _ _ => False) := fun _ _ _ _ _ _ _ ⟨_, _, _, _, _, _, _, _, _, _, _, _, q⟩ => q.elim
theorem free_by {X : Cx} {scope sc : Scope} (h : X.env.scope = sc) (b : (scope.names.all fun y => !decide (y.2 = .free) || decide (sc.names.lookup y.1 = some .cell)) = true) : ∀ y ∈ scope.names, y.2 = .free → X.env.scope.names.lookup y.1 = some .cell := fun y hy e => by
  have := List.all_eq_true.mp b y hy
  rw [e, decide_eq_true rfl, Bool.not_true, Bool.false_or] at this
  rw [h]
  exact of_decide_eq_true this
/-- what stood in slot i is given up -/
theorem ds_drop {P : Tb} {G0 : Hp} {n : Nat} {X : Cx} {st : Stmt} {t : DTS} (i : Nat) (hi : n ≤ i) (h : DS P G0 n X st t) : DS P G0 n X st (fun D ρ => t D (ρ.set i .un)) := ps_weak h fun D σ H ⟨ρ, G, D0, s, R, h, k⟩ => by
  have R' : Rep (zOf X P) [] G (ρ.set i .un) σ H := R.less (List.length_set ..) fun j lc e => by
    rcases set_get e with ⟨_, z, _⟩ | ⟨_, e⟩
    · exact .inl z
    · exact .inr e
  exact ⟨_, G, D0, s, R', h, k.after (Ex.refl s.2) fun j a c hj e => ⟨c, by rw [List.getElem?_set_ne (by omega)]; exact e⟩⟩
theorem dSeq_go {t u : DTS} {nx bk ct : Sto → Prop} {rt : PyData → Sto → Prop} {ro : Oc → Sto → Prop} {ρ : Sto} (h : ∀ N : Sto → Prop, N = u ⟨nx, rt, bk, ct, ro⟩ → t ⟨N, rt, bk, ct, ro⟩ ρ) : dSeq t u ⟨nx, rt, bk, ct, ro⟩ ρ := h _ rfl
theorem dSeq_for {ti : DTI} {g : DTG} {tb u : DTS} {nx bk ct : Sto → Prop} {rt : PyData → Sto → Prop} {ro : Oc → Sto → Prop} {ρ : Sto} (h : ∀ (B : DTS) (N : Sto → Prop), B = tb → N = u ⟨nx, rt, bk, ct, ro⟩ → ti ρ fun ds ρ1 => forW g B ⟨N, rt, bk, ct, ro⟩ ds ρ1) : dSeq (dFor ti g tb) u ⟨nx, rt, bk, ct, ro⟩ ρ := h _ _ rfl rfl
/-- a loop by what holds at its head; a turn's end is K -/
theorem forW_go {g : DTG} {tb : DTS} {D : EndsD} (J : List PyData → Sto → Prop) (hn : ∀ ρ, J [] ρ → D.nx ρ)
    (hc : ∀ (K : Sto → Prop) d ds ρ, J (d :: ds) ρ → (∀ ρ', J ds ρ' → K ρ') → g d ρ fun ρ' => tb ⟨K, D.rt, D.nx, K, D.ro⟩ ρ') : ∀ ds ρ, J ds ρ → forW g tb D ds ρ
  | [], ρ, h => hn ρ h
  | d :: ds, ρ, h => hc (forW g tb D ds) d ds ρ h fun ρ' j => forW_go J hn hc ds ρ' j
end Dl
set_option Elab.async false
set_option linter.all false
set_option maxRecDepth 100000
set_option maxHeartbeats 4000000
namespace Dl
open PySem PySem.Spec PyProof PyProof.Rows L2 So Da
structure GD (h W : Nat) (d : PyData) : Prop where
  sh : d.showable = true
  di : d.hasDict = false
  de : d.depth ≤ h
  le : d.leavesShort 13 = true
  we : d.weight ≤ W
theorem gd_all {h W : Nat} : ∀ {ds : List PyData}, (∀ d ∈ ds, GD h W d) → PyData.showableAll ds = true ∧ PyData.hasDictAll ds = false ∧ PyData.depthAll ds ≤ h ∧ PyData.leavesShortAll 13 ds = true ∧ PyData.weightAll ds ≤ ds.length * (W + 1)
  | [], _ => ⟨rfl, rfl, Nat.zero_le _, rfl, Nat.zero_le _⟩
  | d :: ds, q => by
    obtain ⟨a1, a2, a3, a4, a5⟩ := gd_all (ds := ds) fun x hx => q x (List.mem_cons_of_mem _ hx)
    obtain ⟨b1, b2, b3, b4, b5⟩ := q d (List.mem_cons_self ..)
    refine ⟨?_, ?_, ?_, ?_, ?_⟩
    · simp only [PyData.showableAll, a1, b1, Bool.and_self]
    · simp only [PyData.hasDictAll, a2, b2, Bool.or_self]
    · simp only [PyData.depthAll]
      exact Nat.max_le.mpr ⟨b3, a3⟩
    · simp only [PyData.leavesShortAll, a4, b4, Bool.and_self]
    · simp only [PyData.weightAll, List.length_cons, Nat.succ_mul]
      omega
theorem gd_tup {h W n : Nat} {ds : List PyData} (q : ∀ d ∈ ds, GD h W d) (l : ds.length ≤ n) : GD (h + 1) (n * (W + 1)) (.tuple ds) := by
  obtain ⟨a1, a2, a3, a4, a5⟩ := gd_all q
  exact ⟨a1, a2, Nat.succ_le_succ a3, a4, Nat.le_trans a5 (Nat.mul_le_mul_right _ l)⟩
theorem gd_lst {h W n : Nat} {ds : List PyData} (q : ∀ d ∈ ds, GD h W d) (l : ds.length ≤ n) : GD (h + 1) (n * (W + 1)) (.list ds) := by
  obtain ⟨a1, a2, a3, a4, a5⟩ := gd_all q
  exact ⟨a1, a2, Nat.succ_le_succ a3, a4, Nat.le_trans a5 (Nat.mul_le_mul_right _ l)⟩
theorem gd_fits {h W : Nat} {d : PyData} (g : GD h W d) (w : W ≤ 1000000) : d.shown.length ≤ sizeLine :=
  PyData.shown_fits (B := 13) (by decide) (by decide) g.le (Nat.le_trans g.we (Nat.le_trans w (by decide)))
theorem gd_mono {h h' W W' : Nat} {d : PyData} (g : GD h W d) (a : h ≤ h') (b : W ≤ W') : GD h' W' d := ⟨g.sh, g.di, Nat.le_trans g.de a, g.le, Nat.le_trans g.we b⟩
theorem rep_gdL {h W : Nat} {ds : List PyData} (g : GD h W (.list ds)) (a : h ≤ 60) (b : W ≤ 1000000) : repOk (.list ds) := ⟨g.sh, g.di, Nat.le_trans g.de a, gd_fits g b⟩
theorem rep_int {n : Int} (h : n.natAbs < 2 ^ 64) : repOk (.int n) := by
  show n.natAbs.log2 < 1920
  by_cases z : n.natAbs = 0
  · rw [z]
    decide
  · have := (Nat.log2_lt z).mpr h
    omega
theorem cut_0n (ds : List PyData) (b : Nat) : cutD ds none (some (b : Int)) = ds.take b := by
  unfold cutD
  rw [HT.sIx_nat, HT.sIx_none, List.drop_zero, Nat.sub_zero]
  by_cases h : b ≤ ds.length
  · rw [Nat.min_eq_left h]
  · rw [Nat.min_eq_right (by omega), List.take_of_length_le (by omega), List.take_of_length_le (by omega)]
theorem rng_mem {m : Nat} {d : PyData} (h : d ∈ rngD 0 m) : ∃ i : Nat, i < m ∧ d = .int (i : Nat) := by
  unfold rngD at h
  obtain ⟨k, mk, rfl⟩ := List.mem_map.mp h
  exact ⟨k, List.mem_range.mp mk, by rw [Int.zero_add]⟩
theorem ix_nat {ds : List PyData} {j : Nat} {d : PyData} {Q : PyData → Prop} (e : ds[j]? = some d) : ixD (.list ds) (.int (j : Nat)) Q = Q d := by
  unfold ixD
  simp only [atI_nat e]
theorem ix_natT {ds : List PyData} {j : Nat} {d : PyData} {Q : PyData → Prop} (e : ds[j]? = some d) : ixD (.tuple ds) (.int (j : Nat)) Q = Q d := by
  unfold ixD
  simp only [atI_nat e]
theorem ix_L0 {a : PyData} {l : List PyData} {Q : PyData → Prop} : ixD (.list (a :: l)) (.int 0) Q = Q a := by
  unfold ixD
  simp only [at_0]
theorem ix_L1 {a b : PyData} {l : List PyData} {Q : PyData → Prop} : ixD (.list (a :: b :: l)) (.int 1) Q = Q b := by
  unfold ixD
  simp only [at_1]
theorem ix_L2 {a b c : PyData} {l : List PyData} {Q : PyData → Prop} : ixD (.list (a :: b :: c :: l)) (.int 2) Q = Q c := by
  unfold ixD
  simp only [at_2]
theorem lay_all {ds : List PyData} (h : ∀ d ∈ ds, d.canLay0 = true) : PyData.canLayAll0 ds = true := by
  induction ds with
  | nil => rfl
  | cons d ds ih =>
    unfold PyData.canLayAll0
    rw [h d List.mem_cons_self, ih fun x m => h x (List.mem_cons_of_mem _ m)]
    rfl
theorem lay_tup {ds : List PyData} (h : ∀ d ∈ ds, d.canLay0 = true) : (PyData.tuple ds).canLay0 = true := by
  unfold PyData.canLay0
  exact lay_all h
theorem lay_lst {ds : List PyData} (h : ∀ d ∈ ds, d.canLay0 = true) : (PyData.list ds).canLay0 = true := by
  unfold PyData.canLay0
  exact lay_all h
theorem eqD_int {i j : Int} {Q : PyData → Prop} : eqD (.int i) (.int j) Q = Q (.bool (decide (i = j))) := rfl
theorem eqD_str {i j : Str} {Q : PyData → Prop} : eqD (.str i) (.str j) Q = Q (.bool (decide (i = j))) := rfl
theorem eqD_bl {i j : Bool} {Q : PyData → Prop} : eqD (.bool i) (.bool j) Q = Q (.bool (decide (i = j))) := rfl
theorem eqD_tuple {ds : List PyData} {y : PyData} {Q : PyData → Prop} : eqD (.tuple ds) y Q = (SeqAt.shaped (.tuple ds) = true ∧ SeqAt.shaped y = true ∧ Q (.bool (PyData.eqv (.tuple ds) y))) := rfl
theorem eqD_tupleR {ds : List PyData} {x : PyData} {Q : PyData → Prop} : eqD x (.tuple ds) Q = (SeqAt.shaped x = true ∧ SeqAt.shaped (.tuple ds) = true ∧ Q (.bool (PyData.eqv x (.tuple ds)))) := by cases x <;> rfl
theorem eqD_list {ds : List PyData} {y : PyData} {Q : PyData → Prop} : eqD (.list ds) y Q = (SeqAt.shaped (.list ds) = true ∧ SeqAt.shaped y = true ∧ Q (.bool (PyData.eqv (.list ds) y))) := rfl
theorem eqD_listR {ds : List PyData} {x : PyData} {Q : PyData → Prop} : eqD x (.list ds) Q = (SeqAt.shaped x = true ∧ SeqAt.shaped (.list ds) = true ∧ Q (.bool (PyData.eqv x (.list ds)))) := by cases x <;> rfl
theorem eqD_non {y : PyData} {Q : PyData → Prop} : eqD .none y Q = (SeqAt.shaped .none = true ∧ SeqAt.shaped y = true ∧ Q (.bool (PyData.eqv .none y))) := rfl
theorem eqD_of {x y : PyData} {Q : PyData → Prop} (sx : SeqAt.shaped x = true) (sy : SeqAt.shaped y = true) (q : Q (.bool (PyData.eqv x y))) : eqD x y Q := by
  unfold eqD
  split
  · rename_i i j
    rw [show PyData.eqv (.int i) (.int j) = decide (i = j) from Bool.eq_iff_iff.mpr (by simp [PyData.eqv])] at q
    exact q
  · rename_i i j
    rw [show PyData.eqv (.str i) (.str j) = decide (i = j) from Bool.eq_iff_iff.mpr (by simp [PyData.eqv])] at q
    exact q
  · rename_i i j
    rw [show PyData.eqv (.bool i) (.bool j) = decide (i = j) from Bool.eq_iff_iff.mpr (by simp [PyData.eqv])] at q
    exact q
  · exact ⟨sx, sy, q⟩
theorem neD_int {i j : Int} {Q : PyData → Prop} : neD (.int i) (.int j) Q = Q (.bool (!decide (i = j))) := rfl
theorem neD_str {i j : Str} {Q : PyData → Prop} : neD (.str i) (.str j) Q = Q (.bool (!decide (i = j))) := rfl
theorem neD_bl {i j : Bool} {Q : PyData → Prop} : neD (.bool i) (.bool j) Q = Q (.bool (!decide (i = j))) := rfl
theorem neD_tuple {ds : List PyData} {y : PyData} {Q : PyData → Prop} : neD (.tuple ds) y Q = (SeqAt.shaped (.tuple ds) = true ∧ SeqAt.shaped y = true ∧ Q (.bool (!PyData.eqv (.tuple ds) y))) := rfl
theorem neD_tupleR {ds : List PyData} {x : PyData} {Q : PyData → Prop} : neD x (.tuple ds) Q = (SeqAt.shaped x = true ∧ SeqAt.shaped (.tuple ds) = true ∧ Q (.bool (!PyData.eqv x (.tuple ds)))) := by cases x <;> rfl
theorem neD_list {ds : List PyData} {y : PyData} {Q : PyData → Prop} : neD (.list ds) y Q = (SeqAt.shaped (.list ds) = true ∧ SeqAt.shaped y = true ∧ Q (.bool (!PyData.eqv (.list ds) y))) := rfl
theorem neD_listR {ds : List PyData} {x : PyData} {Q : PyData → Prop} : neD x (.list ds) Q = (SeqAt.shaped x = true ∧ SeqAt.shaped (.list ds) = true ∧ Q (.bool (!PyData.eqv x (.list ds)))) := by cases x <;> rfl
theorem neD_non {y : PyData} {Q : PyData → Prop} : neD .none y Q = (SeqAt.shaped .none = true ∧ SeqAt.shaped y = true ∧ Q (.bool (!PyData.eqv .none y))) := rfl
theorem eqD_S {d : PyData} {z : Str} {Q : PyData → Prop} (hd : SeqAt.shaped d = true) (hz : PyData.strOk z = true) (q : Q (.bool (isS d z))) : eqD d (.str z) Q := by
  have e : PyData.eqv d (.str z) = isS d z := eqv_str d z
  refine eqD_of hd ?_ (by rw [e]; exact q)
  unfold SeqAt.shaped
  simp only [PyData.canLay0, hz, Bool.true_and]
  rfl
/-- .. and can be laid -/
def GL (h W : Nat) (d : PyData) : Prop := GD h W d ∧ d.canLay0 = true
theorem gl_mono {h h' W W' : Nat} {d : PyData} (g : GL h W d) (a : h ≤ h') (b : W ≤ W') : GL h' W' d := ⟨gd_mono g.1 a b, g.2⟩
theorem gl_tup {h W : Nat} (n : Nat) {ds : List PyData} (q : ∀ d ∈ ds, GL h W d) (l : ds.length ≤ n) : GL (h + 1) (n * (W + 1)) (.tuple ds) := ⟨gd_tup (fun d m => (q d m).1) l, lay_tup fun d m => (q d m).2⟩
theorem gl_lst {h W : Nat} (n : Nat) {ds : List PyData} (q : ∀ d ∈ ds, GL h W d) (l : ds.length ≤ n) : GL (h + 1) (n * (W + 1)) (.list ds) := ⟨gd_lst (fun d m => (q d m).1) l, lay_lst fun d m => (q d m).2⟩
theorem gl_all1 {h W : Nat} {a : PyData} (p : GL h W a) : ∀ d ∈ [a], GL h W d := fun d m => by
  rw [List.mem_singleton.mp m]
  exact p
theorem gl_allc {h W : Nat} {a : PyData} {l : List PyData} (p : GL h W a) (q : ∀ d ∈ l, GL h W d) : ∀ d ∈ a :: l, GL h W d := fun d m => by
  rcases List.mem_cons.mp m with rfl | m
  · exact p
  · exact q d m
theorem gl_repL {h W : Nat} {ds : List PyData} (g : GL h W (.list ds)) (a : h ≤ 60) (b : W ≤ 1000000) : repOk (.list ds) := rep_gdL g.1 a b
end Dl
set_option Elab.async false
set_option linter.all false
set_option maxRecDepth 100000
set_option maxHeartbeats 4000000
namespace SoG
open PySem PySem.Spec PyProof.Rows L2 So
/-- a law's def where it is called from outside: there nothing is under way -/
def GOk (Pg : Program) (w : World) (K : PySem.W.Frag) (mg : Str → Option Value) (base : Heap) (f : Addr) (fd : FuncData) (sp : Sp) : Prop :=
  ∀ (s : Shared) (H : Hp) (u : Value) (v : V) (Q : VK) (E : XK), Env0 Pg w K mg base callerA [] s H → BindsTo s fd ⟨[u], []⟩ [("script", u)] → RelV v u → sp [v] H Q E → codeAny (model Pg w) callerA (.call (.ref f) ⟨[u], []⟩) (CR CX0 [] Pg w H s Q E) s
section
variable {Pg : Program} {w : World} {K : PySem.W.Frag} {mg : Str → Option Value} {base : Heap}
end
end SoG
set_option Elab.async false
set_option linter.all false
set_option maxRecDepth 100000
set_option maxHeartbeats 4000000
namespace SoG3
open PySem PySem.Spec PyProof.Rows L2 So SoG
noncomputable def h0 (K : PySem.W.Frag) (a : Addr) (Ts : List Addr) (o : Obj) (xs : List V) : Hp := fun b =>
  if b ∈ Ts then some (.tbl #[]) else if b = a ∧ K.lookup a = none then some (.frz o (.lst xs)) else none
section
variable {K : PySem.W.Frag} {a : Addr} {Ts : List Addr} {o : Obj} {xs : List V}
theorem h0_T {T : Addr} (m : T ∈ Ts) : h0 K a Ts o xs T = some (.tbl #[]) := if_pos m
theorem h0_a (n : a ∉ Ts) (h : K.lookup a = none) : h0 K a Ts o xs a = some (.frz o (.lst xs)) := (if_neg n).trans (if_pos ⟨rfl, h⟩)
theorem h0_one {b : Addr} {u : HO} (h : h0 K a Ts o xs b = some u) : (b ∈ Ts ∧ u = .tbl #[]) ∨ (b ∉ Ts ∧ b = a ∧ K.lookup a = none ∧ u = .frz o (.lst xs)) := by
  by_cases e : b ∈ Ts
  · exact .inl ⟨e, Option.some.inj (((if_pos e).symm.trans h).symm)⟩
  · have h' := (if_neg e).symm.trans h
    by_cases e2 : b = a ∧ K.lookup a = none
    · exact .inr ⟨e, e2.1, e2.2, Option.some.inj ((if_pos e2).symm.trans h').symm⟩
    · exact nomatch (if_neg e2).symm.trans h'
end
variable {Pg : Program} {w : World} {K : PySem.W.Frag} {mg mb : Str → Option Value} {fa a : Addr} {cs : List (Addr × Addr)} {fd : FuncData} {sp : Sp} {s : Shared} {vs : List Value} {ns : List Int}
/-- the law is called: what GOk says of it is the law's truth -/
theorem law_end (KX : K.In s.heap) (hG : s.heap.Ns mainGlobals mg) (hB : s.heap.Ns builtinsNs mb) (hBB : ∀ x : Str, x ≠ "__name__" → mb x = bootBuiltins x) (hL : s.heap.NoLimit) (hg : s.gens = #[])
    (tT : ∀ p ∈ cs, s.heap.get? p.2 = some { cls := .none, data := .fields #[] }) (nT : ∀ p ∈ cs, K.lookup p.2 = none) (Cd : ∀ p ∈ cs, PySem.W.CodeHd s.heap p.1 p.2)
    (bm : ∃ (m : Addr) (ob : Obj), mg "__builtins__" = some (.ref m) ∧ m ≠ builtinsNs ∧ s.heap.get? m = some ob ∧ ob.cls = .type "module" ∧ ob.dict = some builtinsNs ∧ ob.data = .plain)
    (ha : s.heap.get? a = some { cls := .type "list", data := .seq vs.toArray }) (hi : IntsAre vs ns) (hl : ns.length ≤ sizeLine)
    (F : ∀ base : Heap, K.In base → base.Ns mainGlobals mg → (∀ p ∈ cs, GxR.TabB base mg p.1 p.2) → GOk Pg w K mg base fa fd sp) (hb : ∀ (s : Shared) (u : Value), BindsTo s fd ⟨[u], []⟩ [("script", u)])
    (hsp : ∀ H : Hp, (∀ p ∈ cs, H p.2 = some (.tbl #[])) → SqL K H a (ns.map V.int) → sp [.ref a] H (fun v _ => v = .bl true) fun _ _ _ => False) :
    codeAny (model Pg w) callerA (.call (.ref fa) ⟨[.ref a], []⟩) (fun r s' => r = .ok (.ret (.bool true)) ∧ OldK s.heap s'.heap ∧ s'.os = s.os ∧ AllBare s'.gens) s := by
  have vi := vals_ints hi
  have lv := hi.length
  have memT : ∀ {b : Addr}, b ∈ cs.map (·.2) → ∃ p ∈ cs, p.2 = b := fun m => List.mem_map.mp m
  have tT' : ∀ {b : Addr}, b ∈ cs.map (·.2) → s.heap.get? b = some { cls := .none, data := .fields #[] } := fun m => by
    obtain ⟨p, hp, rfl⟩ := memT m
    exact tT p hp
  have nT' : ∀ {b : Addr}, b ∈ cs.map (·.2) → K.lookup b = none := fun m => by
    obtain ⟨p, hp, rfl⟩ := memT m
    exact nT p hp
  have aT : a ∉ cs.map (·.2) := fun z => by
    rw [tT' z] at ha
    exact nomatch congrArg Obj.data (Option.some.inj ha)
  obtain ⟨H, hH⟩ : ∃ H, H = h0 K a (cs.map (·.2)) { cls := .type "list", data := .seq vs.toArray } (ns.map V.int) := ⟨_, rfl⟩
  have free : ∀ {b : Addr} {ob : Obj}, s.heap.get? b = some ob → (∀ us n, ob.data ≠ .seq us n) → ob.data ≠ .fields #[] → H b = none := by
    intro b ob e n1 n2
    cases q : H b with
    | none => rfl
    | some u =>
      rw [hH] at q
      rcases h0_one q with ⟨m, _⟩ | ⟨_, rfl, _, _⟩
      · rw [tT' m] at e
        cases e
        exact absurd rfl n2
      · rw [ha] at e
        cases e
        exact absurd rfl (n1 _ _)
  have get : ∀ {b : Addr} {ob : Obj}, s.heap.get? b = some ob → H b = none → (hidT s.heap H).get? b = some ob := hidT_get
  have dic : ∀ {b : Addr} {ob : Obj} {es : Array DictEntry} {n : Nat}, s.heap.get? b = some ob → ob.data = .dict es n → (hidT s.heap H).get? b = some ob := fun e d =>
    get e (free e (fun _ _ z => nomatch d.symm.trans z) fun z => nomatch d.symm.trans z)
  have nsp : ∀ {b : Addr} {m : Str → Option Value}, s.heap.Ns b m → (hidT s.heap H).Ns b m := by
    rintro b m ⟨ob, es, n, e, d, rest⟩
    exact ⟨ob, es, n, dic e d, d, rest⟩
  have KH : K.In (hidT s.heap H) := by
    intro b ob e
    refine get (KX b ob e) ?_
    cases q : H b with
    | none => rfl
    | some u =>
      rw [hH] at q
      rcases h0_one q with ⟨m, _⟩ | ⟨_, rfl, na, _⟩
      · rw [nT' m] at e
        cases e
      · rw [na] at e
        cases e
  have tab : ∀ p ∈ cs, GxR.TabB (hidT s.heap H) mg p.1 p.2 := by
    intro p hp
    have tTp := tT p hp
    constructor
    · obtain ⟨ob, us, file, tf, flags, tg, inF, text, tt, e, r1, r2, r3, rest⟩ := Cd p hp
      refine ⟨ob, us, file, tf, flags, tg, inF, text, tt, get e (free e (fun _ _ z => nomatch r2.symm.trans z) fun z => ?_), r1, r2, r3, rest⟩
      cases r2.symm.trans z
      exact nomatch r3
    · obtain ⟨m, ob, b1, b2, b3, b4, b5, b6⟩ := bm
      refine ⟨m, ob, b1, b2, fun q => ?_, fun q => ?_, get b3 (free b3 (fun _ _ z => nomatch b6.symm.trans z) fun z => nomatch b6.symm.trans z), b4, b5, b6⟩
      · obtain ⟨_, _, _, e, d, _⟩ := hG
        rw [← q, b3] at e
        cases e
        exact nomatch b6.symm.trans d
      · rw [q, tTp] at b3
        cases b3
        exact nomatch b6
    · intro z
      obtain ⟨_, _, _, e, d, _⟩ := hG
      rw [z, tTp] at e
      cases e
      exact nomatch d
  have hok : HOk Pg w H s.heap := by
    intro b u q
    rw [hH] at q
    rcases h0_one q with ⟨m, rfl⟩ | ⟨_, rfl, _, rfl⟩
    · exact tT' m
    · exact ⟨ha, by rw [List.length_map]; exact hl, vs, _, vi, ha⟩
  have sq : SqL K H a (ns.map V.int) := by
    cases q : K.lookup a with
    | none => exact .inl (.inr ⟨_, by rw [hH]; exact h0_a aT q⟩)
    | some ob =>
      have e := KX a ob q
      rw [ha] at e
      cases e
      exact .inr ⟨_, vs.toArray, _, q, rfl, rfl, rfl, by rw [List.size_toArray, lv]; exact hl, by simpa using vi⟩
  have hT : ∀ p ∈ cs, H p.2 = some (.tbl #[]) := fun p hp => by
    rw [hH]
    exact h0_T (List.mem_map.mpr ⟨p, hp, rfl⟩)
  have e0 : Env0 Pg w K mg (hidT s.heap H) callerA [] s H :=
    { frames := rfl
      mod := ⟨KH, nsp hG, ⟨mb, nsp hB, hBB⟩, hL.imp fun _ z => ⟨nsp z.1, z.2⟩⟩
      bs := fun _ _ e => of_hidT e
      bsz := Nat.le_of_eq (hidT_size _ _)
      funs := trivial
      frf := fun _ z => nomatch z
      hok := hok
      bare := .of_eq hg }
  refine codeAny_mono (F _ KH (nsp hG) tab s H (.ref a) (.ref a) _ _ e0 (hb s _) rfl (hsp H hT sq)) fun r s' h => ?_
  match r, h with
  | .ok (.ret u), ⟨v, H', os, bare, un, hok', rv, e⟩ =>
    cases e
    cases (show u = Value.bool true from rv)
    have gT : ∀ p ∈ cs, ∃ more, s'.heap.get? p.2 = some { cls := .none, data := .fields more } := fun p hp => by
      obtain ⟨more, z⟩ := un.tbls p.2 #[] (hT p hp)
      have := hok' p.2 _ z
      rw [Array.empty_append] at this
      exact ⟨more, this⟩
    have key : ∀ b ob, b ∉ cs.map (·.2) → s.heap.get? b = some ob → s'.heap.get? b = some ob := by
      intro b ob n e
      cases q : H b with
      | none => exact un.keep b ob e q (fun z => nomatch z) (fun z => nomatch z)
      | some u =>
        have q' := q
        rw [hH] at q'
        rcases h0_one q' with ⟨m, _⟩ | ⟨_, rfl, _, rfl⟩
        · exact absurd m n
        · rw [ha] at e
          cases e
          exact (hok' _ _ (un.frzs _ _ _ q)).1
    refine ⟨rfl, ⟨fun b ob e => ?_, fun b ob e => ?_⟩, os, bare⟩
    · by_cases n : b ∈ cs.map (·.2)
      · obtain ⟨p, hp, rfl⟩ := memT n
        rw [tT p hp] at e
        cases e
        obtain ⟨more, gp⟩ := gT p hp
        exact .inr (.inl ⟨((Cd p hp).tab (tT p hp)).isCodeTable, rfl, #[], more, rfl, by rw [Array.empty_append]; exact gp⟩)
      · exact .inl (key b ob n e)
    · by_cases n : b ∈ cs.map (·.2)
      · obtain ⟨p, hp, rfl⟩ := memT n
        obtain ⟨more, gp⟩ := gT p hp
        exact ⟨_, gp⟩
      · exact ⟨_, key b ob n e⟩
  | .error e, h => exact h.elim
  | .ok .next, h => exact h.elim
  | .ok .brk, h => exact h.elim
  | .ok .cont, h => exact h.elim
end SoG3
set_option Elab.async false
set_option linter.all false
set_option maxRecDepth 100000
set_option maxHeartbeats 4000000
namespace Dl
open PySem PySem.Spec PyProof PyProof.Rows L2 So Da
theorem tab_mk {K : PySem.W.Frag} {x : Str} {f c P : Addr} {o1 : Value} {o2 : Option Addr} {o3 : Array (Option Value)} {fd : FuncData} {e1 : Value} {e2 : Option Addr} {vs : Array Value} {e3 : Array (Option Value)} (a : PySem.W.nsIn K mainGlobals x = some (some (.ref f))) (l : K.lookup f = some ⟨o1, o2, .func fd, o3⟩) (hc : fd.code = .ref c)
    (lc : K.lookup c = some ⟨e1, e2, .fields vs, e3⟩) (hp : vs[11]? = some (.ref P)) : PySem.W.tabIn K x = some (c, P) := by
  unfold PySem.W.tabIn
  rw [a]
  dsimp only
  rw [l]
  dsimp only
  rw [hc]
  dsimp only
  rw [lc]
  dsimp only
  rw [hp]
theorem exm_self {K : PySem.W.Frag} {S : Addr} (h1 : PySem.W.subIn K (.ref S) (.type "BaseException") = some true) (h2 : PySem.W.isClsIn K S = true) (h3 : PySem.W.typeIn K (.ref S) = some (.type "type")) (h4 : PySem.W.subIn K (.ref S) (.ref S) = some true) :
    PySem.W.exmOne K (.ref S) (.ref S) = some true := by
  have e1 : (PySem.W.subIn K (.ref S) (.type "BaseException") == some true) = true := by rw [h1] <;> rfl
  have e2 : ((PySem.W.clsIn K S).isSome && PySem.W.typeIn K (.ref S) == some (.type "type")) = true := by
    have h2' : (PySem.W.clsIn K S).isSome = true := h2
    rw [h2', h3] <;> rfl
  show (if (PySem.W.subIn K (.ref S) (.type "BaseException") == some true) = true then (if ((PySem.W.clsIn K S).isSome && PySem.W.typeIn K (.ref S) == some (.type "type")) = true then PySem.W.subIn K (.ref S) (.ref S) else none) else none) = some true
  rw [if_pos e1, if_pos e2]
  exact h4
theorem exm_no {K : PySem.W.Frag} {E S : Addr} (h1 : PySem.W.subIn K (.ref S) (.type "BaseException") = some true) (h2 : PySem.W.isClsIn K S = true) (h3 : PySem.W.typeIn K (.ref S) = some (.type "type")) (h4 : PySem.W.subIn K (.ref E) (.ref S) = some false) :
    PySem.W.exmOne K (.ref E) (.ref S) = some false := by
  have e1 : (PySem.W.subIn K (.ref S) (.type "BaseException") == some true) = true := by rw [h1] <;> rfl
  have e2 : ((PySem.W.clsIn K S).isSome && PySem.W.typeIn K (.ref S) == some (.type "type")) = true := by
    have h2' : (PySem.W.clsIn K S).isSome = true := h2
    rw [h2', h3] <;> rfl
  show (if (PySem.W.subIn K (.ref S) (.type "BaseException") == some true) = true then (if ((PySem.W.clsIn K S).isSome && PySem.W.typeIn K (.ref S) == some (.type "type")) = true then PySem.W.subIn K (.ref E) (.ref S) else none) else none) = some false
  rw [if_pos e1, if_pos e2]
  exact h4
/-- what the law is called with, and what it has to come to -/
def spLawS (K : PySem.W.Frag) (Ps : List Addr) : Sp := fun vs H Q _ => ∃ (a : Addr) (ns : List Int), vs = [.ref a] ∧ (∀ P ∈ Ps, H P = some (.tbl #[])) ∧ SqL K H a (ns.map V.int) ∧ ns.length ≤ 63 ∧ ∀ H', Q (.bl true) H'
theorem start_rep {Z : Zw} {H : Hp} {a : Addr} {ns : List Int} (hT : ∀ P ∈ Z.T.P :: Z.T.L.map (fun p => p.1), H P = some (.tbl #[])) (hS : SqL Z.K H a (ns.map V.int)) : ∃ G, Tg G Z.T ∧ Rep Z [] G [Lc.sh (PyData.list (ns.map PyData.int))] (([V.ref a] : List V).map some) H := by
  let G : Hp := fun b => if b ∈ Z.T.P :: Z.T.L.map (·.1) then some (.tbl #[]) else if b = a then match H a with
    | some (.lst xs) => some (.lst xs)
    | some (.frz ob (.lst xs)) => some (.frz ob (.lst xs))
    | _ => none
    else none
  have gT : ∀ {b}, b ∈ Z.T.P :: Z.T.L.map (·.1) → G b = some (.tbl #[]) := fun m => if_pos m
  have sub : Sub G H := fun b o e => by
    by_cases m : b ∈ Z.T.P :: Z.T.L.map (·.1)
    · rw [gT m] at e
      cases e
      exact hT b m
    · rw [show G b = _ from if_neg m] at e
      by_cases z : b = a
      · rw [if_pos z] at e
        rw [z]
        split at e
        · rename_i q
          rw [q, ← e]
        · rename_i q
          rw [q, ← e]
        · cases e
      · rw [if_neg z] at e
        cases e
  have tg : Tg G Z.T := ⟨⟨#[], gT List.mem_cons_self, by simp [TriplesOk]⟩, fun p hp => ⟨#[], gT (List.mem_cons_of_mem _ (List.mem_map.mpr ⟨p, hp, rfl⟩)), by simp [TriplesOk], fun pos cv z => nomatch z⟩⟩
  have nt : NT G := fun b o e => by
    by_cases m : b ∈ Z.T.P :: Z.T.L.map (·.1)
    · rw [gT m] at e
      cases e
      trivial
    · rw [show G b = _ from if_neg m] at e
      by_cases z : b = a
      · rw [if_pos z] at e
        split at e
        · cases e
          trivial
        · cases e
          trivial
        · cases e
      · rw [if_neg z] at e
        cases e
  have sq : SqL Z.K G a (ns.map V.int) := by
    rcases hS with (h | ⟨ob, h⟩) | h
    · have na : a ∉ Z.T.P :: Z.T.L.map (·.1) := fun m => by rw [hT a m] at h; cases h
      exact .inl (.inl (((if_neg na).trans (if_pos rfl)).trans (by rw [h])))
    · have na : a ∉ Z.T.P :: Z.T.L.map (·.1) := fun m => by rw [hT a m] at h; cases h
      exact .inl (.inr ⟨ob, ((if_neg na).trans (if_pos rfl)).trans (by rw [h])⟩)
    · exact .inr h
  refine ⟨G, tg, rfl, fun {i D} e => ?_, fun {i b c} e => ?_, fun {i b C d D} e => ?_, fun {i O} e => ?_, fun {i j b c c'} e e' => ?_, fun m => absurd m List.not_mem_nil, sub, nt⟩
  · match i, e with
    | 0, e =>
      cases e
      exact ⟨.ref a, rfl, .lst sq dpa_of_ints⟩
    | i + 1, e => simp at e
  · match i, e with
    | 0, e => cases e
    | i + 1, e => simp at e
  · match i, e with
    | 0, e => cases e
    | i + 1, e => simp at e
  · match i, e with
    | 0, e => cases e
    | i + 1, e => simp at e
  · match i, e with
    | 0, e => cases e
    | i + 1, e => simp at e
theorem law_go {Z : Zw} {k : Nat} {f : Addr} {fd : FuncData} {T : TD} (F : FnD Z.Pg Z.w Z.K Z.mg Z.base CX0 k f fd ["script"] (spT Z T)) (hr : Room k callerA)
    (hT : ∀ (ns : List Int) (Q : PyData → List Lc → Prop) (er : EK), ns.length ≤ 63 → (∀ as, Q (.bool true) as) → T [.sh (.list (ns.map .int))] Q er) : SoG.GOk Z.Pg Z.w Z.K Z.mg Z.base f fd (spLawS Z.K (Z.T.P :: Z.T.L.map (·.1))) :=
  fun s H u v Q E e0 hb r ⟨a, ns, e, ht, sq, l, q⟩ => by
    cases e
    refine F.run callerA [] s H ⟨[u], []⟩ [u] [.ref a] Q E hr rfl e0 hb (.cons r .nil) ?_
    obtain ⟨G, tg, R⟩ := start_rep ht sq
    refine ⟨G, _, fun D _ => D = .bool true, fun _ => False, tg, R, hT ns _ _ l (fun _ => rfl), fun D as' v G' H' e _ _ _ d => ?_, fun _ _ _ _ _ _ z => z.elim⟩
    subst e
    cases d
    exact q H'
end Dl
set_option Elab.async false
set_option linter.all false
set_option maxRecDepth 100000
set_option maxHeartbeats 4000000
namespace Dl
open PySem PySem.Spec PyProof PyProof.Rows L2 So Da
theorem so_list {l : List Nat} : PyData.strOk ⟨l.toArray⟩ = l.all (· < 0x110000) := by
  unfold PyData.strOk
  rw [← Array.all_toList]
theorem so_of {x : Str} : PyData.strOk x = x.cps.toList.all (· < 0x110000) := by
  unfold PyData.strOk
  rw [← Array.all_toList]
theorem so_chars : ∀ l : List Char, (l.map Char.toNat).all (· < 0x110000) = true
  | [] => rfl
  | c :: l => by
    rw [List.map_cons, List.all_cons, so_chars l, Bool.and_true]
    have hc : c.toNat < 1114112 := by
      have h := c.valid
      simp only [UInt32.isValidChar, Nat.isValidChar] at h
      show c.val.toNat < 1114112
      omega
    exact decide_eq_true hc
theorem so_str (s : String) : PyData.strOk (Str.ofString s) = true := by
  rw [Str.ofString_eq_toList, so_list]
  exact so_chars _
theorem so_app {a b : Str} (h : PyData.strOk a = true) (k : PyData.strOk b = true) : PyData.strOk (a ++ b) = true := by
  rw [so_of] at h k ⊢
  show (a.cps ++ b.cps).toList.all _ = true
  rw [Array.toList_append, List.all_append, h, k]
  rfl
theorem so_join {s : Str} (h : PyData.strOk s = true) : ∀ {ts : List Str}, (∀ t ∈ ts, PyData.strOk t = true) → PyData.strOk (Str.join s ts) = true
  | [], _ => so_str ""
  | [x], k => k x List.mem_cons_self
  | x :: y :: r, k => so_app (so_app (k x List.mem_cons_self) h) (so_join h fun t m => k t (List.mem_cons_of_mem _ m))
theorem so_from : ∀ {ts : List Str} {k : Nat} {acc : Str}, PyData.strOk acc = true → (∀ t ∈ ts, PyData.strOk t = true) → PyData.strOk (textFrom k acc ts) = true
  | [], _, _, h, _ => h
  | t :: ts, k, acc, h, q => by
    unfold textFrom
    exact so_from (so_app (so_app h (so_str _)) (q t List.mem_cons_self)) fun u m => q u (List.mem_cons_of_mem _ m)
theorem so_char {q c : Nat} (hq : q < 0x110000) (hc : c < 0x110000) : (Builtin.Str.reprChar q c).all (· < 0x110000) = true := by
  have hx : ∀ w, (List.replicate (w - ((Nat.toDigits 16 c).map Char.toNat).length) 48 ++ (Nat.toDigits 16 c).map Char.toNat).all (· < 0x110000) = true := fun w => by
    rw [List.all_append, so_chars, Bool.and_true, List.all_eq_true]
    intro x m
    rw [List.eq_of_mem_replicate m]
    rfl
  unfold Builtin.Str.reprChar
  dsimp only
  split
  · simp [hc]
  split
  · rfl
  split
  · rfl
  split
  · rfl
  split
  · simp [hc]
  split
  · rw [List.all_append, hx 2]
    rfl
  split
  · rw [List.all_append, hx 4]
    rfl
  · rw [List.all_append, hx 8]
    rfl
theorem so_foldr {q : Nat} (hq : q < 0x110000) : ∀ {l : List Nat} {acc : Array Nat}, l.all (· < 0x110000) = true → acc.toList.all (· < 0x110000) = true → (l.foldl (fun out c => out ++ (Builtin.Str.reprChar q c).toArray) acc).toList.all (· < 0x110000) = true
  | [], _, _, h => h
  | c :: l, acc, k, h => by
    rw [List.all_cons, Bool.and_eq_true] at k
    rw [List.foldl_cons]
    refine so_foldr hq k.2 ?_
    rw [Array.toList_append, List.all_append, h, so_char hq (of_decide_eq_true k.1)]
    rfl
theorem so_repr {x : Str} (h : PyData.strOk x = true) : PyData.strOk (reprText x) = true := by
  have hq : reprQuote x < 0x110000 := by unfold reprQuote; split <;> decide
  rw [so_of] at h ⊢
  unfold reprText
  show ((x.cps.foldl (fun out c => out ++ (Builtin.Str.reprChar (reprQuote x) c).toArray) #[reprQuote x]).push (reprQuote x)).toList.all _ = true
  rw [Array.toList_push, List.all_append, ← Array.foldl_toList, so_foldr hq h (by simp [hq])]
  simp [hq]
mutual
theorem so_shown : ∀ {D : PyData}, D.canLay0 = true → PyData.strOk D.shown = true
  | .none, _ => so_str _
  | .bool b, _ => by cases b <;> exact so_str _
  | .int i, _ => so_str _
  | .str x, h => by
    simp only [PyData.canLay0] at h
    exact so_repr h
  | .list ds, h => by
    simp only [PyData.canLay0] at h
    exact so_app (so_from (so_str _) (so_shownA h)) (so_str _)
  | .tuple ds, h => by
    simp only [PyData.canLay0] at h
    exact so_app (so_app (so_str _) (so_join (so_str _) (so_shownA h))) (so_str _)
  | .dict _, h => by simp [PyData.canLay0] at h
theorem so_shownA : ∀ {Ds : List PyData}, PyData.canLayAll0 Ds = true → ∀ t ∈ PyData.shownAll Ds, PyData.strOk t = true
  | [], _, t, m => nomatch m
  | d :: ds, h, t, m => by
    unfold PyData.canLayAll0 at h
    rw [Bool.and_eq_true] at h
    rcases List.mem_cons.mp m with rfl | m
    · exact so_shown h.1
    · exact so_shownA h.2 t m
end
theorem so_rep {D : PyData} (h : D.canLay0 = true) : PyData.strOk (repD D) = true := by
  cases D with
  | none => exact so_str _
  | bool b => cases b <;> exact so_str _
  | int i => exact so_str _
  | str x => exact so_repr (by simpa only [PyData.canLay0] using h)
  | list ds => exact so_shown h
  | tuple ds => exact so_shown h
  | dict ds => simp [PyData.canLay0] at h
/-- (text, b), ('word', .., text) and the like can be compared -/
theorem sh_flat {ds : List PyData} (h : ∀ d ∈ ds, d.canLay0 = true ∧ flatD d = true) : SeqAt.shaped (.tuple ds) = true := by
  unfold SeqAt.shaped
  have e : PyData.depthAll ds = 0 := by
    induction ds with
    | nil => rfl
    | cons d ds ih =>
      have h0 : d.depth = 0 := by
        have := (h d List.mem_cons_self).2
        cases d <;> first | rfl | exact nomatch this
      simp only [PyData.depthAll]
      rw [h0, ih fun x m => h x (List.mem_cons_of_mem _ m)]
      rfl
  rw [lay_tup fun d m => (h d m).1, show (PyData.tuple ds).depth = PyData.depthAll ds + 1 from rfl, e]
  rfl
theorem eqv_l {D : PyData} (h : D.canLay0 = true) : PyData.eqv D D = true := PySem.SeqAt.eqv_refl D h
end Dl
set_option Elab.async false
set_option linter.all false
namespace Dl
open PySem PySem.Spec PyProof PyProof.Rows L2 So Da
section
variable {Q : PyData → Prop} {k : List PyData → Prop} {i j : Int} {x y : Str} {b : Bool} {ds es : List PyData} {lo hi : Option Int}
theorem itemsD_L : itemsD (.list ds) k = k ds := rfl
theorem itemsD_T : itemsD (.tuple ds) k = k ds := rfl
theorem tupleD_L : tupleD (.list ds) Q = Q (.tuple ds) := rfl
theorem tupleD_T : tupleD (.tuple ds) Q = Q (.tuple ds) := rfl
theorem listD_L : listD (.list ds) Q = Q (.list ds) := rfl
theorem listD_T : listD (.tuple ds) Q = Q (.list ds) := rfl
theorem lenD_L : lenD (.list ds) Q = Q (.int (ds.length : Nat)) := rfl
theorem lenD_T : lenD (.tuple ds) Q = Q (.int (ds.length : Nat)) := rfl
theorem lenD_S : lenD (.str x) Q = (x.length ≤ sizeLine ∧ Q (.int (x.length : Nat))) := rfl
theorem slD_L : slD (.list ds) lo hi Q = Q (.list (cutD ds lo hi)) := rfl
theorem slD_T : slD (.tuple ds) lo hi Q = Q (.tuple (cutD ds lo hi)) := rfl
theorem addD_I : addD (.int i) (.int j) Q = Q (.int (i + j)) := rfl
theorem addD_S : addD (.str x) (.str y) Q = (x.length + y.length ≤ sizeLine ∧ Q (.str (x ++ y))) := rfl
theorem addD_T : addD (.tuple ds) (.tuple es) Q = (ds.length + es.length ≤ sizeLine ∧ Q (.tuple (ds ++ es))) := rfl
theorem addD_L : addD (.list ds) (.list es) Q = (ds.length + es.length ≤ sizeLine ∧ Q (.list (ds ++ es))) := rfl
theorem subD_I : subD (.int i) (.int j) Q = Q (.int (i - j)) := rfl
theorem mulD_I : mulD (.int i) (.int j) Q = (CMul i j ∧ Q (.int (i * j))) := rfl
theorem ltD_I : ltD (.int i) (.int j) Q = Q (.bool (decide (i < j))) := rfl
theorem ltD_S : ltD (.str x) (.str y) Q = Q (.bool (decide (x.cps.toList < y.cps.toList))) := rfl
theorem leD_I : leD (.int i) (.int j) Q = Q (.bool (decide (i ≤ j))) := rfl
theorem gtD_I : gtD (.int i) (.int j) Q = Q (.bool (decide (j < i))) := rfl
theorem geD_I : geD (.int i) (.int j) Q = Q (.bool (decide (j ≤ i))) := rfl
theorem modD_I : modD (.int i) (.int j) Q = (0 < j ∧ Q (.int (i % j))) := rfl
theorem fdivD_I : fdivD (.int i) (.int j) Q = ((0 < j ∧ j < 1073741824) ∧ Q (.int (i / j))) := rfl
theorem powD_I : powD (.int i) (.int j) Q = (CPow i j ∧ Q (.int (i ^ j.toNat))) := rfl
theorem intD_I : Dl.intD (.int i) Q = Q (.int i) := rfl
theorem intD_B : Dl.intD (.bool b) Q = Q (.int (if b = true then 1 else 0)) := rfl
theorem negD_I : negD (.int i) Q = Q (.int (-i)) := rfl
theorem isND_N : isND .none = true := rfl
theorem isND_I : isND (.int i) = false := rfl
theorem isND_S : isND (.str x) = false := rfl
theorem isND_B : isND (.bool b) = false := rfl
theorem isND_T : isND (.tuple ds) = false := rfl
theorem isND_L : isND (.list ds) = false := rfl
theorem sq_T : isSq (.tuple ds) = true := rfl
theorem sq_L : isSq (.list ds) = true := rfl
theorem sq_N : isSq .none = false := rfl
theorem sq_I : isSq (.int i) = false := rfl
theorem sq_S : isSq (.str x) = false := rfl
theorem sq_B : isSq (.bool b) = false := rfl
end
/-- for readings -/
theorem hiD' {D : PyData} (hs : isSq D = true) {k : List PyData → Prop} (h : k (itD D)) : itemsD D k := by
  cases D <;> first | exact h | exact nomatch hs
theorem htD {D : PyData} (hs : isSq D = true) {k : PyData → Prop} (h : k (.tuple (itD D))) : tupleD D k := by
  cases D <;> first | exact h | exact nomatch hs
theorem hxD {D d : PyData} (hs : isSq D = true) {i : Nat} {k : PyData → Prop} (e : (itD D)[i]? = some d) (h : k d) : ixD D (.int (i : Nat)) k := by
  cases D with
  | list ds => exact (ix_nat (Q := k) (show ds[i]? = some d from e)).symm ▸ h
  | tuple ds => exact (ix_natT (Q := k) (show ds[i]? = some d from e)).symm ▸ h
  | _ => exact nomatch hs
theorem fit_all {ds : List PyData} (h : ∀ d ∈ ds, fitD d = true) : fitA ds = true := by
  induction ds with
  | nil => rfl
  | cons d ds ih =>
    unfold fitA
    rw [h d List.mem_cons_self, ih fun x m => h x (List.mem_cons_of_mem _ m)]
    rfl
theorem dep_all {n : Nat} {ds : List PyData} (h : ∀ d ∈ ds, d.depth ≤ n) : PyData.depthAll ds ≤ n := by
  induction ds with
  | nil => exact Nat.zero_le _
  | cons d ds ih =>
    simp only [PyData.depthAll]
    exact Nat.max_le.mpr ⟨h d List.mem_cons_self, ih fun x m => h x (List.mem_cons_of_mem _ m)⟩
/-- as OkD, with the depth told -/
structure OkN (n : Nat) (d : PyData) : Prop where
  fit : fitD d = true
  lay : d.canLay0 = true
  dep : d.depth ≤ n
theorem OkN.ok {n : Nat} {d : PyData} (h : OkN n d) (l : n ≤ 50) : OkD d := ⟨h.fit, h.lay, Nat.le_trans h.dep l⟩
theorem OkN.mono {n m : Nat} {d : PyData} (h : OkN n d) (l : n ≤ m) : OkN m d := ⟨h.fit, h.lay, Nat.le_trans h.dep l⟩
theorem okn_L {n : Nat} {ds : List PyData} (h : ∀ d ∈ ds, OkN n d) (l : ds.length ≤ 100000) : OkN (n + 1) (.list ds) := ⟨by
  unfold fitD
  rw [decide_eq_true l, fit_all fun d m => (h d m).fit]
  rfl, lay_lst fun d m => (h d m).lay, by simp only [PyData.depth]; exact Nat.succ_le_succ (dep_all fun d m => (h d m).dep)⟩
theorem okn_T {n : Nat} {ds : List PyData} (h : ∀ d ∈ ds, OkN n d) (l : ds.length ≤ 100000) : OkN (n + 1) (.tuple ds) := ⟨by
  unfold fitD
  rw [decide_eq_true l, fit_all fun d m => (h d m).fit]
  rfl, lay_tup fun d m => (h d m).lay, by simp only [PyData.depth]; exact Nat.succ_le_succ (dep_all fun d m => (h d m).dep)⟩
theorem okn_str {z : Str} (l : z.length ≤ 100000) (h : (PyData.str z).canLay0 = true) : OkN 0 (.str z) := ⟨decide_eq_true l, h, Nat.le_refl _⟩
theorem okn_int {i : Int} : OkN 0 (.int i) := ⟨rfl, rfl, Nat.le_refl _⟩
theorem okn_non : OkN 0 .none := ⟨rfl, rfl, Nat.le_refl _⟩
theorem all_1 {p : PyData → Prop} {a : PyData} (h : p a) : ∀ d ∈ [a], p d := fun d m => by
  rw [List.mem_singleton.mp m]
  exact h
theorem all_c {p : PyData → Prop} {a : PyData} {l : List PyData} (h : p a) (k : ∀ d ∈ l, p d) : ∀ d ∈ a :: l, p d := fun d m => by
  rcases List.mem_cons.mp m with rfl | m
  · exact h
  · exact k d m
theorem all_m {α : Type} {p : PyData → Prop} {f : α → PyData} {l : List α} (h : ∀ a ∈ l, p (f a)) : ∀ d ∈ l.map f, p d := fun d m => by
  obtain ⟨a, ma, rfl⟩ := List.mem_map.mp m
  exact h a ma
end Dl
set_option Elab.async false
set_option linter.all false
set_option maxRecDepth 100000
namespace Dl
open PySem PySem.Spec PyProof PyProof.Rows L2 So Da
section
variable {P : Tb} {G0 : Hp} {n : Nat} {X : Cx} {x : Str} {p pos : Pos} {e : Expr} {es : List Expr}
/-- de_askA with nothing left to find: within a lambda the context must come from what is asked for -/
theorem de_askAL {i j : Nat} {ta : DTA} {E : XK} {er : EK} (hE : ErrL (zOf X P) G0 E er) (hx : Passes (L2.CX X.prog X.w) X E) (hr : Room j X.A) (hgd : X.A.guards = some []) (hi : i = i) (ha : DA P G0 n X (e :: es) ta) (hN : X.N[i]? = some x) (hv : Vis X.env.scope x) (hd : (x == ("__debug__" : Str)) = false)
    (hcd : (x == ("__classdict__" : Str)) = false) (he : starEach (e :: es) X.env = (false, eval e X.env) :: starEach es X.env) (hpl : (backTo pos (starEach es X.env)).any (·.1) = false) : DE P G0 n X (.Call (.Name x p) (e :: es) [] pos) (dAskE i j ta er) :=
  de_askA hE hx hr hgd i ha hN hv hd hcd he hpl
end
section
variable {P : Tb} {G0 : Hp} {n : Nat} {X : Cx} {o e : Expr} {tx ty : DTE} {apos cpos : Pos}
/-- separator.join(texts) -/
theorem de_join (ho : DE P G0 n X o tx) (he : DE P G0 n X e ty)
    (hs : starEach [e] X.env = [(false, eval e X.env)] := by rfl) (hbase : attributeBase o "join" X.env (eval o X.env) = eval o X.env := by rfl) (hline : (apos.endLine == cpos.line) = true := by rfl) :
    DE P G0 n X (.Call (.Attribute o "join" apos) [e] [] cpos) (fun ρ Q => tx ρ fun D ρ1 => ∃ a : Str, D = .str a ∧ ty ρ1 fun V ρ2 => ∃ ys : List Str, V = .list (ys.map .str) ∧ (ys.map (·.length)).sum + ys.length * a.length ≤ 16777216 ∧ Q (.str (Txt.join a ys)) ρ2) := by
  refine pe_weak (pe_join ho he hs hbase hline) fun σ H Q ⟨F, ρ, G, Q0, s, R, h, k⟩ => ?_
  refine ⟨F, ρ, G, _, s, R, h, fun D ρ1 v G1 H1 ⟨a, eD, q1⟩ s1 a1 R1 d1 => ?_⟩
  subst eD
  cases d1
  refine ⟨⟨a, rfl⟩, F, ρ1, G1, _, s.trans s1, R1, q1, fun V ρ2 v2 G2 H2 ⟨ys, eV, l, q2⟩ s2 a2 R2 d2 => ?_⟩
  subst eV
  cases d2 with
  | @lst _ p xs ds sq da =>
    have ex := dpa_strs da
    subst ex
    exact ⟨a, p, ys, rfl, rfl, .inl ((R2.sm s2.2).lst sq), l, (k.after (s1.trans s2) (a1.trans a2)).here s2.2 R2 (.str _) q2⟩
end
end Dl
set_option Elab.async false
set_option linter.all false
set_option maxRecDepth 100000
namespace Dl
open PySem PySem.Spec PyProof PyProof.Rows L2 So Da
end Dl
namespace Dl
open PySem PySem.Spec PyProof PyProof.Rows L2 So Da
end Dl
namespace Dl
open PySem PySem.Spec PyProof PyProof.Rows L2 So Da
section
variable {P : Tb} {G0 : Hp} {n : Nat} {X : Cx} {st : Stmt}
end
end Dl
namespace Dl
open PySem PySem.Spec PyProof PyProof.Rows L2 So Da
section
variable {P : Tb} {n : Nat} {X : Cx}
end
end Dl
namespace Dl
open PySem PySem.Spec PyProof PyProof.Rows L2 So Da
section
variable {P : Tb} {G0 : Hp} {n : Nat} {X : Cx} {tg e : Expr}
/-- the signs of a text, each a text -/
def chD (z : Str) : List PyData := z.cps.toList.map fun c => .str { cps := #[c] }
theorem wk_str {K : Zw} {z : Str} {G' : Hp} : Wk K (Its z) (chD z) G' := by
  have l : (chD z).length = z.cps.size := by unfold chD; rw [List.length_map, Array.length_toList]
  refine ⟨fun h s R => by rw [l] at h; exact h, fun s R => by rw [l]; exact Nat.le_refl _, fun {i H x H' G1 F ρ σ} h s R y => ?_⟩
  obtain ⟨e1, c, e2, e3⟩ := y
  subst e1
  subst e3
  refine ⟨.str { cps := #[c] }, G1, ?_, Ex.refl s.2, R, .str _⟩
  unfold chD
  rw [List.getElem?_map, Array.getElem?_toList, e2]
  rfl
/-- for sign in text -/
theorem di_str {t : DTE} (h : DE P G0 n X e t) : DI P G0 n X tg e (fun ρ Q => t ρ fun D ρ' => ∃ z, D = .str z ∧ Q (chD z) ρ') := pi_weak (pi_str h) fun σ H R ⟨F, ρ, G, Q0, s, Rp, h, k⟩ =>
  ⟨F, ρ, G, _, s, Rp, h, fun D ρ' v G' H' ⟨z, eD, q⟩ s' al R' d => by
    subst eD
    cases d
    exact ⟨_, rfl, k _ _ _ _ _ q s' al R' wk_str⟩⟩
end
end Dl
set_option Elab.async false
set_option linter.all false
set_option maxRecDepth 100000
set_option maxHeartbeats 4000000
namespace SoM
open PySem PySem.Spec PyProof.Rows L2
end SoM
namespace Dl
open PySem PySem.Spec PyProof PyProof.Rows L2 So Da
section
variable {P : Tb} {G0 : Hp} {n : Nat} {X : Cx} {a b : Expr} {pos : Pos} {t u : DTE}
end
end Dl
set_option Elab.async false
set_option linter.all false
set_option maxRecDepth 100000
set_option maxHeartbeats 4000000
namespace Dl
open PySem PySem.Spec PyProof PyProof.Rows L2 So Da SoC LamX NdefX
section
variable {Pg : Program} {w : World} {H : Hp} {h : Heap} {b : Addr} {o o' : HO}
end
section
variable {Z : Zw} {G G' : Hp} {b : Addr} {h : Heap} {T : Tb} {v : V} {D : PyData}
mutual
/-- data without dicts -/
def noDi : PyData → Bool
  | .list ds => noDiA ds
  | .tuple ds => noDiA ds
  | .dict _ => false
  | _ => true
def noDiA : List PyData → Bool
  | [] => true
  | d :: ds => noDi d && noDiA ds
end
mutual
theorem Dw.out (hst : ∀ s, Z.T.st s = none) : ∀ {G G' : Hp} {v : V} {D : PyData}, (∀ c o, G c = some o → (∀ φ, o ≠ .ext φ) → G' c = some o) → noDi D = true → Dw Z G v D → Dw Z G' v D
  | _, _, _, _, _, _, .non => .non
  | _, _, _, _, _, _, .bl b => .bl b
  | _, _, _, _, _, _, .int b => .int b
  | _, _, _, _, _, _, .str b => .str b
  | _, _, _, _, x, n, .lst a b => .lst (a.imp (fun q => q.imp (fun q => x _ _ q fun _ z => nomatch z) fun ⟨o, q⟩ => ⟨o, x _ _ q fun _ z => nomatch z⟩) _root_.id) (DwAll.out hst x n b)
  | _, _, _, _, x, n, .tup a b => .tup (a.imp (fun q => q.imp (fun q => x _ _ q fun _ z => nomatch z) fun ⟨o, q⟩ => ⟨o, x _ _ q fun _ z => nomatch z⟩) _root_.id) (DwAll.out hst x n b)
  | _, _, _, _, x, n, .dic a b => nomatch n
  | _, _, _, _, x, n, .clo a b => by
    obtain ⟨sc, cl, c, h, _⟩ := a.ex
    rw [hst] at h
    cases h
theorem DwAll.out (hst : ∀ s, Z.T.st s = none) : ∀ {G G' : Hp} {vs : List V} {Ds : List PyData}, (∀ c o, G c = some o → (∀ φ, o ≠ .ext φ) → G' c = some o) → noDiA Ds = true → DwAll Z G vs Ds → DwAll Z G' vs Ds
  | _, _, _, _, _, _, .nil => .nil
  | _, _, _, _, x, n, .cons a b => .cons (Dw.out hst x (Bool.and_eq_true_iff.mp n).1 a) (DwAll.out hst x (Bool.and_eq_true_iff.mp n).2 b)
end
end
section
variable {P : Tb} {G0 : Hp} {n : Nat} {X : Cx} {e : Expr} {i : Nat} {t : DTE}
/-- within a lambda: what draws from the box that it captured -/
def swapT (i : Nat) (t : DTE) : DTE := fun ρ Q => ρ[i]? = some (.ask .bx) ∧ (∀ (j : Nat) (a : Addr) (c : Oc), ρ[j]? ≠ some (.ob a c)) ∧ ∀ b, t ((List.replicate ρ.length .un).set i (.ob b .box)) fun D ρ' => ρ' = (List.replicate ρ.length .un).set i (.ob b .box) ∧ (∃ k, D = .int k) ∧ Q D ρ
/-- no objects of one's own -/
def unOb : Lc → Lc
  | .ob _ _ => .un
  | x => x
/-- where a lambda captures a box -/
def boxT (i : Nat) (t : DTE) : DTE := fun ρ Q => match ρ[i]? with
  | some (.ob _ .box) => t ((ρ.map unOb).set i (.ask .bx)) fun D ρ' => ρ' = (ρ.map unOb).set i (.ask .bx) ∧ noDi D = true ∧ Q D ρ
  | _ => False
end
end Dl
set_option Elab.async false
set_option linter.all false
set_option maxRecDepth 100000
set_option maxHeartbeats 4000000
namespace Dl
open PySem PySem.Spec PyProof PyProof.Rows L2 So Da
section
variable {P : Tb} {G0 : Hp} {n : Nat} {X : Cx}
/-- sign in text, sign not in text -/
def inSD (neg : Bool) : OpT := fun x y Q => match x, y with
  | .str a, .str z => ∃ c : Nat, a = { cps := #[c] } ∧ Q (.bool (if neg = true then !decide (c ∈ z.cps.toList) else decide (c ∈ z.cps.toList)))
  | _, _ => False
theorem od_inS : OpD P n X (fun x y H Q => ∃ (c : Nat) (z : Str), x = .str ⟨#[c]⟩ ∧ y = .str z ∧ Q (.bl (decide (c ∈ z.cps.toList))) H) (inSD false) := fun x y dx dy F G ρ σ H Q0 Q t R h1 h2 f k => by
  unfold inSD at f
  split at f
  · cases h1.str
    cases h2.str
    obtain ⟨c, rfl, f⟩ := f
    exact ⟨c, _, rfl, rfl, k.here t R (.bl _) f⟩
  · exact f.elim
end
section
variable {P : Tb} {G0 : Hp} {n : Nat} {X : Cx} {o e : Expr} {tx ty : DTE} {apos cpos : Pos}
end
end Dl
set_option Elab.async false
set_option linter.all false
set_option maxRecDepth 100000
set_option maxHeartbeats 4000000
namespace Dl
open PySem PySem.Spec PyProof PyProof.Rows L2 So Da SoRv RT
def tLstRevA (K : PySem.W.Frag) (te : TE) : TE := fun σ H Q => te σ H fun v H1 => ∃ (a : Addr) (xs : List V), v = .ref a ∧ Sq K H1 a xs ∧ ∀ q, H1 q = none → Q (.ref q) (upd H1 q (.lst xs.reverse))
theorem pe_lstRevA {X : Cx} {e : Expr} {te : TE} {p p2 pos pos2 : Pos} (hc : X.calm = true) (hg : Gl X "list") (hm : X.mg "list" = none) (hg2 : Gl X "reversed") (hm2 : X.mg "reversed" = none) (he : PE X e te)
    (hs : starEach [e] X.env = (false, eval e X.env) :: starEach [] X.env := by rfl)
    (hs2 : starEach [.Call (.Name "reversed" p2) [e] [] pos2] X.env = (false, eval (.Call (.Name "reversed" p2) [e] [] pos2) X.env) :: starEach [] X.env := by rfl) :
    PE X (.Call (.Name "list" p) [.Call (.Name "reversed" p2) [e] [] pos2] [] pos) (tLstRevA X.K te) := by
  refine ⟨fun pins s σ H Q I h => ?_⟩
  refine Call_ (ld_blt I hg hm boot_list (PyProof.Rows.callWith_type1 (args_cons (Call_ (ld_blt I hg2 hm2 PyProof.Rows.boot_reversed (PyProof.Rows.callWith_type1 (args_cons (thn (he.run pins s σ H _ I h) fun u z hz => args_nil ?_) hs) hs rfl))) hs2) hs2 rfl))
  obtain ⟨v, H1, I1, r1, a, xs, rfl, hq, q⟩ := hz
  obtain rfl : u = Value.ref a := r1
  rcases hq with hq | hq
  · obtain ⟨its, rv, p', hz⟩ := I1.tuple hq
    have hl := rv.length
    have hn := line63
    have sz : its.toArray.size ≤ sizeLine := by rw [List.size_toArray, ← rv.length]; exact hz
    refine call_reversed_tup p' (fun A E Q k => len_tuple p' (by simp only [List.size_toArray] <;> omega) k) (args_nil ?_)
    have k0 : ∀ b o, z.heap.get? b = some o → (z.heap.push (rtObj a ((its.toArray.size : Int) - 1))).get? b = some o := fun b o e => Heap.get?_push_of_some _ e
    have I2 : Inv X pins σ H1 { z with heap := z.heap.push (rtObj a ((its.toArray.size : Int) - 1)), toks := z.toks + 1 + 1 } := I1.kept (t' := z.toks + 1 + 1) k0
    obtain ⟨f0, f1, f2, f3, f4, f5⟩ := I1.fpOk (H' := H1) (b := z.heap.objs.size) (Nat.le_refl _) (I1.hok.fresh (Nat.le_refl _))
    have tp : IsTup (z.heap.push (rtObj a ((its.toArray.size : Int) - 1))) a its.toArray := by
      obtain ⟨o, ho, r⟩ := p'
      exact ⟨o, k0 _ _ ho, r⟩
    have hne : a ≠ z.heap.objs.size := by
      obtain ⟨o, ho, _⟩ := p'
      exact Nat.ne_of_lt (Heap.lt_size ho)
    refine list_rt (s := { z with heap := z.heap.push (rtObj a ((its.toArray.size : Int) - 1)), toks := z.toks + 1 + 1 }) (I1.ok.hd hc) ⟨_, Heap.get?_push_size _ rfl, rfl, rfl⟩ tp hne sz fun h' tk acc c hk hS hi => ?_
    have szp : (z.heap.push (rtObj a ((its.toArray.size : Int) - 1))).objs.size = z.heap.objs.size + 1 := Heap.size_push ..
    have hf : H1 (z.heap.objs.size + 1) = none := I1.hok.fresh (Nat.le_succ _)
    have hS' : h'.get? (z.heap.objs.size + 1) = some { cls := .type "list", dict := none, data := .seq acc c, slots := #[] } := by rw [← szp]; exact hS
    have kz : ∀ b o, z.heap.get? b = some o → h'.get? b = some o := fun b o e => hk b o (Nat.ne_of_lt (Heap.lt_size e)) (k0 b o e)
    refine ⟨.ref (z.heap.objs.size + 1), upd H1 (z.heap.objs.size + 1) (.lst xs.reverse), ?_, ?_, q _ hf⟩
    · exact I1.laid (t' := tk) kz (Nat.le_succ _) (show ObjOk X.prog X.w _ _ _ (.lst xs.reverse) from ⟨by rw [List.length_reverse]; exact hz, acc.toList, c, vals_rev rv hi, by rw [Array.toArray_toList]; exact hS'⟩)
    · show Value.ref (z.heap.push (rtObj a ((its.toArray.size : Int) - 1))).objs.size = Value.ref (z.heap.objs.size + 1)
      rw [szp]
  · obtain ⟨its, rv, p', hz⟩ := I1.list hq
    have sz : its.toArray.size ≤ sizeLine := by rw [List.size_toArray, ← rv.length]; exact hz
    refine call_reversed_list p'.isList (args_nil ?_)
    have k0 : ∀ b o, z.heap.get? b = some o → (z.heap.push (revObj a ((its.toArray.size : Int) - 1))).get? b = some o := fun b o e => Heap.get?_push_of_some _ e
    have hl := p'.isList
    obtain ⟨ol, hol, _⟩ := id hl
    have hne : a ≠ z.heap.objs.size := Nat.ne_of_lt (Heap.lt_size hol)
    refine list_rl (s := { z with heap := z.heap.push (revObj a ((its.toArray.size : Int) - 1)) }) (I1.ok.hd hc) ⟨_, Heap.get?_push_size _ rfl, rfl, rfl⟩ (hl.push _) hne sz fun h' tk acc c hk hS hi => ?_
    have szp : (z.heap.push (revObj a ((its.toArray.size : Int) - 1))).objs.size = z.heap.objs.size + 1 := Heap.size_push ..
    have hf : H1 (z.heap.objs.size + 1) = none := I1.hok.fresh (Nat.le_succ _)
    have hS' : h'.get? (z.heap.objs.size + 1) = some { cls := .type "list", dict := none, data := .seq acc c, slots := #[] } := by rw [← szp]; exact hS
    have kz : ∀ b o, z.heap.get? b = some o → h'.get? b = some o := fun b o e => hk b o (Nat.ne_of_lt (Heap.lt_size e)) (k0 b o e)
    refine ⟨.ref (z.heap.objs.size + 1), upd H1 (z.heap.objs.size + 1) (.lst xs.reverse), ?_, ?_, q _ hf⟩
    · exact I1.laid (t' := tk) kz (Nat.le_succ _) (show ObjOk X.prog X.w _ _ _ (.lst xs.reverse) from ⟨by rw [List.length_reverse]; exact hz, acc.toList, c, vals_rev rv hi, by rw [Array.toArray_toList]; exact hS'⟩)
    · show Value.ref (z.heap.push (revObj a ((its.toArray.size : Int) - 1))).objs.size = Value.ref (z.heap.objs.size + 1)
      rw [szp]
end Dl
set_option Elab.async false
set_option linter.all false
set_option maxRecDepth 100000
set_option maxHeartbeats 4000000
namespace Dl
open PySem PySem.Spec PyProof PyProof.Rows L2 So Da
section
variable {P : Tb} {G0 : Hp} {n : Nat} {X : Cx} {st : Stmt} {ta : DTF} {tb : DTE}
end
end Dl
set_option Elab.async false
set_option linter.all false
set_option maxRecDepth 100000
set_option maxHeartbeats 4000000
namespace Dl
open PySem PySem.Spec PyProof PyProof.Rows L2 So Da SoC
section
variable {P : Tb} {G0 : Hp} {n : Nat} {X : Cx}
/-- a def as what is called -/
def fnW (T : TD) : LW := fun Ds R => T (Ds.map .sh) (fun D _ => R (.told D)) (fun er => R (.err er.1 er.2))
theorem rep_shs {K : Zw} {G H : Hp} {vs : List V} {Ds : List PyData} (d : DwAll K G vs Ds) (sub : Sub G H) (nt : NT G) : Rep K [] G (Ds.map Lc.sh) (vs.map some) H := by
  have no : ∀ {i : Nat} {lc : Lc}, (Ds.map Lc.sh)[i]? = some lc → ∃ D, lc = .sh D ∧ Ds[i]? = some D := fun {i lc} e => by
    rw [List.getElem?_map] at e
    cases h : Ds[i]? with
    | none => rw [h] at e; cases e
    | some D => rw [h] at e; exact ⟨D, (Option.some.inj e).symm, rfl⟩
  refine ⟨by rw [List.length_map, List.length_map]; exact dpa_len d, fun {i D} e => ?_, fun {i a c} e => ?_, fun {i a C dd D} e => ?_, fun {i O} e => ?_, fun {i j a c c'} e => ?_, fun m => absurd m List.not_mem_nil, sub, nt⟩
  · obtain ⟨D', e1, e2⟩ := no e
    cases e1
    obtain ⟨v, h1, h2⟩ := dpa_at' d e2
    exact ⟨v, by rw [List.getElem?_map, h1]; rfl, h2⟩
  · obtain ⟨D', e1, _⟩ := no e
    cases e1
  · obtain ⟨D', e1, _⟩ := no e
    cases e1
  · obtain ⟨D', e1, _⟩ := no e
    cases e1
  · obtain ⟨D', e1, _⟩ := no e
    cases e1
theorem askFn_of {Z : Zw} {k : Nat} {f : Addr} {fd : FuncData} {ps : List Str} {T : TD} {x : Str} {st : Stmt} {G : Hp} (F : FnD Z.Pg Z.w Z.K Z.mg Z.base (L2.CX Z.Pg Z.w) k f fd ps (spT Z T)) (D : Df Z.K Z.mg x st ps f fd) (tg : ∀ G1, Ex Z.T G G1 → Tg G1 Z.T) : AskOk Z G f k (fnW T) := by
  refine ⟨.inr fun h kin => ?_, fun A outer s H G1 us vs Ds R Q E hr hg e0 x1 sub nt r d w hR => ?_⟩
  · obtain ⟨oc, od, kV, doc, pm, an, cd, ct, osl, e, lk, _⟩ := D.F.ex
    exact ⟨oc, od, fd, osl, kin _ _ lk⟩
  · have h : spT Z T vs H Q E := ⟨G1, _, _, _, tg G1 x1, rep_shs d sub nt, w, fun D' as' v G' H' q sm s2 R2 dv => hR _ q v G' H' s2 R2.sub R2.nt dv, fun C D' dd v G' H' q s2 sub2 nt2 xd dv => hR _ q dd v G' H' s2 sub2 nt2 xd dv⟩
    have kp : ∀ b o, Z.base.get? b = some o → s.heap.get? b = some o := fun b o z => (e0.bs b o z).1
    have B := D.b s us (e0.mod.kin.keeps kp) (by rw [List.append_nil]; exact r.length.symm.trans (F.len _ _ _ _ h))
    rw [List.append_nil] at B
    exact F.run A outer s H ⟨us, []⟩ us vs Q E hr hg e0 B r h
def FnsOk (K : Zw) (G : Hp) : List V → List (Nat × LW) → Prop := Paired fun v l => ∃ f, v = V.ref f ∧ AskOk K G f l.1 l.2
theorem FnsOk.mono {K : Zw} {G G' : Hp} (s : Ex K.T G G') {vs : List V} {ls : List (Nat × LW)} (h : FnsOk K G vs ls) : FnsOk K G' vs ls := paired_imp (fun _ _ ⟨f, e, m⟩ => ⟨f, e, m.mono s⟩) h
def rdN (K : Zw) (G0 : Hp) (ls : List (Nat × LW)) : TA := fun σ H Q => ∃ G, Ex K.T G0 G ∧ ∀ vs, FnsOk K G vs ls → Q vs H
def DNs (P : Tb) (G0 : Hp) (X : Cx) (es : List Expr) (ls : List (Nat × LW)) : Prop := PA X es (rdN (zOf X P) G0 ls)
variable {es : List Expr} {ls : List (Nat × LW)} {x : Str} {p pos yp dp : Pos} {y : Str} {f : Addr} {fd : FuncData} {ps : List Str} {T : TD} {st : Stmt} {k : Nat} {tb : DTS} {bd : List Stmt} {ik : Nat}
theorem dn_nil : DNs P G0 X [] [] := pa_weak pa_nil fun σ H Q ⟨G, s, k⟩ => k _ .nil
theorem dn_cons (F : FnD X.prog X.w X.K X.mg X.base (L2.CX X.prog X.w) k f fd ps (spT (zOf X P) T)) (D : Df X.K X.mg x st ps f fd) (hg : Gl X x) (h : DNs P G0 X es ls) (hdb : (x == ("__debug__" : Str)) = false := by decide)
    (hs : starEach (.Name x p :: es) X.env = (false, eval (.Name x p) X.env) :: starEach es X.env := by rfl) : DNs P G0 X (.Name x p :: es) ((k, fnW T) :: ls) :=
  pa_weak (pa_cons (pe_glob (v := .ref f) hg D.g rfl hdb) h hs) fun σ H Q ⟨G, s, k⟩ => ⟨G, s, fun vs h => k _ (.cons ⟨f, rfl, askFn_of (Z := zOf X P) F D fun G1 x1 => x1.2⟩ h)⟩
def forNW (ik : Nat) (tb : DTS) (D : EndsD) : List (Nat × LW) → Sto → Prop
  | [], ρ => D.nx ρ
  | l :: ls, ρ => noOb ρ ik ∧ tb { D with nx := forNW ik tb D ls, ct := forNW ik tb D ls, bk := D.nx } (ρ.set ik (.ask (.fn l.1 l.2)))
theorem forNs_run {a : Addr} {vs : List V} {ρ : Sto} {G : Hp} {σ : L2.St} {H : Hp} {D0 : EndsD} {D : Ends} {J : It} (s : Ex P G0 G) (R1 : Rep (zOf X P) [] G ρ σ H) (k : Lk (zOf X P) n D0 ρ G D) (h : forNW ik tb D0 ls ρ) (h5 : FnsOk (zOf X P) G vs ls)
    (go : ∀ {i : Nat} {H' G2 : Hp} {ρ2 : Sto} {σ2 : L2.St}, i < vs.length → Ex P G G2 → Rep (zOf X P) [] G2 ρ2 σ2 H' → J.go i H') (stop : ∀ {H' G2 : Hp} {ρ2 : Sto} {σ2 : L2.St}, Ex P G G2 → Rep (zOf X P) [] G2 ρ2 σ2 H' → J.stop vs.length H')
    (yld : ∀ {i : Nat} {H' G2 : Hp} {ρ2 : Sto} {σ2 : L2.St} {x : V} {H3 : Hp}, Ex P G G2 → Rep (zOf X P) [] G2 ρ2 σ2 H' → J.yld i H' x H3 → H3 = H' ∧ vs[i]? = some x) :
    ∃ W : Nat → Nat → L2.St → Hp → Prop, (∃ m, W 0 m σ H) ∧ ∀ (i m : Nat) (σ : L2.St) (H : Hp), W i m σ H → J.stop i H ∧ D.nx σ H ∨ J.go i H ∧ ∃ N, (∀ (σ' : L2.St) (H' : Hp), N σ' H' → ∃ m', m' < m ∧ W (i + 1) m' σ' H') ∧ ∀ (x : V) (H' : Hp), J.yld i H x H' → gName ik x σ H' fun σ2 H2 => rdS (zOf X P) G0 n tb { nx := N, rt := D.rt, bk := D.nx, ct := N } σ2 H2 := by
  have l5 := paired_len h5
  refine ⟨fun i m σ2 H2 => m = ls.length - i ∧ i ≤ ls.length ∧ ∃ ρ2 G2, Ex P G G2 ∧ Alike n ρ ρ2 ∧ Rep (zOf X P) [] G2 ρ2 σ2 H2 ∧ forNW ik tb D0 (ls.drop i) ρ2, ⟨_, by rw [Nat.sub_zero], Nat.zero_le _, _, _, Ex.refl s.2, .refl, R1, h⟩, ?_⟩
  rintro i m σ2 H2 ⟨rfl, hi, ρ2, G2, s2, al2, R2, q2⟩
  by_cases hl : i < ls.length
  · refine .inr ⟨go (by omega) s2 R2, fun σ' H' => i + 1 ≤ ls.length ∧ ∃ ρ2 G2, Ex P G G2 ∧ Alike n ρ ρ2 ∧ Rep (zOf X P) [] G2 ρ2 σ' H' ∧ forNW ik tb D0 (ls.drop (i + 1)) ρ2, fun σ' H' z => ⟨_, by omega, rfl, z⟩, fun x H3 y => ?_⟩
    obtain ⟨rfl, ex⟩ := yld s2 R2 y
    obtain ⟨v', e1, fl, rfl, L⟩ := paired_get h5 (List.getElem?_eq_getElem hl)
    rw [ex] at e1
    cases e1
    rw [List.drop_eq_getElem_cons hl] at q2
    unfold forNW at q2
    obtain ⟨no, q2⟩ := q2
    have R3 : Rep (zOf X P) [] G2 (ρ2.set ik (.ask (.fn ls[i].1 ls[i].2))) (σ2.set ik (some (.ref fl))) H3 := R2.setLc (noOb_ne no) ⟨fl, rfl, L.mono s2⟩
    have on : LkN (zOf X P) n (forNW ik tb D0 (ls.drop (i + 1))) (ρ2.set ik (.ask (.fn ls[i].1 ls[i].2))) G2 (fun σ' H' => i + 1 ≤ ls.length ∧ ∃ ρ2 G2, Ex P G G2 ∧ Alike n ρ ρ2 ∧ Rep (zOf X P) [] G2 ρ2 σ' H' ∧ forNW ik tb D0 (ls.drop (i + 1)) ρ2) := fun ρ5 σ5 G5 H5 q5 s5 al5 R5 => ⟨hl, ρ5, G5, s2.trans s5, (al2.trans (.set no)).trans al5, R5, q5⟩
    have kk := k.after s2 (al2.trans (Alike.set (lc := .ask (.fn ls[i].1 ls[i].2)) no))
    exact ⟨_, G2, _, s.trans s2, R3, q2, on, kk.nx, on, kk.rt, kk.ro⟩
  · have e : i = ls.length := by omega
    subst e
    rw [List.drop_length] at q2
    refine .inl ⟨?_, k.nx _ _ _ _ q2 s2 al2 R2⟩
    have := stop s2 R2
    rwa [l5] at this
def dForN (ik : Nat) (tb : DTS) (ls : List (Nat × LW)) : DTS := fun D ρ => forNW ik tb D ls ρ
theorem ds_forNT {kk : Nat} (hp : PassesOwn (model X.prog X.w) X.A X.env X.xe) (hc : X.calm = true) (hn : DNs P G0 X es ls) (sz : ls.length ≤ sizeLine) (hg : PG X (.Name y yp) (gName ik)) (hb : DSs P G0 n X bd tb) (hs : ∀ v, foldedSetIterable (.Tuple es kk dp) X.env v = pure v := by intro _; rfl) :
    DS P G0 n X (.For (.Name y yp) (.Tuple es kk dp) bd [] pos) (dForN ik tb ls) := ps_weak (ps_for hp hc (pi_tup (pe_tupF hn)) hg hb hs) fun D σ H ⟨ρ, G, D0, s, R, h, k⟩ => by
  refine ⟨G, s, fun vs h5 => ⟨by rw [paired_len h5]; exact sz, fun p ob hp hd => ?_⟩⟩
  obtain ⟨gp, R1⟩ := R.new (o := .frz ob (.tup vs)) s.2 hp hd
  have s1 : Ex P G (upd G p (.frz ob (.tup vs))) := Ex.new s.2 gp
  have sq : ∀ {H' G2 : Hp} {ρ2 : Sto} {σ2 : L2.St}, Ex P (upd G p (.frz ob (.tup vs))) G2 → Rep (zOf X P) [] G2 ρ2 σ2 H' → SqT X.K H' p vs := fun s2 R2 => .inl (.inr ⟨ob, R2.sub _ _ (s2.1 _ _ upd_same fun _ z => nomatch z)⟩)
  refine ⟨p, rfl, ⟨vs, .inl (.inr ⟨ob, upd_same⟩)⟩, ?_⟩
  exact forNs_run (a := p) (s.trans s1) R1 (k.after s1 .refl) h (FnsOk.mono (K := zOf X P) s1 h5) (fun hl s2 R2 => ⟨vs, vs[_], sq s2 R2, List.getElem?_eq_getElem hl⟩) (fun s2 R2 => ⟨vs, sq s2 R2, Nat.le_refl _⟩) fun s2 R2 yy => ⟨yy.1, yy.2 vs (sq s2 R2)⟩
end
/-- a comprehension that chooses -/
theorem lcW_sel {ρw : Sto} {vs : List Nat} {g : DTG} {tt : DTT} {te : DTE} {Q : List PyData → Prop} (c : PyData → Bool) (f : PyData → PyData) : ∀ {ds acc : List PyData}, acc.length + ds.length ≤ 1000000 →
    (∀ d ∈ ds, ∀ (P : Prop) (R : PyData → Prop), (c d = true → R (f d)) → (c d = false → P) → g d ρw fun ρ1 => tt ρ1 fun b ρ2 => if b = true then te ρ2 fun y ρ3 => (noObs ρ3 vs ∧ wipeD ρ3 vs = ρw) ∧ R y else (noObs ρ2 vs ∧ wipeD ρ2 vs = ρw) ∧ P) →
    Q (acc ++ (ds.filter c).map f) → lcW ρw vs g tt te ds acc Q := by
  intro ds
  induction ds with
  | nil =>
    intro acc _ _ q
    unfold lcW
    simpa using q
  | cons d ds ih =>
    intro acc l h q
    rw [List.length_cons] at l
    unfold lcW
    refine h d List.mem_cons_self _ _ (fun hc => ⟨Nat.lt_of_le_of_lt (by omega : acc.length ≤ 1000000) (by decide), ih (by rw [List.length_append, List.length_singleton]; omega) (fun x m => h x (List.mem_cons_of_mem _ m)) ?_⟩) (fun hc => ih (by omega) (fun x m => h x (List.mem_cons_of_mem _ m)) ?_)
    · rw [List.filter_cons, if_pos hc, List.map_cons] at q
      rw [List.append_assoc]
      exact q
    · rw [List.filter_cons, if_neg (by rw [hc]; decide)] at q
      exact q
end Dl
set_option Elab.async false
set_option linter.all false
set_option maxRecDepth 100000
set_option maxHeartbeats 4000000
namespace Dl
open PySem PySem.Spec PyProof PyProof.Rows L2 So Da
section
variable {X : Cx} {e b : Expr} {te tb : TE} {y z a : Str} {j0 j1 : Nat} {c0 c1 apos pos : Pos}
def tRepC (y z : Str) (te : TE) : TE := fun σ H Q => te σ H fun v H1 => ∃ x, v = .str x ∧ (y == z) = false ∧ x.length + (x.length + 1) * z.length ≤ 16777216 ∧ Q (.str (Txt.replace x y z)) H1
theorem pet_of (h : PE X e te) : PET X e te := fun pins s σ H Q _ I q => h.run pins s σ H Q I q
theorem pet_rep (he : PET X e te) (hbase : attributeBase e "replace" X.env (eval e X.env) = eval e X.env := by rfl) (hst : starEach [.Constant (.str y) j0 c0, .Constant (.str z) j1 c1] X.env = [(false, eval (.Constant (.str y) j0 c0) X.env), (false, eval (.Constant (.str z) j1 c1) X.env)] := by rfl)
    (hline : (apos.endLine == pos.line) = true := by rfl) : PET X (.Call (.Attribute e "replace" apos) [.Constant (.str y) j0 c0, .Constant (.str z) j1 c1] [] pos) (tRepC y z te) := by
  intro pins s σ H Q h0 I h
  refine PySem.Call_method2 hbase hst hline (wpAny_mono (PySem.wpAny_toks (he pins s σ H _ h0 I h)) (fun v s1 q => ?_) fun _ _ x => x.2)
  obtain ⟨hk, x', H1, I1, r, x, rfl, hyz, hb, q⟩ := q
  obtain ⟨tx, e0⟩ := r
  subst e0
  refine ⟨"str", _, F.plainAttrs_str, F.slot_str_replace, F.type_str_replace, typeIs_str _ _ _, (fun _ e => nomatch e), Calls.callWith_builtin rfl (Calls.evalArgs_plain (Calls.spliced_cons (Calls.Constant_str (Calls.spliced_cons (Calls.Constant_str (Calls.spliced_nil ?_))))))⟩
  exact PySem.SC.replace (show s1.toks ≠ 0 by omega) (show s1.toks + 1 ≠ 0 by omega) (show s1.toks ≠ s1.toks + 1 by omega) hyz hb fun t' k => ⟨.str (Txt.replace x y z), H1, I1.tok k, ⟨t', rfl⟩, q⟩
theorem pe_opT {op : Operator} {r : R2} (ho : OpR X (binaryOp op) r) (hb : PET X b tb) : PE X (.BinOp (.Constant (.str a) j0 c0) op b pos) (tOp r (tC (.str a)) tb) := by
  refine ⟨fun pins s σ H Q I h => ?_⟩
  refine wpAny_BinOp (Calls.Constant_str ?_)
  refine thn (hb pins { s with toks := s.toks + 1 } σ H _ (by show 1 ≤ s.toks + 1; omega) (I.tok (s.toks + 1)) h) fun u s2 ⟨y, H2, I2, ry, q⟩ => ho pins s2 σ H2 (.str a) y _ u Q I2 ⟨_, rfl⟩ ry q
end
end Dl
set_option Elab.async false
set_option linter.all false
set_option maxRecDepth 100000
set_option maxHeartbeats 4000000
namespace SoE
open PySem PySem.Spec PyProof.Rows L2
/-- the signs of a text, each in a new pair with its place -/
def IteS (x : Str) : It :=
  ⟨fun i _ => i < x.cps.size,
    fun i H v H' => ∃ T c, v = .ref T ∧ H T = none ∧ H' = upd H T (.tup [.int (i : Nat), .str ⟨#[c]⟩]) ∧ x.cps[i]? = some c,
    fun i _ => i = x.cps.size⟩
theorem turn_enumS {P : Program} {w : World} {K : PySem.W.Frag} {elts : List Expr} {kk : Nat} {tpos : Pos} (x : Str) (t : Tok) (e it : Addr) :
    Turn P w K (.Tuple elts kk tpos) (IteS x) [e, it] e (fun i h => (∃ old, IsEnum h e it ((i : Nat) : Int) old) ∧ h.IsStrIter it (strIterType x) x t i ∧ e ≠ it) where
  mem := by simp
  obj := fun i h st b hb => by
    obtain ⟨⟨old, he⟩, ⟨o, ho, hc, hd⟩, _⟩ := st
    have e' : b = e ∨ b = it := by simpa using hb
    rcases e' with z | z
    · rw [z]; exact ⟨_, he, fun v q => nomatch q⟩
    · rw [z]; exact ⟨o, ho, fun v q => by rw [hd] at q; cases q⟩
  keep := fun i h h' st k => let ⟨⟨old, he⟩, ⟨o, ho, r⟩, hne⟩ := st; ⟨⟨old, k e (by simp) _ he⟩, ⟨o, k it (by simp) o ho, r⟩, hne⟩
  item := by
    intro X hP hw hK hc i pins s σ H E I hf st hg
    subst hP hw hK
    obtain ⟨⟨old, he⟩, hit, hne⟩ := st
    have hlt : i < x.cps.size := hg
    have hel : e < s.heap.objs.size := Heap.lt_size he
    have hil : it < s.heap.objs.size := by obtain ⟨_, q, _⟩ := hit; exact Heap.lt_size q
    refine wpAny_pyNext_enum_itemC (Draws.text (A := X.A.in1) (I.ok.hd hc) it x t) he hit hlt hne (by simp [hne]) fun y h' tk hPy ho hst' hT hsz hk => ?_
    obtain ⟨c, u, hcx, rfl⟩ := hPy
    refine ⟨_, rfl, wpAny_letOwnedTupleGo_enum (s := { s with heap := h', toks := tk + 1 }) ho fun h'' he' sb => ?_⟩
    have hT2 : h''.get? s.heap.objs.size = some { cls := .type "tuple", data := .seq #[.int i tk, .str ⟨#[c]⟩ u] } := (sb.2 _ (Nat.ne_of_gt hel)).trans hT
    have new : ObjOk X.prog X.w (upd H s.heap.objs.size (.tup [.int (i : Nat), .str ⟨#[c]⟩])) h'' s.heap.objs.size (.tup [.int (i : Nat), .str ⟨#[c]⟩]) :=
      ⟨by show 2 ≤ sizeLine; decide, [.int i tk, .str ⟨#[c]⟩ u], .cons ⟨_, rfl⟩ (.cons ⟨_, rfl⟩ .nil), ⟨_, hT2, rfl, _, rfl⟩⟩
    have I1 : Inv X pins σ (upd H s.heap.objs.size (.tup [.int (i : Nat), .str ⟨#[c]⟩])) { s with heap := h'', toks := tk + 1 } :=
      I.turnedNew (ch := [e, it]) (fun b ob hb q => (sb.2 b (fun z => hb (by simp [z]))).trans (hk b ob (fun z => hb (by simp [z])) (fun z => hb (by simp [z])) q)) hf (Nat.le_refl _) new
    obtain ⟨oi, e1, c1, d1⟩ := hst'
    refine ⟨.ref s.heap.objs.size, _, I1, rfl, ⟨_, c, rfl, I.hok.fresh (Nat.le_refl _), rfl, hcx⟩, ⟨⟨.str ⟨#[c]⟩ u, ?_⟩, ⟨oi, (sb.2 it (Ne.symm hne)).trans e1, c1, d1⟩, hne⟩, fun b hb => ?_⟩
    · have e1 : ((i + 1 : Nat) : Int) = (i : Int) + 1 := by omega
      rw [e1]; exact he'
    · have hb' : b < s.heap.objs.size := by
        have e' : b = e ∨ b = it := by simpa using hb
        rcases e' with z | z
        · rw [z]; exact hel
        · rw [z]; exact hil
      rw [upd_ne (Nat.ne_of_lt hb')]
      exact (hf b hb).1
  done := by
    intro X hP hw hK hc i pins s σ H E I hf st hg
    subst hP hw hK
    obtain ⟨⟨old, he⟩, hit, hne⟩ := st
    have hg : i = x.cps.size := hg
    subst hg
    obtain ⟨f0, f1, f2, f3, f4, f5⟩ := hf it (by simp)
    exact wpAny_pyNext_enum_endD (Draws.text (A := X.A.in1) (I.ok.hd hc) it x t) he hit fun h' eb => ⟨rfl, I.turned (t' := s.toks) (fun b o hb q => eb b o hb q) f0 f1 f3 f4 f5⟩
  self := fun A i s Q E st h => let ⟨⟨_, he⟩, _⟩ := st; wpAny_pyIter_enum he h
def iEnumS (ta : TA) : TI := fun σ H R => ta σ H fun vs H1 => ∃ x, vs = [.str x] ∧ R (IteS x) H1
theorem pi_enumS {X : Cx} {e : Expr} {ta : TA} {p pos tpos : Pos} {elts : List Expr} {kk : Nat} (hg : Gl X "enumerate") (hm : X.mg "enumerate" = none) (ha : PA X [e] ta) (hs : starEach [e] X.env = [(false, eval e X.env)] := by rfl) :
    PI X (.Tuple elts kk tpos) (.Call (.Name "enumerate" p) [e] [] pos) (iEnumS ta) := by
  refine ⟨fun pins s σ H R I h => ?_⟩
  refine Call_ (ld_blt I hg hm boot_enumerate (PyProof.Rows.callWith_type1 (thn (ha.run pos pins s σ H _ I h) fun us z hz => ?_) hs rfl))
  obtain ⟨vs, H1, I1, r1, x, rfl, q⟩ := hz
  cases r1 with
  | cons r rr =>
    cases rr
    obtain ⟨t, rfl⟩ := r
    refine enum_call (begins_text x t) trivial fun h' he hit hsz hk => wpAny_pyIter_enum he ?_
    have I2 : Inv X pins σ H1 { z with heap := h' } := I1.kept (t' := z.toks) hk
    refine ⟨z.heap.objs.size + 1, [z.heap.objs.size + 1, z.heap.objs.size], _, _, H1, rfl, I2, turn_enumS x t (z.heap.objs.size + 1) z.heap.objs.size, ⟨⟨.none, he⟩, ⟨_, hit, rfl, rfl⟩, Nat.succ_ne_self _⟩, fun b hb => ?_, q⟩
    have e' : b = z.heap.objs.size + 1 ∨ b = z.heap.objs.size := by simpa using hb
    have hle : z.heap.objs.size ≤ b := by
      rcases e' with y | y
      · rw [y]; exact Nat.le_add_right _ _
      · rw [y]; exact Nat.le_refl _
    exact I1.fpOk hle (I1.hok.fresh hle)
end SoE
namespace Dl
open PySem PySem.Spec PyProof PyProof.Rows L2 So Da
section
variable {P : Tb} {G0 : Hp} {n : Nat} {X : Cx} {tg e : Expr} {pos : Pos} {st : Stmt}
theorem wk_enumS {K : Zw} {z : Str} {G' : Hp} : Wk K (SoE.IteS z) (enumD (chD z)) G' := by
  have l : (enumD (chD z)).length = z.cps.size := by unfold enumD chD; rw [List.length_mapIdx, List.length_map, Array.length_toList]
  refine ⟨fun h s R => by rw [l] at h; exact h, fun s R => by rw [l]; rfl, fun {i H x H' G1 F ρ σ} h s R y => ?_⟩
  obtain ⟨T, c, rfl, hT, rfl, e⟩ := y
  obtain ⟨gp, R'⟩ := R.new (o := .tup [.int (i : Nat), .str ⟨#[c]⟩]) s.2 hT rfl
  have s2 := Ex.new s.2 gp (o := .tup [.int (i : Nat), .str ⟨#[c]⟩])
  refine ⟨.tuple [.int (i : Nat), .str ⟨#[c]⟩], _, ?_, s2, R', .tup (.inl (.inl upd_same)) (.cons (.int _) (.cons (.str _) .nil))⟩
  unfold enumD chD
  rw [List.getElem?_mapIdx, List.getElem?_map, Array.getElem?_toList, e]
  rfl
/-- for i, c in enumerate(text) -/
theorem di_enumS {t : DTE} {p tpos : Pos} {elts : List Expr} {kk : Nat} (hg : Gl X "enumerate") (hm : X.mg "enumerate" = none) (h : DE P G0 n X e t) (hs : starEach [e] X.env = [(false, eval e X.env)] := by rfl) (hs2 : starEach [e] X.env = (false, eval e X.env) :: starEach [] X.env := by rfl) :
    DI P G0 n X (.Tuple elts kk tpos) (.Call (.Name "enumerate" p) [e] [] pos) (fun ρ Q => t ρ fun D ρ' => ∃ z, D = .str z ∧ Q (enumD (chD z)) ρ') := pi_weak (SoE.pi_enumS hg hm (pa_cons h pa_nil hs2) hs) fun σ H R ⟨F, ρ, G, Q0, s, Rp, h, k⟩ =>
  ⟨F, ρ, G, _, s, Rp, h, fun D ρ' v G' H' ⟨z, eD, q⟩ s' al R' d => by
    subst eD
    cases d
    exact ⟨_, rfl, k _ _ _ _ _ q s' al R' wk_enumS⟩⟩
/-- text[a:b] -/
def slSD (x : PyData) (lo hi : Option Int) (Q : PyData → Prop) : Prop := match x with
  | .str z => z.length ≤ sizeLine ∧ Q (.str (cutS z lo hi))
  | _ => False
theorem de_sliceS {a : Expr} {lo hi : Option Expr} {p2 : Pos} {t : DTE} {tl th : DTO} (ha : DE P G0 n X a t) (hl : DO P G0 n X lo tl) (hh : DO P G0 n X hi th) : DE P G0 n X (.Subscript a (.Slice lo hi none p2) pos)
    (fun ρ Q => t ρ fun D ρ1 => tl ρ1 fun l ρ2 => th ρ2 fun u ρ3 => slSD D l u fun z => Q z ρ3) := pe_weak (pe_slice sl_str ha hl hh) fun σ H Q ⟨F, ρ, G, Q0, s, R, h, k⟩ =>
  ⟨F, ρ, G, _, s, R, h, fun D ρ1 v1 G1 H1 h1 s1 a1 R1 d1 => ⟨F, ρ1, G1, _, s.trans s1, R1, h1, fun l ρ2 G2 H2 h2 s2 a2 R2 => ⟨F, ρ2, G2, _, (s.trans s1).trans s2, R2, h2, fun u ρ3 G3 H3 h3 s3 a3 R3 => by
    unfold slSD at h3
    split at h3
    · cases d1
      exact ⟨_, rfl, h3.1, k _ _ _ _ _ h3.2 ((s1.trans s2).trans s3) ((a1.trans a2).trans a3) R3 (.str _)⟩
    · exact h3.elim⟩⟩⟩
/-- xs.pop() as a value -/
theorem de_pop {i : Nat} (h : PE X e (tBM0 X.K "list" rPop (tVar i))) : DE P G0 n X e (fun ρ Q => popW ρ i Q) := pe_weak h fun σ H Q ⟨F, ρ, G, Q0, s, R, h, k⟩ => by
  unfold popW at h
  obtain ⟨a, ds, e, h⟩ := at_ol h
  split at h
  · rename_i d e2
    obtain ⟨h3, h4, o, h5, vs, rfl, h6⟩ := R.ob e
    obtain ⟨x, h7, h8⟩ := dpa_last h6 e2
    exact ⟨_, h3, .inl ⟨rfl, vs, .inl (.inl h5)⟩, a, vs, x, rfl, rfl, h5, h7, k d _ x G _ h (Ex.refl s.2) (put_alike e) (R.put e ⟨_, rfl, dpa_init h6⟩) h8⟩
  · exact h.elim
/-- 'a' + e.replace(y, z).replace(y2, z2) -/
def repD2 (a y z y2 z2 : Str) (D : PyData) (Q : PyData → Prop) : Prop := match D with
  | .str s => ((y == z) = false ∧ s.length + (s.length + 1) * z.length ≤ 16777216) ∧ ((y2 == z2) = false ∧ (Txt.replace s y z).length + ((Txt.replace s y z).length + 1) * z2.length ≤ 16777216) ∧ addD (.str a) (.str (Txt.replace (Txt.replace s y z) y2 z2)) Q
  | _ => False
theorem de_rep2 {a y z y2 z2 : Str} {j j0 j1 j2 j3 : Nat} {c c0 c1 c2 c3 apos mpos bpos npos : Pos} {t : DTE} (he : DE P G0 n X e t)
    (hbase : attributeBase e "replace" X.env (eval e X.env) = eval e X.env := by rfl) (hst : starEach [.Constant (.str y) j0 c0, .Constant (.str z) j1 c1] X.env = [(false, eval (.Constant (.str y) j0 c0) X.env), (false, eval (.Constant (.str z) j1 c1) X.env)] := by rfl)
    (hbase2 : attributeBase (.Call (.Attribute e "replace" apos) [.Constant (.str y) j0 c0, .Constant (.str z) j1 c1] [] mpos) "replace" X.env (eval (.Call (.Attribute e "replace" apos) [.Constant (.str y) j0 c0, .Constant (.str z) j1 c1] [] mpos) X.env) = eval (.Call (.Attribute e "replace" apos) [.Constant (.str y) j0 c0, .Constant (.str z) j1 c1] [] mpos) X.env := by rfl)
    (hst2 : starEach [.Constant (.str y2) j2 c2, .Constant (.str z2) j3 c3] X.env = [(false, eval (.Constant (.str y2) j2 c2) X.env), (false, eval (.Constant (.str z2) j3 c3) X.env)] := by rfl)
    (hline : (apos.endLine == mpos.line) = true := by rfl) (hline2 : (bpos.endLine == npos.line) = true := by rfl) :
    DE P G0 n X (.BinOp (.Constant (.str a) j c) .Add (.Call (.Attribute (.Call (.Attribute e "replace" apos) [.Constant (.str y) j0 c0, .Constant (.str z) j1 c1] [] mpos) "replace" bpos) [.Constant (.str y2) j2 c2, .Constant (.str z2) j3 c3] [] npos) pos)
      (fun ρ Q => t ρ fun D ρ' => repD2 a y z y2 z2 D fun R => Q R ρ') :=
  pe_weak (pe_opT op_addA (pet_rep (pet_rep (pet_of he) hbase hst hline) hbase2 hst2 hline2)) fun σ H Q ⟨F, ρ, G, Q0, s, R, h, k⟩ => by
    refine ⟨F, ρ, G, _, s, R, h, fun D ρ1 v1 G1 H1 q s1 al1 R1 d1 => ?_⟩
    unfold repD2 at q
    split at q
    · cases d1
      obtain ⟨⟨q1, q2⟩, ⟨q3, q4⟩, q5⟩ := q
      exact ⟨_, rfl, q1, q2, _, rfl, q3, q4, od_add _ _ _ _ F G1 ρ1 σ H1 Q0 Q (s.trans s1).2 R1 (.inl (.str _)) (.inl (.str _)) q5 (k.after s1 al1)⟩
    · exact q.elim
end
end Dl
namespace Dl
open PySem PySem.Spec PyProof PyProof.Rows L2 So Da
section
variable {P : Tb} {G0 : Hp} {n : Nat} {X : Cx} {st : Stmt} {ta : DTF} {tb tc td te : DTE}
/-- a, b, c, d, e = [..], e2, e3, e4, e5: the first one's own -/
theorem ds_asg5F {i j k l m : Nat} (hij : i ≠ j) (hik : i ≠ k) (hil : i ≠ l) (him : i ≠ m) (hjk : j ≠ k) (hjl : j ≠ l) (hjm : j ≠ m) (hkl : k ≠ l) (hkm : k ≠ m) (hlm : l ≠ m)
    (hps : PS X st (tAsg (tTupF (tCons (rdF (zOf X P) G0 n ta) (tCons (rdE (zOf X P) G0 n tb) (tCons (rdE (zOf X P) G0 n tc) (tCons (rdE (zOf X P) G0 n td) (tCons (rdE (zOf X P) G0 n te) tNil)))))) (gTup X.K 5 (gCons (gName i) (gCons (gName j) (gCons (gName k) (gCons (gName l) (gCons (gName m) gNil)))))))) :
    DS P G0 n X st (fun D ρ => ta ρ fun D1 ρ1 => tb ρ1 fun D2 ρ2 => tc ρ2 fun D3 ρ3 => td ρ3 fun D4 ρ4 => te ρ4 fun D5 ρ5 => i < ρ5.length ∧ noOb ρ5 i ∧ noOb ρ5 j ∧ noOb ρ5 k ∧ noOb ρ5 l ∧ noOb ρ5 m ∧ ∀ b, D.nx (((((ρ5.set i (.ob b (.lst D1))).set j (.sh D2)).set k (.sh D3)).set l (.sh D4)).set m (.sh D5))) :=
  ps_weak hps fun D σ H ⟨ρ, G, D0, s, R, h, kk⟩ =>
  ⟨[], ρ, G, _, s, R, h, fun D1 ρ1 v1 G1 H1 p q1 s1 al1 R1 nF d1 => ⟨[(p, .lst v1)], ρ1, G1, _, s.trans s1, R1, q1, fun D2 ρ2 v2 G2 H2 q2 s2 al2 R2 d2 => ⟨[(p, .lst v1)], ρ2, G2, _, (s.trans s1).trans s2, R2, q2, fun D3 ρ3 v3 G3 H3 q3 s3 al3 R3 d3 =>
    ⟨[(p, .lst v1)], ρ3, G3, _, ((s.trans s1).trans s2).trans s3, R3, q3, fun D4 ρ4 v4 G4 H4 q4 s4 al4 R4 d4 => ⟨[(p, .lst v1)], ρ4, G4, _, (((s.trans s1).trans s2).trans s3).trans s4, R4, q4, fun D5 ρ5 v5 G5 H5 ⟨l0, n1, n2, n3, n4, n5, q5⟩ s5 al5 R5 d5 => by
    refine ⟨by show 5 ≤ sizeLine; decide, fun t ob ht hd => ⟨t, [.ref p, v2, v3, v4, v5], rfl, .inl (.inr ⟨ob, upd_same⟩), rfl, .ref p, _, rfl, v2, _, rfl, v3, _, rfl, v4, _, rfl, v5, _, rfl, rfl, ?_⟩⟩
    have e0 := R5.junk (o := .frz ob (.tup [.ref p, v2, v3, v4, v5])) ht
    have sx := ((s2.trans s3).trans s4).trans s5
    have e1 := e0.take (c := .lst D1) (fun o m => nomatch m) l0 n1 ⟨_, rfl, DwAll.mono sx d1⟩
    have m2 := noOb_set (lc := .ob p (.lst D1)) hij n2
    have e2 := e1.set (noOb_ne m2) (Dw.mono ((s3.trans s4).trans s5) d2)
    have m3 := noOb_set (lc := .sh D2) hjk (noOb_set (lc := .ob p (.lst D1)) hik n3)
    have e3 := e2.set (noOb_ne m3) (Dw.mono (s4.trans s5) d3)
    have m4 := noOb_set (lc := .sh D3) hkl (noOb_set (lc := .sh D2) hjl (noOb_set (lc := .ob p (.lst D1)) hil n4))
    have e4 := e3.set (noOb_ne m4) (Dw.mono s5 d4)
    have m5 := noOb_set (lc := .sh D4) hlm (noOb_set (lc := .sh D3) hkm (noOb_set (lc := .sh D2) hjm (noOb_set (lc := .ob p (.lst D1)) him n5)))
    have e5 := e4.set (noOb_ne m5) d5
    exact kk.nx _ _ _ _ (q5 p) (s1.trans sx) ((((((al1.trans al2).trans al3).trans al4).trans al5)).trans ((Alike.set n1).trans ((Alike.set m2).trans ((Alike.set m3).trans ((Alike.set m4).trans (.set m5)))))) e5⟩⟩⟩⟩⟩
end
end Dl
namespace Dl
open PySem PySem.Spec PyProof PyProof.Rows L2 So Da
section
variable {P : Tb} {n : Nat} {X : Cx}
/-- == of data deeper than sixty-four -/
def rEqW (K : PySem.W.Frag) : R2 := fun x y H Q => ∃ d e, Dp K H x d ∧ Dp K H y e ∧ d.canLay0 = true ∧ e.canLay0 = true ∧ d.depth ≤ 300 ∧ Q (.bl (PyData.eqv d e)) H
theorem op_eqW (hu : X.A.units + 300 < cLine) : OpR X (compareOp .Eq) (rEqW X.K) := by
  intro pins s σ H x y v u Q I rx ry h
  obtain ⟨d, e, hd, he, sd, se, hde, q⟩ := h
  obtain ⟨as, r1⟩ := Dp.reads I d x v hd rx
  obtain ⟨bs, r2⟩ := Dp.reads I e y u he ry
  exact SeqAt.compareEq_reads r1 r2 sd se (by have : min d.depth e.depth ≤ d.depth := Nat.min_le_left _ _; omega) ⟨.bl _, H, I, rfl, q⟩
def eqWD : OpT := fun x y Q => x.canLay0 = true ∧ y.canLay0 = true ∧ x.depth ≤ 300 ∧ Q (.bool (PyData.eqv x y))
theorem od_eqW : OpD P n X (rEqW X.K) eqWD := fun x y dx dy F G ρ σ H Q0 Q t R h1 h2 f k =>
  ⟨_, _, Dw.dp (plain_of_lay f.1) (h1.dp R), Dw.dp (plain_of_lay f.2.1) (h2.dp R), f.1, f.2.1, f.2.2.1, k.here t R (.bl _) f.2.2.2⟩
end
end Dl
namespace Dl
open PySem PySem.Spec PyProof PyProof.Rows L2 So Da
section
variable {P : Tb} {G0 : Hp} {n : Nat} {X : Cx} {st : Stmt} {ta tb tc : DTE}
/-- a, b, c = e, e2, e3: plain local names -/
theorem ds_par3 {i j l : Nat} (hij : i ≠ j) (hil : i ≠ l) (hjl : j ≠ l) (hps : PS X st (tPar3 i j l (tCons (rdE (zOf X P) G0 n ta) (tCons (rdE (zOf X P) G0 n tb) (tCons (rdE (zOf X P) G0 n tc) tNil))))) :
    DS P G0 n X st (fun D ρ => ta ρ fun D1 ρ1 => tb ρ1 fun D2 ρ2 => tc ρ2 fun D3 ρ3 => noOb ρ3 i ∧ noOb ρ3 j ∧ noOb ρ3 l ∧ D.nx (((ρ3.set i (.sh D1)).set j (.sh D2)).set l (.sh D3))) := ps_weak hps fun D σ H ⟨ρ, G, D0, s, R, h, k⟩ =>
  ⟨[], ρ, G, _, s, R, h, fun D1 ρ1 v1 G1 H1 q1 s1 al1 R1 d1 => ⟨[], ρ1, G1, _, s.trans s1, R1, q1, fun D2 ρ2 v2 G2 H2 q2 s2 al2 R2 d2 => ⟨[], ρ2, G2, _, (s.trans s1).trans s2, R2, q2, fun D3 ρ3 v3 G3 H3 ⟨n1, n2, n3, q3⟩ s3 al3 R3 d3 => ⟨v1, v2, v3, rfl, by
    have m2 := noOb_set (lc := .sh D1) hij n2
    have m3 := noOb_set (lc := .sh D2) hjl (noOb_set (lc := .sh D1) hil n3)
    exact k.nx _ _ _ _ q3 ((s1.trans s2).trans s3) (((al1.trans al2).trans al3).trans ((Alike.set n1).trans ((Alike.set m2).trans (.set m3)))) (((R3.set (noOb_ne n1) (Dw.mono (s2.trans s3) d1)).set (noOb_ne m2) (Dw.mono s3 d2)).set (noOb_ne m3) d3)⟩⟩⟩⟩
end
end Dl
set_option Elab.async false
set_option linter.all false
set_option maxRecDepth 100000
set_option maxHeartbeats 4000000
namespace Lw
open PySem PySem.Spec PyProof PyProof.Rows L2 So Da Dl
def top (i : Nat) : Stmt := PySem.Challenge.pw_stillopen_k05_whole_markup_cut_anywhere.main.body.getD i (.Pass ⟨0, 0, 0, 0⟩)
abbrev c_BadForm : Stmt := top 2
abbrev c_BadStream : Stmt := top 3
abbrev c_BadText : Stmt := top 4
structure Tz (K : PySem.W.Frag) (mg : Str → Option Value) : Prop where
  kd : ∀ (p : Addr) (ob : Obj), K.lookup p = some ob → ob.cls = .type "tuple" → ob.dict = none
  abs : mg "abs" = none
  all : mg "all" = none
  enumerate : mg "enumerate" = none
  int : mg "int" = none
  isi : mg "isinstance" = none
  len : mg "len" = none
  list : mg "list" = none
  max : mg "max" = none
  min : mg "min" = none
  range : mg "range" = none
  repr : mg "repr" = none
  reversed : mg "reversed" = none
  str : mg "str" = none
  tuple : mg "tuple" = none
  c_LETTERS : ∃ t, mg "LETTERS" = some (.str "abcdefghijklmnopqrstuvwxyz" t)
  c_LABEL_MOST : ∃ t, mg "LABEL_MOST" = some (.int 12 t)
  c_TEXT_MOST : ∃ t, mg "TEXT_MOST" = some (.int 65535 t)
theorem hu1_of {k : Nat} {A : Around} (r : Room k A) : A.units + 65 < cLine := by have := r.un; omega
end Lw
set_option Elab.async false
set_option linter.all false
set_option maxRecDepth 100000
set_option maxHeartbeats 1000000
set_option pp.deepTerms true
set_option pp.maxSteps 200000
namespace Lw
open PySem PySem.Spec PyProof PyProof.Rows L2 So Da Dl
local macro_rules | `(tactic| walk_at "z") => `(tactic| repeat (first | refine ⟨(by decide), ?_⟩ | refine ⟨(by omega), ?_⟩ | refine ⟨rfl, ?_⟩))
section
variable {Z : Zw}
def intW (D : PyData) (k : Int → Prop) : Prop := match D with
  | .int i => k i
  | _ => False
theorem intW_inv {D : PyData} {k : Int → Prop} (h : intW D k) : ∃ i, D = .int i ∧ k i := by
  cases D <;> first | exact ⟨_, rfl, h⟩ | exact h.elim
theorem hiD {D : PyData} (hs : isSq D = true) {k : List PyData → Prop} (h : k (itD D)) : itemsD D k := by
  cases D <;> first | exact h | exact nomatch hs
def numB (D : PyData) : Bool := match D with
  | .int i => decide (0 ≤ i)
  | _ => false
abbrev T_is_number : TD := T1 fun D Q _ => Q (.bool (numB D))
def belB (D : PyData) (n : Int) : Bool := match D with
  | .int i => decide (0 ≤ i) && decide (i < n)
  | _ => false
abbrev T_is_number_below : TD := T2 fun D n Q _ => intW n fun m => Q (.bool (belB D m))
abbrev T_is_sequence : TD := T1 fun D Q _ => Q (.bool (isSq D))
abbrev s_is_sequence : Stmt := top 9
theorem sc_is_sequence : FnScope ["value"] ["value"] (defScope s_is_sequence) := ⟨rfl, rfl, rfl, by decide +kernel, rfl, by decide +kernel, by decide +kernel⟩
local macro_rules | `(tactic| walk_at "d") => `(tactic| simp only [↓dSeq, ↓dFor, ↓reprD, ↓dCallK, ↓dIfS, ↓dAndV, ↓dOrV, ↓dUn, ↓dOp, ↓dC, ↓dVar, ↓derefW, ↓deref, ↓known, ↓noOb, ↓nbO, ↓start0, ↓endsOf, ↓outA, ↓toB, ↓dAnd, ↓dOr, ↓dNot, ↓ofB, ↓dIf, ↓dChain, ↓dgName, ↓dgSeq, ↓dgCons, ↓dgNil, ↓dLc, ↓popW, ↓atOl, ↓isOl, ↓ownS, ↓frzD, ↓dCall, argsOf, argLc, obSlots, upS, upO, ↓noObs, ↓wipeD, List.map_cons, List.map_nil, List.length_cons, List.length_nil, Nat.sub_self, Nat.zero_add, Nat.reduceAdd, Nat.reduceSub, List.replicate, List.append_nil, List.cons_append, List.nil_append, List.getElem?_cons_zero, List.getElem?_cons_succ, List.getElem?_nil, List.set, List.head?, List.tail, Option.getD_some, Option.getD_none, List.nodup_nil, List.nodup_cons, List.not_mem_nil, List.mem_cons, List.mem_singleton, or_false, Nat.reduceEqDiff, true_and, and_true, Bool.not_true, Bool.not_false, if_true, Bool.false_eq_true, if_false, ite_true, ite_false, not_false_eq_true, reduceCtorEq, eqD_int, eqD_str, eqD_bl, eqD_tuple, eqD_list, eqD_tupleR, eqD_listR, eqD_non, neD_int, neD_str, neD_bl, neD_tuple, neD_list, neD_tupleR, neD_listR, neD_non, ↓isD, ↓notD, ix_0, ix_1, ix_2, ix_3, ix_4, ix_L0, ix_L1, ix_L2, itemsD_L, itemsD_T, tupleD_L, tupleD_T, listD_L, listD_T, lenD_L, lenD_T, lenD_S, slD_L, slD_T, addD_I, addD_S, addD_T, addD_L, subD_I, mulD_I, ltD_I, ltD_S, leD_I, gtD_I, geD_I, modD_I, fdivD_I, powD_I, intD_I, intD_B, negD_I, isND_N, isND_I, isND_S, isND_B, isND_T, isND_L, sq_T, sq_L, sq_N, sq_I, sq_S, sq_B, at_0, at_1, at_2, at_3, at_4, ↓isiD, pick, List.filterMap_cons_some, List.filterMap_nil, List.filterMap_cons, ↓ownC, ↓T1, ↓T2, ↓T3, ↓T4, ↓dHeard, ↓capsD, ↓slotsD, ↓lamW, lamSto, cpLc, ↓dHeardS, ↓dAsks, ↓asksW, ↓heardT, ↓Tbox, ↓Ttake, dForN, forNW, fnW, slSD, repD2, ↓intW])
theorem ok_is_sequence {f : Addr} {fd : FuncData} (F : Fun Z.K "is_sequence" "is_sequence" s_is_sequence f fd) (T : Tz Z.K Z.mg) : FnD Z.Pg Z.w Z.K Z.mg Z.base CX0 1 f fd ["value"] (spT Z (T_is_sequence)) := by
  refine okD F sc_is_sequence (fun as Q er h => ?_) (fun cdv A outer s H E G0 ca hr hgd hca => (dss_one (ds_ret (de_isiSq (by rfl) T.isi (by rfl) T.list (by rfl) T.tuple (dr_var 0))))) (fun ca as Q er h => ?_)
  · obtain ⟨_, rfl, _⟩ := t1_inv h
    rfl
  · obtain ⟨a, rfl, q⟩ := t1_inv h
    walk_at "d"
    exact q
def rowB (D : PyData) (n : Int) : Bool := isSq D && decide (((itD D).length : Int) = n)
abbrev T_is_row_of : TD := T2 fun D n Q _ => intW n fun m => Q (.bool (rowB D m))
abbrev s_is_row_of : Stmt := top 10
theorem sc_is_row_of : FnScope ["value", "many"] ["value", "many"] (defScope s_is_row_of) := ⟨rfl, rfl, rfl, by decide +kernel, rfl, by decide +kernel, by decide +kernel⟩
theorem ok_is_row_of {f : Addr} {fd : FuncData} (F : Fun Z.K "is_row_of" "is_row_of" s_is_row_of f fd) (T : Tz Z.K Z.mg)
    {f_is_sequence : Addr} {fd_is_sequence : FuncData} (D_is_sequence : Df Z.K Z.mg "is_sequence" s_is_sequence ["value"] f_is_sequence fd_is_sequence) (G_is_sequence : FnD Z.Pg Z.w Z.K Z.mg Z.base CX0 1 f_is_sequence fd_is_sequence ["value"] (spT Z (T_is_sequence))) : FnD Z.Pg Z.w Z.K Z.mg Z.base CX0 2 f fd ["value", "many"] (spT Z (T_is_row_of)) := by
  refine okD F sc_is_row_of (fun as Q er h => ?_) (fun cdv A outer s H E G0 ca hr hgd hca => (dss_one (ds_ret (de_and (de_call G_is_sequence hr hgd (by rfl) D_is_sequence.g D_is_sequence.F.kp D_is_sequence.b (drs_cons (dr_var 0) drs_nil)) (de_one (de_cmp (op_eqA hr.units) od_eq (dr_of (de_callB call_lenA cd_len (by rfl) T.len (by decide +kernel) (dr_var 0))) (dr_var 1) (nomark _))))))) (fun ca as Q er h => ?_)
  · obtain ⟨_, _, rfl, _⟩ := t2_inv h
    rfl
  · obtain ⟨a, b, rfl, q⟩ := t2_inv h
    obtain ⟨m, rfl, q⟩ := intW_inv q
    walk_at "d"
    cases a <;> exact q
def txtB (D : PyData) : Bool := match D with
  | .str z => decide ((z.length : Int) ≤ 65535)
  | _ => false
abbrev T_is_text : TD := T1 fun D Q _ => (∀ z, D = .str z → z.length ≤ sizeLine) ∧ Q (.bool (txtB D))
abbrev s_is_text : Stmt := top 13
theorem sc_is_text : FnScope ["value"] ["value"] (defScope s_is_text) := ⟨rfl, rfl, rfl, by decide +kernel, rfl, by decide +kernel, by decide +kernel⟩
theorem ok_is_text {f : Addr} {fd : FuncData} (F : Fun Z.K "is_text" "is_text" s_is_text f fd) (T : Tz Z.K Z.mg) : FnD Z.Pg Z.w Z.K Z.mg Z.base CX0 1 f fd ["value"] (spT Z (T_is_text)) := by
  refine okD F sc_is_text (fun as Q er h => ?_) (fun cdv A outer s H E G0 ca hr hgd hca => (dss_one (ds_ret (de_and (de_isi (T := "str") (kf := isStr) kitf_str (by rfl) T.isi (by rfl) T.str (by decide +kernel) (by decide) (by decide) (dr_var 0)) (de_one (de_cmp op_le od_le (dr_of (de_callB call_lenA cd_len (by rfl) T.len (by decide +kernel) (dr_var 0))) (dr_of (de_gInt (i := 65535) (by rfl) T.c_TEXT_MOST)) (nomark _))))))) (fun ca as Q er h => ?_)
  · obtain ⟨_, rfl, _⟩ := t1_inv h
    rfl
  · obtain ⟨a, rfl, q⟩ := t1_inv h
    walk_at "d"
    cases a with
    | str z => exact ⟨q.1 z rfl, q.2⟩
    | _ => exact q.2
def stB (many : Int) (D : PyData) : Bool := match D with
  | .int i => decide (0 ≤ i) && decide (i < many)
  | _ => false
def mapB (D : PyData) (len many : Int) : Bool := rowB D len && (itD D).all (stB many)
abbrev T_is_map : TD := T3 fun D l m Q _ => intW l fun len => intW m fun many => Q (.bool (mapB D len many))
def mapsB (D : PyData) (len many : Int) : Bool := rowB D len && (itD D).all fun r => mapB r many many
abbrev T_are_maps : TD := T3 fun D l m Q _ => intW l fun len => intW m fun many => Q (.bool (mapsB D len many))
end
end Lw
set_option Elab.async false
set_option linter.all false
set_option maxRecDepth 100000
set_option maxHeartbeats 1000000
set_option pp.deepTerms true
set_option pp.maxSteps 200000
namespace Lw
open PySem PySem.Spec PyProof PyProof.Rows L2 So Da Dl
local macro_rules | `(tactic| walk_at "z") => `(tactic| repeat (first | refine ⟨(by decide), ?_⟩ | refine ⟨(by omega), ?_⟩ | refine ⟨rfl, ?_⟩))
section
variable {Z : Zw}
def lets : Str := "abcdefghijklmnopqrstuvwxyz"
def isLab (z : Str) : Bool := decide ((1 : Int) ≤ (z.length : Int)) && decide ((z.length : Int) ≤ 12) && z.cps.toList.all fun c => decide (c ∈ lets.cps.toList)
def labD : PyData → Bool
  | .str z => isLab z
  | _ => false
abbrev s_is_label : Stmt := top 11
theorem sc_is_label : FnScope ["value"] ["value"] (defScope s_is_label) := ⟨rfl, rfl, rfl, by decide +kernel, rfl, by decide +kernel, by decide +kernel⟩
abbrev T_is_label : TD := T1 fun D Q _ => (∀ z, D = .str z → z.length ≤ 100000) ∧ Q (.bool (labD D))
theorem ok_is_label {f c : Addr} {fd : FuncData} (F : DfC Z.K Z.mg "is_label" s_is_label ["value"] f fd c) (T : Tz Z.K Z.mg) (TB : GxR.TabB Z.base Z.mg c Z.T.P) (ap : Apt Z.T) : FnD Z.Pg Z.w Z.K Z.mg Z.base CX0 1 f fd ["value"] (spT Z T_is_label) := by
  obtain ⟨_, tm⟩ := T.c_LABEL_MOST
  obtain ⟨_, tl⟩ := T.c_LETTERS
  refine .of (F.ok sc_is_label (fun vs H Q E ⟨G, as, Q0, er, tb, R, hT, _⟩ => ?_) (fun A outer s H vs Q E hr ⟨G, as, Q0, er, tb, R, hT, hQ, _⟩ => ?_))
  · obtain ⟨D, rfl, _⟩ := t1_inv hT
    have := R.len
    rw [List.length_map] at this
    exact this
  · obtain ⟨D, rfl, hz, q⟩ := t1_inv hT
    obtain ⟨v, rfl⟩ := one_arg R
    have hD := R.dp (rep_dp1 R)
    have t := R.tab tb
    have k0 : ∀ b : Bool, b = labD D → Q (.bl b) H := fun b e => hQ (.bool b) _ _ _ _ (by rw [e]; exact q) (.sh .nil) (Ex.refl tb) R (.bl b)
    have k1 : ∀ b : Bool, b = labD D → ∀ H', GxR.Tabbed Z.T.P H H' → Q (.bl b) H' := fun b e H' s1 => by
      obtain ⟨G', s2, R'⟩ := R.tabbed ap tb s1
      exact hQ (.bool b) _ _ _ _ (by rw [e]; exact q) (.sh .nil) s2 R' (.bl b)
    refine ⟨_, pss_cons (ps_if (PW.pt (pw_or (pt_not (pt_val (pe_callB call_isY (by rfl) T.isi (by decide +kernel) (pa_cons (pv 0) (pa_cons (pe_bltn (v := .ty "str") (by rfl) T.str (by decide +kernel) rfl) pa_nil)))))
        (pw_or1 (pt_not (pt_chain op_le op_le pe_int (pe_callB call_len_str (by rfl) T.len (by decide +kernel) (pa_cons (pv 0) pa_nil)) (pe_glob (v := .int 12) (by rfl) tm ⟨_, rfl⟩))))))
        (pss_one (ps_ret pe_bl)) pss_nil)
      (pss_one (ps_ret (SoGx.pe_allG (c := c) (P := Z.T.P) (pb := fun c => decide (c ∈ lets.cps.toList)) hr (by rfl) T.all (by decide +kernel) TB rfl ⟨rfl, rfl, by decide +kernel, rfl, rfl, fun y hy e => False.elim (by revert hy e; revert y; decide +kernel)⟩ (pv 0) (SoGx.elt_in rfl rfl rfl tl) (fun _ => rfl)))), ?_⟩
    obtain ⟨ty, hty, hk⟩ := tyAll kitf_str hD
    refine ⟨_, rfl, _, _, _, _, _, rfl, .ty _, hty, hk, _, rfl, ?_⟩
    cases hD with
    | bl b => exact iteT (k0 _ rfl)
    | non => exact iteT (k0 _ rfl)
    | int b => exact iteT (k0 _ rfl)
    | lst _ _ => exact iteT (k0 _ rfl)
    | tup _ _ => exact iteT (k0 _ rfl)
    | dic _ _ => exact iteT (k0 _ rfl)
    | clo _ _ => exact iteT (k0 _ rfl)
    | str z =>
      refine iteF ?_
      refine ⟨_, rfl, z, rfl, Nat.le_trans (hz z rfl) (by decide), _, _, rfl, rfl, _, rfl, ?_⟩
      refine ite2 (fun h1 => ?_) (fun h1 => ?_)
      · refine ⟨_, _, rfl, rfl, _, rfl, ?_⟩
        by_cases h2 : (z.length : Int) ≤ 12
        · rw [decide_eq_true h2]
          refine iteF ?_
          refine ⟨_, rfl, z, rfl, t.1, fun H2 hT => k1 _ ?_ H2 hT⟩
          show _ = isLab z
          unfold isLab
          rw [h1, decide_eq_true h2]
          rfl
        · rw [decide_eq_false h2]
          refine iteT (k0 _ ?_)
          show _ = isLab z
          unfold isLab
          rw [decide_eq_false h2, Bool.and_false, Bool.false_and]
      · refine ⟨false, rfl, iteT (k0 _ ?_)⟩
        show _ = isLab z
        unfold isLab
        rw [Bool.eq_false_iff.mpr h1, Bool.false_and, Bool.false_and]
def nD (n : Nat) : PyData := .int (n : Nat)
def rowD (r : List Nat) : PyData := .tuple (r.map nD)
def rowsD (rs : List (List Nat)) : PyData := .tuple (rs.map rowD)
def ansD (r : List Bool) : PyData := .tuple (r.map .bool)
structure Ma where
  ls : List Str
  xs : List Str
  tn : Nat
  t0 : Nat
  tx : List (List Nat)
  tc : List (List Nat)
  an : List (List Bool)
  im : Nat
  st : List Nat
  ix : List (List Nat)
  ic : List (List Nat)
def topD (M : Ma) : PyData := .tuple [nD M.tn, nD M.t0, rowsD M.tx, rowsD M.tc, .tuple (M.an.map ansD)]
def innD (M : Ma) : PyData := .tuple [nD M.im, rowD M.st, rowsD M.ix, rowsD M.ic]
def maD (M : Ma) : PyData := .tuple [.tuple (M.ls.map .str), .tuple (M.xs.map .str), topD M, innD M]
def asc : List Str → Bool
  | a :: b :: r => decide (a.cps.toList < b.cps.toList) && asc (b :: r)
  | _ => true
def mapOk (r : List Nat) (len many : Nat) : Prop := r.length = len ∧ ∀ s ∈ r, s < many
def mapsOk (rs : List (List Nat)) (len many : Nat) : Prop := rs.length = len ∧ ∀ r ∈ rs, mapOk r many many
structure MaOk (M : Ma) : Prop where
  l6 : M.ls.length ≤ 6
  lab : M.ls.all isLab = true
  la : asc M.ls = true
  x4 : M.xs.length ≤ 4
  txt : ∀ z ∈ M.xs, z.length ≤ 65535
  xa : asc M.xs = true
  tn : 1 ≤ M.tn ∧ M.tn ≤ 200
  t0 : M.t0 < M.tn
  tx : mapsOk M.tx (M.xs.length + 1) M.tn
  tc : mapsOk M.tc M.im M.tn
  an : M.an.length = M.tn
  wl : ∃ m, 1 ≤ m ∧ m ≤ 8 ∧ ∀ r ∈ M.an, r.length = m
  im : 1 ≤ M.im ∧ M.im ≤ 200
  st : mapOk M.st (M.ls.length + 1) M.im
  ix : mapsOk M.ix (M.xs.length + 1) M.im
  ic : mapsOk M.ic M.im M.im
theorem ix_ma0 {M : Ma} {Q : PyData → Prop} : ixD (maD M) (.int 0) Q = Q (.tuple (M.ls.map .str)) := ix_0
theorem ix_ma1 {M : Ma} {Q : PyData → Prop} : ixD (maD M) (.int 1) Q = Q (.tuple (M.xs.map .str)) := ix_1
theorem ix_ma2 {M : Ma} {Q : PyData → Prop} : ixD (maD M) (.int 2) Q = Q (topD M) := ix_2
theorem ix_ma3 {M : Ma} {Q : PyData → Prop} : ixD (maD M) (.int 3) Q = Q (innD M) := ix_3
theorem ix_inn0 {M : Ma} {Q : PyData → Prop} : ixD (innD M) (.int 0) Q = Q (nD M.im) := ix_0
theorem ix_inn1 {M : Ma} {Q : PyData → Prop} : ixD (innD M) (.int 1) Q = Q (rowD M.st) := ix_1
theorem ix_inn2 {M : Ma} {Q : PyData → Prop} : ixD (innD M) (.int 2) Q = Q (rowsD M.ix) := ix_2
theorem ix_inn3 {M : Ma} {Q : PyData → Prop} : ixD (innD M) (.int 3) Q = Q (rowsD M.ic) := ix_3
theorem ix_top0 {M : Ma} {Q : PyData → Prop} : ixD (topD M) (.int 0) Q = Q (nD M.tn) := ix_0
theorem ix_top1 {M : Ma} {Q : PyData → Prop} : ixD (topD M) (.int 1) Q = Q (nD M.t0) := ix_1
theorem ix_top2 {M : Ma} {Q : PyData → Prop} : ixD (topD M) (.int 2) Q = Q (rowsD M.tx) := ix_2
theorem ix_top3 {M : Ma} {Q : PyData → Prop} : ixD (topD M) (.int 3) Q = Q (rowsD M.tc) := ix_3
theorem ix_top4 {M : Ma} {Q : PyData → Prop} : ixD (topD M) (.int 4) Q = Q (.tuple (M.an.map ansD)) := ix_4
end
end Lw
set_option Elab.async false
set_option linter.all false
set_option maxRecDepth 100000
set_option maxHeartbeats 1000000
set_option pp.deepTerms true
set_option pp.maxSteps 200000
namespace Lw
open PySem PySem.Spec PyProof PyProof.Rows L2 So Da Dl
local macro_rules | `(tactic| walk_at "z") => `(tactic| repeat (first | refine ⟨(by decide), ?_⟩ | refine ⟨(by omega), ?_⟩ | refine ⟨rfl, ?_⟩))
section
variable {Z : Zw}
abbrev T_is_ascending : TD := T1 fun D Q _ => ∃ L : List Str, D = .tuple (L.map .str) ∧ L.length ≤ 100 ∧ asc L = true ∧ Q (.bool true)
abbrev T_is_state_count : TD := T1 fun D Q _ => ∃ n : Nat, D = nD n ∧ 1 ≤ n ∧ n ≤ 200 ∧ Q (.bool true)
abbrev T_is_answer : TD := T2 fun D n Q _ => ∃ r m, D = ansD r ∧ n = nD m ∧ r.length = m ∧ m ≤ 8 ∧ Q (.bool true)
abbrev T_as_tuples : TD := T1 fun D Q _ => ∃ ds, D = .tuple ds ∧ ds.length ≤ 1000 ∧ (∀ d ∈ ds, ∃ es, d = .tuple es) ∧ Q D
abbrev T_kind_of : TD := T2 fun D V Q _ => ∃ (L : List Str) (z : Str), D = .tuple (L.map .str) ∧ V = .str z ∧ Q (nD (L.idxOf z))
end
end Lw
set_option Elab.async false
set_option linter.all false
set_option maxRecDepth 100000
set_option maxHeartbeats 1000000
set_option pp.deepTerms true
set_option pp.maxSteps 200000
namespace Lw
open PySem PySem.Spec PyProof PyProof.Rows L2 So Da Dl
local macro_rules | `(tactic| walk_at "z") => `(tactic| repeat (first | refine ⟨(by decide), ?_⟩ | refine ⟨(by omega), ?_⟩ | refine ⟨rfl, ?_⟩))
section
variable {Z : Zw}
def lsD (L : List Str) : PyData := .tuple (L.map .str)
theorem sq_tup {ds : List PyData} : isSq (.tuple ds) = true := rfl
abbrev T_are_labels : TD := T1 fun D Q _ => ∃ M : Ma, D = lsD M.ls ∧ MaOk M ∧ Q (.bool true)
abbrev T_are_texts : TD := T1 fun D Q _ => ∃ M : Ma, D = lsD M.xs ∧ MaOk M ∧ Q (.bool true)
def ansAll (M : Ma) : PyData := .tuple (M.an.map ansD)
abbrev T_are_answers : TD := T2 fun D m Q _ => ∃ M : Ma, D = ansAll M ∧ m = nD M.tn ∧ MaOk M ∧ Q (.bool true)
abbrev T_are_inners : TD := T3 fun D l x Q _ => ∃ M : Ma, D = innD M ∧ l = lsD M.ls ∧ x = lsD M.xs ∧ MaOk M ∧ Q (.bool true)
abbrev T_are_tops : TD := T3 fun D x m Q _ => ∃ M : Ma, D = topD M ∧ x = lsD M.xs ∧ m = nD M.im ∧ MaOk M ∧ Q (.bool true)
end
end Lw
set_option Elab.async false
set_option linter.all false
set_option maxRecDepth 100000
set_option maxHeartbeats 1000000
set_option pp.deepTerms true
set_option pp.maxSteps 200000
namespace Lw
open PySem PySem.Spec PyProof PyProof.Rows L2 So Da Dl
local macro_rules | `(tactic| walk_at "z") => `(tactic| repeat (first | refine ⟨(by decide), ?_⟩ | refine ⟨(by omega), ?_⟩ | refine ⟨rfl, ?_⟩))
section
variable {Z : Zw}
inductive Sg where
  | op (l : Str)
  | cl
  | tx (z : Str)
def sgD : Sg → PyData
  | .op l => .tuple [.str "open", .str l]
  | .cl => .tuple [.str "close"]
  | .tx z => .tuple [.str "text", .str z]
def Sg.ok : Sg → Prop
  | .op l => isLab l = true
  | .cl => True
  | .tx z => z.length ≤ 65535
theorem s1 : decide (("open" : Str) = "close") = false := by decide +kernel
theorem s2 : decide (("text" : Str) = "close") = false := by decide +kernel
theorem s3 : decide (("text" : Str) = "open") = false := by decide +kernel
theorem s4 : decide (("close" : Str) = "open") = false := by decide +kernel
theorem s5 : decide (("close" : Str) = "text") = false := by decide +kernel
theorem s6 : decide (("open" : Str) = "text") = false := by decide +kernel
theorem at1 {a : PyData} : atI [a] 0 = some a := rfl
theorem sq_lst {l : List PyData} : isSq (.list l) = true := rfl
def fauD (D : PyData) : Option Int := if isSq D = false then some (-1) else match itD D with
  | [] => some (-1)
  | [a] => if isS a "close" = true then none else some (-1)
  | [a, b] => if isS a "open" = true then (if labD b = true then none else some 1) else if isS a "text" = true then (if txtB b = true then none else some 1) else some (-1)
  | _ => some (-1)
def oiD : Option Int → PyData
  | none => .none
  | some i => .int i
theorem so_c : PyData.strOk "close" = true := by decide +kernel
theorem so_o : PyData.strOk "open" = true := by decide +kernel
theorem so_t : PyData.strOk "text" = true := by decide +kernel
abbrev T_sign_fault : TD := T1 fun D Q _ => OkD D ∧ Q (oiD (fauD D))
abbrev s_sign_fault : Stmt := top 15
theorem sc_sign_fault : FnScope ["value"] ["value"] (defScope s_sign_fault) := ⟨rfl, rfl, rfl, by decide +kernel, rfl, by decide +kernel, by decide +kernel⟩
local macro_rules | `(tactic| walk_at "d") => `(tactic| simp only [↓dSeq, ↓dFor, ↓reprD, ↓dCallK, ↓dIfS, ↓dAndV, ↓dOrV, ↓dUn, ↓dOp, ↓dC, ↓dVar, ↓derefW, ↓deref, ↓known, ↓noOb, ↓nbO, ↓start0, ↓endsOf, ↓outA, ↓toB, ↓dAnd, ↓dOr, ↓dNot, ↓ofB, ↓dIf, ↓dChain, ↓dgName, ↓dgSeq, ↓dgCons, ↓dgNil, ↓dLc, ↓popW, ↓atOl, ↓isOl, ↓ownS, ↓frzD, ↓dCall, argsOf, argLc, obSlots, upS, upO, ↓noObs, ↓wipeD, List.map_cons, List.map_nil, List.length_cons, List.length_nil, Nat.sub_self, Nat.zero_add, Nat.reduceAdd, Nat.reduceSub, List.replicate, List.append_nil, List.cons_append, List.nil_append, List.getElem?_cons_zero, List.getElem?_cons_succ, List.getElem?_nil, List.set, List.head?, List.tail, Option.getD_some, Option.getD_none, List.nodup_nil, List.nodup_cons, List.not_mem_nil, List.mem_cons, List.mem_singleton, or_false, Nat.reduceEqDiff, true_and, and_true, Bool.not_true, Bool.not_false, if_true, Bool.false_eq_true, if_false, ite_true, ite_false, not_false_eq_true, reduceCtorEq, eqD_int, eqD_str, eqD_bl, eqD_tuple, eqD_list, eqD_tupleR, eqD_listR, eqD_non, neD_int, neD_str, neD_bl, neD_tuple, neD_list, neD_tupleR, neD_listR, neD_non, ↓isD, ↓notD, ix_0, ix_1, ix_2, ix_3, ix_4, ix_L0, ix_L1, ix_L2, itemsD_L, itemsD_T, tupleD_L, tupleD_T, listD_L, listD_T, lenD_L, lenD_T, lenD_S, slD_L, slD_T, addD_I, addD_S, addD_T, addD_L, subD_I, mulD_I, ltD_I, ltD_S, leD_I, gtD_I, geD_I, modD_I, fdivD_I, powD_I, intD_I, intD_B, negD_I, isND_N, isND_I, isND_S, isND_B, isND_T, isND_L, sq_T, sq_L, sq_N, sq_I, sq_S, sq_B, at_0, at_1, at_2, at_3, at_4, ↓isiD, pick, List.filterMap_cons_some, List.filterMap_nil, List.filterMap_cons, ↓ownC, ↓T1, ↓T2, ↓T3, ↓T4, ↓dHeard, ↓capsD, ↓slotsD, ↓lamW, lamSto, cpLc, ↓dHeardS, ↓dAsks, ↓asksW, ↓heardT, ↓Tbox, ↓Ttake, dForN, forNW, fnW, slSD, repD2, ↓intW, ix_ma0, ix_ma1, ix_ma2, ix_ma3, ix_inn0, ix_inn1, ix_inn2, ix_inn3, ix_top0, ix_top1, ix_top2, ix_top3, ix_top4])
theorem ok_sign_fault {f : Addr} {fd : FuncData} (F : Fun Z.K "_sign_fault" "_sign_fault" s_sign_fault f fd) (T : Tz Z.K Z.mg)
    {f_is_sequence : Addr} {fd_is_sequence : FuncData} (D_is_sequence : Df Z.K Z.mg "is_sequence" s_is_sequence ["value"] f_is_sequence fd_is_sequence) (G_is_sequence : FnD Z.Pg Z.w Z.K Z.mg Z.base CX0 1 f_is_sequence fd_is_sequence ["value"] (spT Z (T_is_sequence)))
    {f_is_label : Addr} {fd_is_label : FuncData} (D_is_label : Df Z.K Z.mg "is_label" s_is_label ["value"] f_is_label fd_is_label) (G_is_label : FnD Z.Pg Z.w Z.K Z.mg Z.base CX0 1 f_is_label fd_is_label ["value"] (spT Z (T_is_label)))
    {f_is_text : Addr} {fd_is_text : FuncData} (D_is_text : Df Z.K Z.mg "is_text" s_is_text ["value"] f_is_text fd_is_text) (G_is_text : FnD Z.Pg Z.w Z.K Z.mg Z.base CX0 1 f_is_text fd_is_text ["value"] (spT Z (T_is_text))) : FnD Z.Pg Z.w Z.K Z.mg Z.base CX0 2 f fd ["value"] (spT Z (T_sign_fault)) := by
  refine okD F sc_sign_fault (fun as Q er h => ?_) (fun cdv A outer s H E G0 ca hr hgd hca => (dss_cons (ds_if (DW.dt (dw_or (dt_not (dt_val (de_call G_is_sequence hr hgd (by rfl) D_is_sequence.g D_is_sequence.F.kp D_is_sequence.b (drs_cons (dr_var 0) drs_nil)))) (dw_or1 (dt_cmp (op_eqA hr.units) od_eq (dr_of (de_callB call_lenA cd_len (by rfl) T.len (by decide +kernel) (dr_var 0))) (dr_of de_int) (nomark _)))))
        (dss_one (ds_ret (de_neg de_int)))
        dss_nil)
      (dss_cons (ds_if (DW.dt (dw_and (dt_cmp (op_eqA hr.units) od_eq (dr_of (de_ix (dr_var 0) (dr_of de_int))) (dr_of de_str) (nomark _)) (dw_and1 (dt_cmp (op_eqA hr.units) od_eq (dr_of (de_callB call_lenA cd_len (by rfl) T.len (by decide +kernel) (dr_var 0))) (dr_of de_int) (nomark _)))))
        (dss_one (ds_ret de_non))
        dss_nil)
      (dss_cons (ds_if (dt_cmp (op_neA hr.units) od_ne (dr_of (de_callB call_lenA cd_len (by rfl) T.len (by decide +kernel) (dr_var 0))) (dr_of de_int) (nomark _))
        (dss_one (ds_ret (de_neg de_int)))
        dss_nil)
      (dss_cons (ds_if (dt_cmp (op_eqA hr.units) od_eq (dr_of (de_ix (dr_var 0) (dr_of de_int))) (dr_of de_str) (nomark _))
        (dss_one (ds_ret (de_if (dt_val (de_call G_is_label hr hgd (by rfl) D_is_label.g D_is_label.F.kp D_is_label.b (drs_cons (dr_of (de_ix (dr_var 0) (dr_of de_int))) drs_nil))) de_non de_int)))
        dss_nil)
      (dss_cons (ds_if (dt_cmp (op_eqA hr.units) od_eq (dr_of (de_ix (dr_var 0) (dr_of de_int))) (dr_of de_str) (nomark _))
        (dss_one (ds_ret (de_if (dt_val (de_call G_is_text hr hgd (by rfl) D_is_text.g D_is_text.F.kp D_is_text.b (drs_cons (dr_of (de_ix (dr_var 0) (dr_of de_int))) drs_nil))) de_non de_int)))
        dss_nil)
      (dss_one (ds_ret (de_neg de_int))))))))) (fun ca as Q er h => ?_)
  · obtain ⟨_, rfl, _⟩ := t1_inv h
    rfl
  · obtain ⟨a, rfl, q⟩ := t1_inv h
    obtain ⟨ok, q⟩ := q
    cases a with
    | dict _ => exact nomatch ok.fit
    | list xs =>
      match xs, ok, q with
      | [], ok, q =>
        walk_at "d"
        simp [fauD, oiD, sq_lst] at q ⊢
        exact q
      | [x], ok, q =>
        walk_at "d"
        have ox := okD_it ok x List.mem_cons_self
        rw [if_neg (by decide)]
        refine eqD_S ox.sh so_c ?_
        cases e : isS x "close" <;> (simp [e, fauD, oiD, sq_lst, itD] at q ⊢; exact q)
      | [x, y], ok, q =>
        walk_at "d"
        have ox := okD_it ok x List.mem_cons_self
        have oy := okD_it ok y (List.mem_cons_of_mem _ List.mem_cons_self)
        have ys : ∀ z, y = .str z → z.length ≤ 100000 := fun z e => by
          rw [e] at oy
          exact okD_str oy
        have last : eqD x (.str "open") fun z => match z with
            | .bool b => if b = true then (∀ z, y = .str z → z.length ≤ 100000) ∧ (if labD y = true then Q .none [.sh (.list [x, y])] else Q (.int 1) [.sh (.list [x, y])])
              else eqD x (.str "text") fun z => match z with
                | .bool b => if b = true then (∀ z, y = .str z → z.length ≤ sizeLine) ∧ (if txtB y = true then Q .none [.sh (.list [x, y])] else Q (.int 1) [.sh (.list [x, y])]) else Q (.int (-1)) [.sh (.list [x, y])]
                | _ => False
            | _ => False := by
          refine eqD_S ox.sh so_o ?_
          cases e : isS x "open" with
          | true =>
            refine ⟨ys, ?_⟩
            cases e2 : labD y <;> (simp [e, e2, fauD, oiD, sq_lst, itD] at q ⊢; exact q)
          | false =>
            dsimp only
            rw [if_neg (by decide)]
            refine eqD_S ox.sh so_t ?_
            cases e3 : isS x "text" with
            | true =>
              refine ⟨fun z h => Nat.le_trans (ys z h) (by decide), ?_⟩
              cases e2 : txtB y <;> (simp [e, e2, e3, fauD, oiD, sq_lst, itD] at q ⊢; exact q)
            | false =>
              simp [e, e3, fauD, oiD, sq_lst, itD] at q ⊢
              exact q
        rw [if_neg (by decide)]
        refine eqD_S ox.sh so_c ?_
        cases e : isS x "close" with
        | true =>
          dsimp only
          rw [if_pos rfl, if_neg (by decide), if_neg (by decide)]
          exact last
        | false =>
          dsimp only
          rw [if_neg (by decide), if_neg (by decide)]
          exact last
      | x :: y :: z :: l, ok, q =>
        walk_at "d"
        have ox := okD_it ok x List.mem_cons_self
        rw [if_neg (by simp; omega)]
        refine eqD_S ox.sh so_c ?_
        have e2 : ¬ (((l.length + 1 + 1 + 1 : Nat) : Int) = 2) := by omega
        have e1 : ¬ (((l.length + 1 + 1 + 1 : Nat) : Int) = 1) := by omega
        simp only [fauD, oiD, sq_lst, itD] at q
        cases e : isS x "close" with
        | true =>
          dsimp only
          rw [if_pos rfl, if_neg (by simpa using e1), if_pos (by simpa using e2)]
          exact q
        | false =>
          dsimp only
          rw [if_neg (by decide), if_pos (by simpa using e2)]
          exact q
    | tuple xs =>
      match xs, ok, q with
      | [], ok, q =>
        walk_at "d"
        simp [fauD, oiD, sq_tup] at q ⊢
        exact q
      | [x], ok, q =>
        walk_at "d"
        have ox := okD_it ok x List.mem_cons_self
        rw [if_neg (by decide)]
        refine eqD_S ox.sh so_c ?_
        cases e : isS x "close" <;> (simp [e, fauD, oiD, sq_tup, itD] at q ⊢; exact q)
      | [x, y], ok, q =>
        walk_at "d"
        have ox := okD_it ok x List.mem_cons_self
        have oy := okD_it ok y (List.mem_cons_of_mem _ List.mem_cons_self)
        have ys : ∀ z, y = .str z → z.length ≤ 100000 := fun z e => by
          rw [e] at oy
          exact okD_str oy
        have last : eqD x (.str "open") fun z => match z with
            | .bool b => if b = true then (∀ z, y = .str z → z.length ≤ 100000) ∧ (if labD y = true then Q .none [.sh (.tuple [x, y])] else Q (.int 1) [.sh (.tuple [x, y])])
              else eqD x (.str "text") fun z => match z with
                | .bool b => if b = true then (∀ z, y = .str z → z.length ≤ sizeLine) ∧ (if txtB y = true then Q .none [.sh (.tuple [x, y])] else Q (.int 1) [.sh (.tuple [x, y])]) else Q (.int (-1)) [.sh (.tuple [x, y])]
                | _ => False
            | _ => False := by
          refine eqD_S ox.sh so_o ?_
          cases e : isS x "open" with
          | true =>
            refine ⟨ys, ?_⟩
            cases e2 : labD y <;> (simp [e, e2, fauD, oiD, sq_tup, itD] at q ⊢; exact q)
          | false =>
            dsimp only
            rw [if_neg (by decide)]
            refine eqD_S ox.sh so_t ?_
            cases e3 : isS x "text" with
            | true =>
              refine ⟨fun z h => Nat.le_trans (ys z h) (by decide), ?_⟩
              cases e2 : txtB y <;> (simp [e, e2, e3, fauD, oiD, sq_tup, itD] at q ⊢; exact q)
            | false =>
              simp [e, e3, fauD, oiD, sq_tup, itD] at q ⊢
              exact q
        rw [if_neg (by decide)]
        refine eqD_S ox.sh so_c ?_
        cases e : isS x "close" with
        | true =>
          dsimp only
          rw [if_pos rfl, if_neg (by decide), if_neg (by decide)]
          exact last
        | false =>
          dsimp only
          rw [if_neg (by decide), if_neg (by decide)]
          exact last
      | x :: y :: z :: l, ok, q =>
        walk_at "d"
        have ox := okD_it ok x List.mem_cons_self
        rw [if_neg (by simp; omega)]
        refine eqD_S ox.sh so_c ?_
        have e2 : ¬ (((l.length + 1 + 1 + 1 : Nat) : Int) = 2) := by omega
        have e1 : ¬ (((l.length + 1 + 1 + 1 : Nat) : Int) = 1) := by omega
        simp only [fauD, oiD, sq_tup, itD] at q
        cases e : isS x "close" with
        | true =>
          dsimp only
          rw [if_pos rfl, if_neg (by simpa using e1), if_pos (by simpa using e2)]
          exact q
        | false =>
          dsimp only
          rw [if_neg (by decide), if_pos (by simpa using e2)]
          exact q
    | _ =>
      walk_at "d"
      simp [fauD, oiD, isSq] at q ⊢
      exact q
def sgnB (D : PyData) : Bool := (fauD D).isNone
abbrev T_is_sign : TD := T1 fun D Q _ => OkD D ∧ Q (.bool (sgnB D))
abbrev s_is_sign : Stmt := top 16
theorem sc_is_sign : FnScope ["value"] ["value"] (defScope s_is_sign) := ⟨rfl, rfl, rfl, by decide +kernel, rfl, by decide +kernel, by decide +kernel⟩
theorem ok_is_sign {f : Addr} {fd : FuncData} (F : Fun Z.K "is_sign" "is_sign" s_is_sign f fd) (T : Tz Z.K Z.mg)
    {f_sign_fault : Addr} {fd_sign_fault : FuncData} (D_sign_fault : Df Z.K Z.mg "_sign_fault" s_sign_fault ["value"] f_sign_fault fd_sign_fault) (G_sign_fault : FnD Z.Pg Z.w Z.K Z.mg Z.base CX0 2 f_sign_fault fd_sign_fault ["value"] (spT Z (T_sign_fault))) : FnD Z.Pg Z.w Z.K Z.mg Z.base CX0 3 f fd ["value"] (spT Z (T_is_sign)) := by
  refine okD F sc_is_sign (fun as Q er h => ?_) (fun cdv A outer s H E G0 ca hr hgd hca => (dss_one (ds_ret (de_cmp op_isN od_is (dr_of (de_call G_sign_fault hr hgd (by rfl) D_sign_fault.g D_sign_fault.F.kp D_sign_fault.b (drs_cons (dr_var 0) drs_nil))) (dr_of de_non) (nomark _))))) (fun ca as Q er h => ?_)
  · obtain ⟨_, rfl, _⟩ := t1_inv h
    rfl
  · obtain ⟨a, rfl, q⟩ := t1_inv h
    obtain ⟨ok, q⟩ := q
    walk_at "d"
    refine ⟨ok, ?_⟩
    unfold sgnB at q
    cases e : fauD a <;> (rw [e] at q; exact q)
def sgL : Sg → PyData
  | .op l => .list [.str "open", .str l]
  | .cl => .list [.str "close"]
  | .tx z => .list [.str "text", .str z]
def sgOf (D : PyData) : Sg := match itD D with
  | [.str _, .str l] => if isS ((itD D).getD 0 .none) "open" = true then .op l else .tx l
  | _ => .cl
def okS (s : Sg) : Prop := (sgD s).canLay0 = true
theorem lab_of {l : Str} (h : isLab l = true) : labD (.str l) = true := h
theorem txt_of {z : Str} (h : z.length ≤ 65535) : txtB (.str z) = true := decide_eq_true (show ((z.length : Nat) : Int) ≤ 65535 by omega)
theorem iS_oo : isS (.str "open") "open" = true := by decide +kernel
theorem iS_to : isS (.str "text") "open" = false := by decide +kernel
theorem iS_tt : isS (.str "text") "text" = true := by decide +kernel
theorem iS_cc : isS (.str "close") "close" = true := by decide +kernel
theorem fau_ok {s : Sg} (h : s.ok) : fauD (sgD s) = none ∧ fauD (sgL s) = none := by
  cases s with
  | op l =>
    have hl := lab_of (show isLab l = true from h)
    simp [fauD, sgD, sgL, sq_tup, sq_lst, itD, iS_oo, hl]
  | cl => simp [fauD, sgD, sgL, sq_tup, sq_lst, itD, iS_cc]
  | tx z =>
    have hz := txt_of (show z.length ≤ 65535 from h)
    simp [fauD, sgD, sgL, sq_tup, sq_lst, itD, iS_to, iS_tt, hz]
theorem sgn_ok {s : Sg} (h : s.ok) : sgnB (sgD s) = true ∧ sgnB (sgL s) = true := by
  unfold sgnB
  rw [(fau_ok h).1, (fau_ok h).2]
  exact ⟨rfl, rfl⟩
theorem sgOf_D (s : Sg) : sgOf (sgD s) = s ∧ sgOf (sgL s) = s := by
  cases s <;> simp [sgOf, sgD, sgL, itD, iS_oo, iS_to]
/-- a value that passes is a sign -/
theorem sgn_inv {d : PyData} (h : sgnB d = true) : (sgOf d).ok ∧ .tuple (itD d) = sgD (sgOf d) := by
  have e : fauD d = none := Option.isNone_iff_eq_none.mp h
  have hs : isSq d = true := by
    cases q : isSq d with
    | true => rfl
    | false => rw [fauD, if_pos q] at e; cases e
  rw [fauD, if_neg (by rw [hs]; decide)] at e
  unfold sgOf
  generalize hl : itD d = l at e ⊢
  match l, e with
  | [], e => cases e
  | [a], e =>
    dsimp only at e
    split at e
    · rename_i q
      rw [isS_iff.mp q]
      exact ⟨trivial, rfl⟩
    · cases e
  | [a, b], e =>
    dsimp only at e
    split at e
    · rename_i q
      split at e
      · rename_i q2
        cases b with
        | str l =>
          rw [isS_iff.mp q]
          dsimp only
          rw [if_pos (by exact iS_oo)]
          exact ⟨q2, rfl⟩
        | _ => exact nomatch q2
      · cases e
    · rename_i q0
      split at e
      · rename_i q
        split at e
        · rename_i q2
          cases b with
          | str z =>
            rw [isS_iff.mp q]
            dsimp only
            rw [if_neg (by show ¬ isS (.str "text") "open" = true; rw [iS_to]; decide)]
            refine ⟨?_, rfl⟩
            show z.length ≤ 65535
            have q2 := of_decide_eq_true q2
            omega
          | _ => exact nomatch q2
        · cases e
      · cases e
  | _ :: _ :: _ :: _, e => cases e
theorem sgn_sq {d : PyData} (h : sgnB d = true) : isSq d = true := by
  have e : fauD d = none := Option.isNone_iff_eq_none.mp h
  cases q : isSq d with
  | true => rfl
  | false => rw [fauD, if_pos q] at e; cases e
def sgsB (V : PyData) : Bool := isSq V && (itD V).all sgnB
def sgsOf (V : PyData) : List Sg := (itD V).map sgOf
theorem sgs_inv {V : PyData} (h : sgsB V = true) : (∀ s ∈ sgsOf V, s.ok) ∧ (itD V).map (fun d => .tuple (itD d)) = (sgsOf V).map sgD ∧ (sgsOf V).length = (itD V).length := by
  have h2 := (Bool.and_eq_true_iff.mp h).2
  rw [List.all_eq_true] at h2
  unfold sgsOf
  refine ⟨fun s m => ?_, ?_, List.length_map ..⟩
  · obtain ⟨d, md, rfl⟩ := List.mem_map.mp m
    exact (sgn_inv (h2 d md)).1
  · rw [List.map_map]
    exact List.map_congr_left fun d md => (sgn_inv (h2 d md)).2
abbrev T_signs_in (R : Addr) : TD := T1 fun V Q er => OkD V ∧ if sgsB V = true then Q (.tuple ((sgsOf V).map sgD)) else er (R, V)
abbrev T_check_sign (B : Addr) : TD := T1 fun V Q er => OkD V ∧ (fauD V = none → Q (.tuple (itD V))) ∧ ∀ i, fauD V = some i → er (B, .int i)
theorem enum_next {l : List PyData} {i : Nat} {d : PyData} {ds : List PyData} (e : d :: ds = (enumD l).drop i) : ∃ h : i < l.length, d = .tuple [.int (i : Nat), l[i]] ∧ ds = (enumD l).drop (i + 1) := by
  have hl : (enumD l).length = l.length := by unfold enumD; rw [List.length_mapIdx]
  have hi : i < l.length := by
    rcases Nat.lt_or_ge i l.length with h | h
    · exact h
    · rw [List.drop_of_length_le (by omega)] at e
      cases e
  rw [List.drop_eq_getElem_cons (by omega)] at e
  obtain ⟨h1, h2⟩ := List.cons.inj e
  refine ⟨hi, ?_, h2⟩
  rw [h1]
  unfold enumD
  rw [List.getElem_mapIdx]
theorem enum_end {l : List PyData} {i : Nat} (e : [] = (enumD l).drop i) : l.length ≤ i := by
  have := congrArg List.length e
  unfold enumD at this
  rw [List.length_drop, List.length_mapIdx, List.length_nil] at this
  omega
end
end Lw
set_option Elab.async false
set_option linter.all false
set_option maxRecDepth 100000
set_option maxHeartbeats 1000000
set_option pp.deepTerms true
set_option pp.maxSteps 200000
namespace Lw
open PySem PySem.Spec PyProof PyProof.Rows L2 So Da Dl
local macro_rules | `(tactic| walk_at "z") => `(tactic| repeat (first | refine ⟨(by decide), ?_⟩ | refine ⟨(by omega), ?_⟩ | refine ⟨rfl, ?_⟩))
section
variable {Z : Zw}
def txN (D : PyData) : Bool := isSq D && match itD D with
  | [a, b] => isS a "text" && txtB b
  | _ => false
def elN (D : PyData) : Bool := isSq D && match itD D with
  | [a, b, c] => isS a "element" && (labD b && isSq c)
  | _ => false
theorem row2 {a : PyData} (h : rowB a 2 = true) : isSq a = true ∧ ∃ x y, itD a = [x, y] := by
  unfold rowB at h
  rw [Bool.and_eq_true, decide_eq_true_eq] at h
  refine ⟨h.1, ?_⟩
  match e : itD a, h.2 with
  | [x, y], _ => exact ⟨x, y, rfl⟩
theorem row3 {a : PyData} (h : rowB a 3 = true) : isSq a = true ∧ ∃ x y z, itD a = [x, y, z] := by
  unfold rowB at h
  rw [Bool.and_eq_true, decide_eq_true_eq] at h
  refine ⟨h.1, ?_⟩
  match e : itD a, h.2 with
  | [x, y, z], _ => exact ⟨x, y, z, rfl⟩
theorem row2_no {a : PyData} (h : ¬ rowB a 2 = true) : txN a = false := by
  unfold txN
  cases hs : isSq a with
  | false => rfl
  | true =>
    unfold rowB at h
    rw [hs, Bool.true_and, decide_eq_true_eq] at h
    rw [Bool.true_and]
    split
    · rename_i e
      rw [e] at h
      exact absurd rfl h
    · rfl
theorem row3_no {a : PyData} (h : ¬ rowB a 3 = true) : elN a = false := by
  unfold elN
  cases hs : isSq a with
  | false => rfl
  | true =>
    unfold rowB at h
    rw [hs, Bool.true_and, decide_eq_true_eq] at h
    rw [Bool.true_and]
    split
    · rename_i e
      rw [e] at h
      exact absurd rfl h
    · rfl
theorem so_e : PyData.strOk "element" = true := by decide +kernel
abbrev T_is_text_node : TD := T1 fun D Q _ => OkD D ∧ Q (.bool (txN D))
abbrev s_is_text_node : Stmt := top 24
theorem sc_is_text_node : FnScope ["value"] ["value"] (defScope s_is_text_node) := ⟨rfl, rfl, rfl, by decide +kernel, rfl, by decide +kernel, by decide +kernel⟩
local macro_rules | `(tactic| walk_at "d") => `(tactic| simp only [↓dSeq, ↓dFor, ↓reprD, ↓dCallK, ↓dIfS, ↓dAndV, ↓dOrV, ↓dUn, ↓dOp, ↓dC, ↓dVar, ↓derefW, ↓deref, ↓known, ↓noOb, ↓nbO, ↓start0, ↓endsOf, ↓outA, ↓toB, ↓dAnd, ↓dOr, ↓dNot, ↓ofB, ↓dIf, ↓dChain, ↓dgName, ↓dgSeq, ↓dgCons, ↓dgNil, ↓dLc, ↓popW, ↓atOl, ↓isOl, ↓ownS, ↓frzD, ↓dCall, argsOf, argLc, obSlots, upS, upO, ↓noObs, ↓wipeD, List.map_cons, List.map_nil, List.length_cons, List.length_nil, Nat.sub_self, Nat.zero_add, Nat.reduceAdd, Nat.reduceSub, List.replicate, List.append_nil, List.cons_append, List.nil_append, List.getElem?_cons_zero, List.getElem?_cons_succ, List.getElem?_nil, List.set, List.head?, List.tail, Option.getD_some, Option.getD_none, List.nodup_nil, List.nodup_cons, List.not_mem_nil, List.mem_cons, List.mem_singleton, or_false, Nat.reduceEqDiff, true_and, and_true, Bool.not_true, Bool.not_false, if_true, Bool.false_eq_true, if_false, ite_true, ite_false, not_false_eq_true, reduceCtorEq, eqD_int, eqD_str, eqD_bl, eqD_tuple, eqD_list, eqD_tupleR, eqD_listR, eqD_non, neD_int, neD_str, neD_bl, neD_tuple, neD_list, neD_tupleR, neD_listR, neD_non, ↓isD, ↓notD, ix_0, ix_1, ix_2, ix_3, ix_4, ix_L0, ix_L1, ix_L2, itemsD_L, itemsD_T, tupleD_L, tupleD_T, listD_L, listD_T, lenD_L, lenD_T, lenD_S, slD_L, slD_T, addD_I, addD_S, addD_T, addD_L, subD_I, mulD_I, ltD_I, ltD_S, leD_I, gtD_I, geD_I, modD_I, fdivD_I, powD_I, intD_I, intD_B, negD_I, isND_N, isND_I, isND_S, isND_B, isND_T, isND_L, sq_T, sq_L, sq_N, sq_I, sq_S, sq_B, at_0, at_1, at_2, at_3, at_4, ↓isiD, pick, List.filterMap_cons_some, List.filterMap_nil, List.filterMap_cons, ↓ownC, ↓T1, ↓T2, ↓T3, ↓T4, ↓dHeard, ↓capsD, ↓slotsD, ↓lamW, lamSto, cpLc, ↓dHeardS, ↓dAsks, ↓asksW, ↓heardT, ↓Tbox, ↓Ttake, dForN, forNW, fnW, slSD, repD2, ↓intW, ix_ma0, ix_ma1, ix_ma2, ix_ma3, ix_inn0, ix_inn1, ix_inn2, ix_inn3, ix_top0, ix_top1, ix_top2, ix_top3, ix_top4])
theorem ok_is_text_node {f : Addr} {fd : FuncData} (F : Fun Z.K "_is_text_node" "_is_text_node" s_is_text_node f fd) (T : Tz Z.K Z.mg)
    {f_is_row_of : Addr} {fd_is_row_of : FuncData} (D_is_row_of : Df Z.K Z.mg "is_row_of" s_is_row_of ["value", "many"] f_is_row_of fd_is_row_of) (G_is_row_of : FnD Z.Pg Z.w Z.K Z.mg Z.base CX0 2 f_is_row_of fd_is_row_of ["value", "many"] (spT Z (T_is_row_of)))
    {f_is_text : Addr} {fd_is_text : FuncData} (D_is_text : Df Z.K Z.mg "is_text" s_is_text ["value"] f_is_text fd_is_text) (G_is_text : FnD Z.Pg Z.w Z.K Z.mg Z.base CX0 2 f_is_text fd_is_text ["value"] (spT Z (T_is_text))) : FnD Z.Pg Z.w Z.K Z.mg Z.base CX0 3 f fd ["value"] (spT Z (T_is_text_node)) := by
  refine okD F sc_is_text_node (fun as Q er h => ?_) (fun cdv A outer s H E G0 ca hr hgd hca => (dss_one (ds_ret (de_and (de_call G_is_row_of hr hgd (by rfl) D_is_row_of.g D_is_row_of.F.kp D_is_row_of.b (drs_cons (dr_var 0) (drs_cons (dr_of de_int) drs_nil))) (de_and (de_cmp (op_eqA hr.units) od_eq (dr_of (de_ix (dr_var 0) (dr_of de_int))) (dr_of de_str) (nomark _)) (de_one (de_call G_is_text hr hgd (by rfl) D_is_text.g D_is_text.F.kp D_is_text.b (drs_cons (dr_of (de_ix (dr_var 0) (dr_of de_int))) drs_nil)))))))) (fun ca as Q er h => ?_)
  · obtain ⟨_, rfl, _⟩ := t1_inv h
    rfl
  · obtain ⟨a, rfl, q⟩ := t1_inv h
    obtain ⟨ok, q⟩ := q
    walk_at "d"
    by_cases hr : rowB a 2 = true
    · rw [if_pos hr]
      obtain ⟨hs, x, y, e⟩ := row2 hr
      have ox := okD_it ok x (by rw [e]; exact List.mem_cons_self)
      have oy := okD_it ok y (by rw [e]; exact List.mem_cons_of_mem _ List.mem_cons_self)
      refine hxD (i := 0) hs (by rw [e]; rfl) (eqD_S ox.sh so_t ?_)
      unfold txN at q
      rw [hs, e, Bool.true_and] at q
      dsimp only at q ⊢
      cases h : isS x "text" with
      | false =>
        rw [h] at q
        exact q
      | true =>
        rw [h, Bool.true_and] at q
        exact hxD (i := 1) hs (by rw [e]; rfl) ⟨fun z h => by subst h; exact Nat.le_trans (okD_str oy) (by decide), q⟩
    · rw [if_neg hr]
      rw [row2_no hr] at q
      exact q
abbrev T_is_element_node : TD := T1 fun D Q _ => OkD D ∧ Q (.bool (elN D))
abbrev s_is_element_node : Stmt := top 25
theorem sc_is_element_node : FnScope ["value"] ["value"] (defScope s_is_element_node) := ⟨rfl, rfl, rfl, by decide +kernel, rfl, by decide +kernel, by decide +kernel⟩
theorem ok_is_element_node {f : Addr} {fd : FuncData} (F : Fun Z.K "_is_element_node" "_is_element_node" s_is_element_node f fd) (T : Tz Z.K Z.mg)
    {f_is_row_of : Addr} {fd_is_row_of : FuncData} (D_is_row_of : Df Z.K Z.mg "is_row_of" s_is_row_of ["value", "many"] f_is_row_of fd_is_row_of) (G_is_row_of : FnD Z.Pg Z.w Z.K Z.mg Z.base CX0 2 f_is_row_of fd_is_row_of ["value", "many"] (spT Z (T_is_row_of)))
    {f_is_label : Addr} {fd_is_label : FuncData} (D_is_label : Df Z.K Z.mg "is_label" s_is_label ["value"] f_is_label fd_is_label) (G_is_label : FnD Z.Pg Z.w Z.K Z.mg Z.base CX0 2 f_is_label fd_is_label ["value"] (spT Z (T_is_label)))
    {f_is_sequence : Addr} {fd_is_sequence : FuncData} (D_is_sequence : Df Z.K Z.mg "is_sequence" s_is_sequence ["value"] f_is_sequence fd_is_sequence) (G_is_sequence : FnD Z.Pg Z.w Z.K Z.mg Z.base CX0 2 f_is_sequence fd_is_sequence ["value"] (spT Z (T_is_sequence))) : FnD Z.Pg Z.w Z.K Z.mg Z.base CX0 3 f fd ["value"] (spT Z (T_is_element_node)) := by
  refine okD F sc_is_element_node (fun as Q er h => ?_) (fun cdv A outer s H E G0 ca hr hgd hca => (dss_one (ds_ret (de_and (de_call G_is_row_of hr hgd (by rfl) D_is_row_of.g D_is_row_of.F.kp D_is_row_of.b (drs_cons (dr_var 0) (drs_cons (dr_of de_int) drs_nil))) (de_and (de_cmp (op_eqA hr.units) od_eq (dr_of (de_ix (dr_var 0) (dr_of de_int))) (dr_of de_str) (nomark _)) (de_and (de_call G_is_label hr hgd (by rfl) D_is_label.g D_is_label.F.kp D_is_label.b (drs_cons (dr_of (de_ix (dr_var 0) (dr_of de_int))) drs_nil)) (de_one (de_call G_is_sequence hr hgd (by rfl) D_is_sequence.g D_is_sequence.F.kp D_is_sequence.b (drs_cons (dr_of (de_ix (dr_var 0) (dr_of de_int))) drs_nil))))))))) (fun ca as Q er h => ?_)
  · obtain ⟨_, rfl, _⟩ := t1_inv h
    rfl
  · obtain ⟨a, rfl, q⟩ := t1_inv h
    obtain ⟨ok, q⟩ := q
    walk_at "d"
    by_cases hr : rowB a 3 = true
    · rw [if_pos hr]
      obtain ⟨hs, x, y, z, e⟩ := row3 hr
      have ox := okD_it ok x (by rw [e]; exact List.mem_cons_self)
      have oy := okD_it ok y (by rw [e]; exact List.mem_cons_of_mem _ List.mem_cons_self)
      refine hxD (i := 0) hs (by rw [e]; rfl) (eqD_S ox.sh so_e ?_)
      unfold elN at q
      rw [hs, e, Bool.true_and] at q
      dsimp only at q ⊢
      cases h : isS x "element" with
      | false =>
        rw [h] at q
        exact q
      | true =>
        rw [h, Bool.true_and] at q
        refine hxD (i := 1) hs (by rw [e]; rfl) ⟨fun z h => by subst h; exact okD_str oy, ?_⟩
        cases h2 : labD y with
        | false =>
          rw [h2] at q
          exact q
        | true =>
          rw [h2, Bool.true_and] at q
          rw [if_pos rfl]
          exact hxD (i := 2) hs (by rw [e]; rfl) q
    · rw [if_neg hr]
      rw [row3_no hr] at q
      exact q
end
end Lw
set_option Elab.async false
set_option linter.all false
set_option maxRecDepth 100000
set_option maxHeartbeats 1000000
set_option pp.deepTerms true
set_option pp.maxSteps 200000
namespace Lw
open PySem PySem.Spec PyProof PyProof.Rows L2 So Da Dl
local macro_rules | `(tactic| walk_at "z") => `(tactic| repeat (first | refine ⟨(by decide), ?_⟩ | refine ⟨(by omega), ?_⟩ | refine ⟨rfl, ?_⟩))
section
variable {Z : Zw}
def clG : PyData := .tuple [.str "close"]
def e1D (d : PyData) : PyData := (itD d).getD 1 .none
def e2D (d : PyData) : PyData := (itD d).getD 2 .none
/-- what signs_of does with what waits, the topmost row first: the signs, or the count of the first value that is no node -/
def sgW : Nat → List (List PyData) → List PyData → Nat → Option (Sum Nat (List PyData))
  | 0, _, _, _ => none
  | _ + 1, [], out, _ => some (.inr out)
  | n + 1, [] :: rs, out, many => match rs with
    | [] => some (.inr out)
    | r :: rs => sgW n (r :: rs) (out ++ [clG]) many
  | n + 1, (d :: w) :: rs, out, many => if txN d = true then sgW n (w :: rs) (out ++ [.tuple [.str "text", e1D d]]) (many + 1) else if elN d = true then sgW n (itD (e2D d) :: w :: rs) (out ++ [.tuple [.str "open", e1D d]]) (many + 1) else some (.inl many)
theorem txN_row {d : PyData} (h : txN d = true) : isSq d = true ∧ ∃ a b, itD d = [a, b] := by
  unfold txN at h
  rw [Bool.and_eq_true] at h
  obtain ⟨h1, h2⟩ := h
  refine ⟨h1, ?_⟩
  split at h2
  · rename_i a b e
    exact ⟨a, b, e⟩
  · cases h2
theorem elN_row {d : PyData} (h : elN d = true) : isSq d = true ∧ ∃ a b c, itD d = [a, b, c] ∧ isSq c = true := by
  unfold elN at h
  rw [Bool.and_eq_true] at h
  obtain ⟨h1, h2⟩ := h
  refine ⟨h1, ?_⟩
  split at h2
  · rename_i a b c e
    rw [Bool.and_eq_true, Bool.and_eq_true] at h2
    exact ⟨a, b, c, e, h2.2.2⟩
  · cases h2
theorem paired_impR {α β : Type} {p q : α → β → Prop} : ∀ {l : List α} {m : List β}, (∀ a ∈ l, ∀ b, p a b → q a b) → Paired p l m → Paired q l m
  | _, _, _, .nil => .nil
  | _, _, h, .cons a b => .cons (h _ List.mem_cons_self _ a) (paired_impR (fun x m => h x (List.mem_cons_of_mem _ m)) b)
abbrev s_signs_of : Stmt := top 26
theorem sc_signs_of : FnScope ["document", "signs", "many", "waiting", "node"] ["document"] (defScope s_signs_of) := ⟨rfl, rfl, rfl, by decide +kernel, rfl, by decide +kernel, by decide +kernel⟩
def rfs (as : List Addr) : List V := (as.map V.ref).reverse
theorem rfs_cons {a : Addr} {as : List Addr} : rfs (a :: as) = rfs as ++ [.ref a] := by
  unfold rfs
  rw [List.map_cons, List.reverse_cons]
theorem rfs_len {as : List Addr} : (rfs as).length = as.length := by
  unfold rfs
  rw [List.length_reverse, List.length_map]
/-- between two nodes: S the list of signs, W that of what waits; as the rows' lists, the topmost first -/
structure Wt (Z : Zw) (Dv : PyData) (Gs G : Hp) (σ : L2.St) (H : Hp) (S W : Addr) (as : List Addr) (cv : Addr → List V) (out : List PyData) (rows : List (List PyData)) (many : Nat) (r4 : Lc) : Prop where
  x : Ex Z.T Gs G
  R : Rep Z (lsF (S :: W :: as) cv) G [.sh Dv, .un, .sh (.int many), .un, r4] σ H
  nd : (S :: W :: as).Nodup
  e1 : σ[1]? = some (some (.ref S))
  e3 : σ[3]? = some (some (.ref W))
  hS : DwAll Z G (cv S) out
  hW : cv W = rfs as
  ro : Paired (fun a ds => DwAll Z G (cv a).reverse ds) as rows
  ok : ∀ r ∈ rows, ∀ d ∈ r, OkD d
section
variable {Dv : PyData} {Gs G H G' H' : Hp} {σ σ' : L2.St} {S W a p : Addr} {as : List Addr} {cv : Addr → List V} {out : List PyData} {rows : List (List PyData)} {many : Nat} {r4 q4 : Lc}
theorem Wt.sl (I : Wt Z Dv Gs G σ H S W as cv out rows many r4) : H S = some (.lst (cv S)) := I.R.at_ls List.mem_cons_self
theorem Wt.wl (I : Wt Z Dv Gs G σ H S W as cv out rows many r4) : H W = some (.lst (rfs as)) := by
  rw [← I.hW]
  exact I.R.at_ls (List.mem_cons_of_mem _ List.mem_cons_self)
theorem Wt.al (I : Wt Z Dv Gs G σ H S W as cv out rows many r4) (m : a ∈ as) : H a = some (.lst (cv a)) := I.R.at_ls (List.mem_cons_of_mem _ (List.mem_cons_of_mem _ m))
theorem Wt.ne (I : Wt Z Dv Gs G σ H S W as cv out rows many r4) : S ≠ W ∧ (∀ a ∈ as, a ≠ S ∧ a ≠ W) ∧ as.Nodup := by
  obtain ⟨h1, h2⟩ := List.nodup_cons.mp I.nd
  obtain ⟨h3, h4⟩ := List.nodup_cons.mp h2
  exact ⟨fun z => h1 (z ▸ List.mem_cons_self), fun a m => ⟨fun z => h1 (z ▸ List.mem_cons_of_mem _ m), fun z => h3 (z ▸ m)⟩, h4⟩
/-- the ground grows -/
theorem Wt.grow (I : Wt Z Dv Gs G σ H S W as cv out rows many r4) (s : Ex Z.T G G') (R : Rep Z (lsF (S :: W :: as) cv) G' [.sh Dv, .un, .sh (.int many), .un, r4] σ H') : Wt Z Dv Gs G' σ H' S W as cv out rows many r4 :=
  ⟨I.x.trans s, R, I.nd, I.e1, I.e3, I.hS.mono s, I.hW, paired_impR (fun _ _ _ d => d.mono s) I.ro, I.ok⟩
/-- a slot is set -/
theorem Wt.slot {m' : Nat} (I : Wt Z Dv Gs G σ H S W as cv out rows many r4) (R : Rep Z (lsF (S :: W :: as) cv) G [.sh Dv, .un, .sh (.int m'), .un, q4] σ' H) (e1 : σ'[1]? = σ[1]?) (e3 : σ'[3]? = σ[3]?) : Wt Z Dv Gs G σ' H S W as cv out rows m' q4 :=
  ⟨I.x, R, I.nd, e1.trans I.e1, e3.trans I.e3, I.hS, I.hW, I.ro, I.ok⟩
theorem Wt.junk {o : HO} (I : Wt Z Dv Gs G σ H S W as cv out rows many r4) (h : H p = none) : Wt Z Dv Gs G σ (upd H p o) S W as cv out rows many r4 := I.grow (Ex.refl I.x.2) (I.R.junk h)
/-- signs.append(..) -/
theorem Wt.put {x : V} {d : PyData} (I : Wt Z Dv Gs G σ H S W as cv out rows many r4) (dx : Dw Z G x d) : Wt Z Dv Gs G σ (upd H S (.lst (cv S ++ [x]))) S W as (setF cv S (cv S ++ [x])) (out ++ [d]) rows many r4 := by
  obtain ⟨n1, n2, n3⟩ := I.ne
  refine ⟨I.x, I.R.mutF List.mem_cons_self, I.nd, I.e1, I.e3, ?_, ?_, paired_impR (fun a m b d => ?_) I.ro, I.ok⟩
  · rw [setF_same]
    exact dpa_app I.hS (.cons dx .nil)
  · rw [setF_ne (Ne.symm n1)]
    exact I.hW
  · rw [setF_ne (n2 a m).1]
    exact d
/-- waiting[-1].pop() -/
theorem Wt.take {d : PyData} {w : List PyData} {rs : List (List PyData)} (I : Wt Z Dv Gs G σ H S W (a :: as) cv out ((d :: w) :: rs) many r4) : ∃ xs x, cv a = xs ++ [x] ∧ Dw Z G x d ∧ OkD d ∧ Wt Z Dv Gs G σ (upd H a (.lst xs)) S W (a :: as) (setF cv a xs) out (w :: rs) many r4 := by
  obtain ⟨n1, n2, n3⟩ := I.ne
  have rr := I.ro
  cases rr with
  | cons hd ht =>
    obtain ⟨na, _⟩ := List.nodup_cons.mp n3
    have e : ∃ xs x, cv a = xs ++ [x] ∧ Dw Z G x d ∧ DwAll Z G xs.reverse w := by
      generalize ev : (cv a).reverse = vs at hd
      cases hd with
      | cons h1 h2 => 
        rename_i x vs
        refine ⟨vs.reverse, x, ?_, h1, by rw [List.reverse_reverse]; exact h2⟩
        rw [← List.reverse_reverse (cv a), ev, List.reverse_cons]
    obtain ⟨xs, x, e1, e2, e3⟩ := e
    refine ⟨xs, x, e1, e2, I.ok _ List.mem_cons_self d List.mem_cons_self, I.x, I.R.mutF (List.mem_cons_of_mem _ (List.mem_cons_of_mem _ List.mem_cons_self)), I.nd, I.e1, I.e3, ?_, ?_, .cons ?_ (paired_impR (fun b m ds d => ?_) ht), fun r m z mz => ?_⟩
    · rw [setF_ne (Ne.symm (n2 a List.mem_cons_self).1)]
      exact I.hS
    · rw [setF_ne (Ne.symm (n2 a List.mem_cons_self).2)]
      exact I.hW
    · rw [setF_same]
      exact e3
    · rw [setF_ne (show b ≠ a from fun z => na (by rw [← z]; exact m))]
      exact d
    · rcases List.mem_cons.mp m with rfl | m
      · exact I.ok _ List.mem_cons_self z (List.mem_cons_of_mem _ mz)
      · exact I.ok r (List.mem_cons_of_mem _ m) z mz
/-- waiting.pop() -/
theorem Wt.drop {r : List PyData} {rs : List (List PyData)} (I : Wt Z Dv Gs G σ H S W (a :: as) cv out (r :: rs) many r4) : Wt Z Dv Gs G σ (upd H W (.lst (rfs as))) S W as (setF cv W (rfs as)) out rs many r4 := by
  obtain ⟨n1, n2, n3⟩ := I.ne
  have rr := I.ro
  cases rr with
  | cons hd ht =>
    have R2 := I.R.mutF (a := W) (ys := rfs as) (List.mem_cons_of_mem _ List.mem_cons_self)
    obtain ⟨h1, h2⟩ := List.nodup_cons.mp I.nd
    obtain ⟨h3, h4⟩ := List.nodup_cons.mp h2
    obtain ⟨h5, h6⟩ := List.nodup_cons.mp h4
    refine ⟨I.x, R2.subF fun ⟨b, u⟩ m => ?_, ?_, I.e1, I.e3, ?_, setF_same, paired_impR (fun b m ds d => ?_) ht, fun r m => I.ok r (List.mem_cons_of_mem _ m)⟩
    · obtain ⟨m2, rfl⟩ := mem_lsF.mp m
      refine mem_lsF.mpr ⟨?_, rfl⟩
      rcases List.mem_cons.mp m2 with z | m2
      · exact z ▸ List.mem_cons_self
      rcases List.mem_cons.mp m2 with z | m2
      · exact z ▸ List.mem_cons_of_mem _ List.mem_cons_self
      · exact List.mem_cons_of_mem _ (List.mem_cons_of_mem _ (List.mem_cons_of_mem _ m2))
    · refine List.nodup_cons.mpr ⟨fun m => h1 ?_, List.nodup_cons.mpr ⟨fun m => h3 (List.mem_cons_of_mem _ m), h6⟩⟩
      rcases List.mem_cons.mp m with z | m
      · exact z ▸ List.mem_cons_self
      · exact List.mem_cons_of_mem _ (List.mem_cons_of_mem _ m)
    · rw [setF_ne n1]
      exact I.hS
    · rw [setF_ne (n2 b (List.mem_cons_of_mem _ m)).2]
      exact d
/-- waiting.append(list(reversed(..))) -/
theorem Wt.more {xs : List V} {ds : List PyData} (I : Wt Z Dv Gs G σ H S W as cv out rows many r4) (h : H p = none) (dx : DwAll Z G xs ds) (ok : ∀ d ∈ ds, OkD d) : Wt Z Dv Gs G σ (upd (upd H p (.lst xs.reverse)) W (.lst (rfs as ++ [.ref p]))) S W (p :: as) (setF (setF cv p xs.reverse) W (rfs as ++ [.ref p])) out (ds :: rows) many r4 := by
  obtain ⟨n1, n2, n3⟩ := I.ne
  obtain ⟨np, R1⟩ := I.R.newF (ys := xs.reverse) h
  have p1 : p ≠ S := fun z => np (z ▸ List.mem_cons_self)
  have p2 : p ≠ W := fun z => np (z ▸ List.mem_cons_of_mem _ List.mem_cons_self)
  have p3 : p ∉ as := fun m => np (List.mem_cons_of_mem _ (List.mem_cons_of_mem _ m))
  have R2 := R1.mutF (a := W) (ys := rfs as ++ [.ref p]) (List.mem_cons_of_mem _ (List.mem_cons_of_mem _ List.mem_cons_self))
  obtain ⟨h1, h2⟩ := List.nodup_cons.mp I.nd
  obtain ⟨h3, h4⟩ := List.nodup_cons.mp h2
  refine ⟨I.x, R2.subF fun ⟨b, u⟩ m => ?_, ?_, I.e1, I.e3, ?_, ?_, .cons ?_ (paired_impR (fun b m ds d => ?_) I.ro), fun r m => ?_⟩
  · obtain ⟨m2, rfl⟩ := mem_lsF.mp m
    refine mem_lsF.mpr ⟨?_, rfl⟩
    rcases List.mem_cons.mp m2 with z | m2
    · exact z ▸ List.mem_cons_of_mem _ List.mem_cons_self
    rcases List.mem_cons.mp m2 with z | m2
    · exact z ▸ List.mem_cons_of_mem _ (List.mem_cons_of_mem _ List.mem_cons_self)
    rcases List.mem_cons.mp m2 with z | m2
    · exact z ▸ List.mem_cons_self
    · exact List.mem_cons_of_mem _ (List.mem_cons_of_mem _ (List.mem_cons_of_mem _ m2))
  · refine List.nodup_cons.mpr ⟨fun m => ?_, List.nodup_cons.mpr ⟨fun m => ?_, List.nodup_cons.mpr ⟨p3, h4⟩⟩⟩
    · rcases List.mem_cons.mp m with z | m
      · exact n1 z
      rcases List.mem_cons.mp m with z | m
      · exact p1 z.symm
      · exact h1 (List.mem_cons_of_mem _ m)
    · rcases List.mem_cons.mp m with z | m
      · exact p2 z.symm
      · exact h3 m
  · rw [setF_ne n1, setF_ne (Ne.symm p1)]
    exact I.hS
  · rw [setF_same, rfs_cons]
  · rw [setF_ne p2, setF_same, List.reverse_reverse]
    exact dx
  · rw [setF_ne (n2 b m).2, setF_ne (show b ≠ p from fun z => p3 (by rw [← z]; exact m))]
    exact d
  · rcases List.mem_cons.mp m with rfl | m
    · exact ok
    · exact I.ok r m
theorem Wt.off (I : Wt Z Dv Gs G σ H S W as cv out rows many r4) : Wt Z Dv Gs G σ H S W as cv out rows many .un := I.slot (I.R.less rfl fun i lc e => by
  match i, e with
  | 0, e => exact .inr e
  | 1, e => exact .inr e
  | 2, e => exact .inr e
  | 3, e => exact .inr e
  | 4, e => exact .inl (Option.some.inj e).symm
  | i + 5, e => simp at e) rfl rfl
end
def SgIn (F : Addr) (D : PyData) (k : List PyData → Prop) (er : EK) : Prop := (isSq D = false ∧ er (F, .int (-1))) ∨ (isSq D = true ∧ ∃ n r, n ≤ 100000 ∧ sgW n [itD D] [] 0 = some r ∧ (∀ i : Nat, r = .inl i → er (F, .int i)) ∧ ∀ ss, r = .inr ss → k ss)
theorem sgIn_imp {F : Addr} {D : PyData} {k k' : List PyData → Prop} {er : EK} (h : SgIn F D k er) (i : ∀ ss, k ss → k' ss) : SgIn F D k' er := by
  rcases h with h | ⟨hs, n, r, a, b, c, d⟩
  · exact .inl h
  · exact .inr ⟨hs, n, r, a, b, c, fun ss e => i ss (d ss e)⟩
abbrev T_signs_of (F : Addr) : TD := T1 fun D Q er => OkD D ∧ SgIn F D (fun ss => Q (.tuple ss)) er
end
end Lw
set_option Elab.async false
set_option linter.all false
set_option maxRecDepth 100000
set_option maxHeartbeats 1000000
set_option pp.deepTerms true
set_option pp.maxSteps 200000
namespace Lw
open PySem PySem.Spec PyProof PyProof.Rows L2 So Da Dl
local macro_rules | `(tactic| walk_at "z") => `(tactic| repeat (first | refine ⟨(by decide), ?_⟩ | refine ⟨(by omega), ?_⟩ | refine ⟨rfl, ?_⟩))
section
variable {Z : Zw}
section
variable {Dv d e : PyData} {Gs G H G' H' : Hp} {σ σ' : L2.St} {S W a p : Addr} {as : List Addr} {cv : Addr → List V} {out : List PyData} {rows : List (List PyData)} {many : Nat} {r4 q4 : Lc}
theorem pop_lst {α : Type} (xs : List α) (y : α) : (xs ++ [y])[(xs ++ [y]).length - 1]? = some y := by simp
/-- f(node) -/
def dAtN (T : TD) : DTT := toB (dCall T (fun _ => False) fun ρ Q => (fun ρ Q => known ρ 4 ∧ Q (.slot 4) ρ) ρ fun r ρ1 => (fun ρ Q => Q [] ρ) ρ1 fun rs ρ2 => Q (r :: rs) ρ2)
theorem node_at {f : PyData → (PyData → Prop) → EK → Prop} {b : Bool} (I : Wt Z Dv Gs G σ H S W as cv out rows many (.sh d)) (hf : ∀ Q er, Q (.bool b) → f d Q er) {Q : Bool → Hp → Prop} (k : ∀ G' H', Wt Z Dv Gs G' σ H' S W as cv out rows many (.sh d) → Q b H') : rdT Z Gs 1 (dAtN (T1 f)) σ H Q := by
  refine ⟨_, _, G, fun c ρ' => c = b ∧ ρ' = [.sh Dv, .un, .sh (.int many), .un, .sh d], I.x, I.R, ?_, fun c ρ' G' H' ⟨e1, e2⟩ s al R => ?_⟩
  · exact ⟨trivial, List.nodup_nil, hf _ _ ⟨rfl, rfl⟩⟩
  · subst e1 e2
    exact k G' H' (I.grow s R)
/-- node[k] -/
def dIxN (k : Nat) : DTE := dOp ixD (fun ρ Q => known ρ 4 ∧ Q (.slot 4) ρ) (fun ρ Q => dC (.int (k : Nat)) ρ fun D ρ' => Q (.val D) ρ')
theorem part_at {k : Nat} (I : Wt Z Dv Gs G σ H S W as cv out rows many (.sh d)) (hs : isSq d = true) (he : (itD d)[k]? = some e) {Q : VK} (kk : ∀ v G' H', Wt Z Dv Gs G' σ H' S W as cv out rows many (.sh d) → Dw Z G' v e → Q v H') : rdE Z Gs 1 (dIxN k) σ H Q := by
  refine ⟨_, _, G, fun c ρ' => c = e ∧ ρ' = [.sh Dv, .un, .sh (.int many), .un, .sh d], I.x, I.R, ?_, fun c ρ' v G' H' ⟨e1, e2⟩ s al R d => ?_⟩
  · exact ⟨trivial, hxD (i := k) hs he ⟨rfl, rfl⟩⟩
  · subst e1 e2
    exact kk v G' H' (I.grow s R) d
theorem sq_of {v : V} (d : Dw Z G v e) (h : isSq e = true) : ∃ b ys, v = .ref b ∧ Sq Z.K G b ys ∧ DwAll Z G ys (itD e) := by
  cases d with
  | tup a b => exact ⟨_, _, rfl, .inl a, b⟩
  | lst a b => exact ⟨_, _, rfl, .inr a, b⟩
  | _ => cases h
theorem sgW_s {n many : Nat} {rows : List (List PyData)} {out : List PyData} {r : Sum Nat (List PyData)} (h : sgW n rows out many = some r) : ∃ k, n = k + 1 := by
  cases n with
  | zero => cases h
  | succ k => exact ⟨k, rfl⟩
end
local macro_rules | `(tactic| walk_at "d") => `(tactic| simp only [↓dSeq, ↓dFor, ↓reprD, ↓dCallK, ↓dIfS, ↓dAndV, ↓dOrV, ↓dUn, ↓dOp, ↓dC, ↓dVar, ↓derefW, ↓deref, ↓known, ↓noOb, ↓nbO, ↓start0, ↓endsOf, ↓outA, ↓toB, ↓dAnd, ↓dOr, ↓dNot, ↓ofB, ↓dIf, ↓dChain, ↓dgName, ↓dgSeq, ↓dgCons, ↓dgNil, ↓dLc, ↓popW, ↓atOl, ↓isOl, ↓ownS, ↓frzD, ↓dCall, argsOf, argLc, obSlots, upS, upO, ↓noObs, ↓wipeD, List.map_cons, List.map_nil, List.length_cons, List.length_nil, Nat.sub_self, Nat.zero_add, Nat.reduceAdd, Nat.reduceSub, List.replicate, List.append_nil, List.cons_append, List.nil_append, List.getElem?_cons_zero, List.getElem?_cons_succ, List.getElem?_nil, List.set, List.head?, List.tail, Option.getD_some, Option.getD_none, List.nodup_nil, List.nodup_cons, List.not_mem_nil, List.mem_cons, List.mem_singleton, or_false, Nat.reduceEqDiff, true_and, and_true, Bool.not_true, Bool.not_false, if_true, Bool.false_eq_true, if_false, ite_true, ite_false, not_false_eq_true, reduceCtorEq, eqD_int, eqD_str, eqD_bl, eqD_tuple, eqD_list, eqD_tupleR, eqD_listR, eqD_non, neD_int, neD_str, neD_bl, neD_tuple, neD_list, neD_tupleR, neD_listR, neD_non, ↓isD, ↓notD, ix_0, ix_1, ix_2, ix_3, ix_4, ix_L0, ix_L1, ix_L2, itemsD_L, itemsD_T, tupleD_L, tupleD_T, listD_L, listD_T, lenD_L, lenD_T, lenD_S, slD_L, slD_T, addD_I, addD_S, addD_T, addD_L, subD_I, mulD_I, ltD_I, ltD_S, leD_I, gtD_I, geD_I, modD_I, fdivD_I, powD_I, intD_I, intD_B, negD_I, isND_N, isND_I, isND_S, isND_B, isND_T, isND_L, sq_T, sq_L, sq_N, sq_I, sq_S, sq_B, at_0, at_1, at_2, at_3, at_4, ↓isiD, pick, List.filterMap_cons_some, List.filterMap_nil, List.filterMap_cons, ↓ownC, ↓T1, ↓T2, ↓T3, ↓T4, ↓dHeard, ↓capsD, ↓slotsD, ↓lamW, lamSto, cpLc, ↓dHeardS, ↓dAsks, ↓asksW, ↓heardT, ↓Tbox, ↓Ttake, dForN, forNW, fnW, slSD, repD2, ↓intW, ix_ma0, ix_ma1, ix_ma2, ix_ma3, ix_inn0, ix_inn1, ix_inn2, ix_inn3, ix_top0, ix_top1, ix_top2, ix_top3, ix_top4])
theorem ok_signs_of {f : Addr} {fd : FuncData} (F : Fun Z.K "signs_of" "signs_of" s_signs_of f fd) (T : Tz Z.K Z.mg) {C_BadForm : Addr}
    {f_is_sequence : Addr} {fd_is_sequence : FuncData} (D_is_sequence : Df Z.K Z.mg "is_sequence" s_is_sequence ["value"] f_is_sequence fd_is_sequence) (G_is_sequence : FnD Z.Pg Z.w Z.K Z.mg Z.base CX0 3 f_is_sequence fd_is_sequence ["value"] (spT Z (T_is_sequence)))
    {f_is_text_node : Addr} {fd_is_text_node : FuncData} (D_is_text_node : Df Z.K Z.mg "_is_text_node" s_is_text_node ["value"] f_is_text_node fd_is_text_node) (G_is_text_node : FnD Z.Pg Z.w Z.K Z.mg Z.base CX0 3 f_is_text_node fd_is_text_node ["value"] (spT Z (T_is_text_node)))
    {f_is_element_node : Addr} {fd_is_element_node : FuncData} (D_is_element_node : Df Z.K Z.mg "_is_element_node" s_is_element_node ["value"] f_is_element_node fd_is_element_node) (G_is_element_node : FnD Z.Pg Z.w Z.K Z.mg Z.base CX0 3 f_is_element_node fd_is_element_node ["value"] (spT Z (T_is_element_node)))
    (A_BadForm : Z.T.an C_BadForm = "at") {fI_BadForm : Addr} {fdI_BadForm : FuncData} (B_BadForm : Er Z.K Z.mg "BadForm" "BadForm.__init__" "at" c_BadForm C_BadForm fI_BadForm fdI_BadForm) (I_BadForm : FnOk Z.Pg Z.w Z.K Z.mg Z.base CX0 2 fI_BadForm fdI_BadForm ["self", "at"] (spIni C_BadForm "at")) : FnD Z.Pg Z.w Z.K Z.mg Z.base (L2.CX Z.Pg Z.w) 4 f fd ["document"] (spT Z (T_signs_of C_BadForm)) := by
  refine FnD.okX F sc_signs_of (spT_len fun as Q er h => ?_) (fun cdv A outer s H vs Q E hr hgd ⟨G, as, Q0, er, tb, R, hT, hQ, hE⟩ => ?_)
  · obtain ⟨_, rfl, _⟩ := t1_inv h
    rfl
  · obtain ⟨Dv, rfl, okV, q⟩ := t1_inv hT
    obtain ⟨v, rfl⟩ := one_arg R
    refine ⟨_, pss_cons (show DS Z.T G 1 _ _ _ from ds_if (dt_not (dt_val (de_call G_is_sequence hr hgd (by rfl) D_is_sequence.g D_is_sequence.F.kp D_is_sequence.b (drs_cons (dr_var 0) drs_nil)))) (dss_one (ds_raise A_BadForm hE (ps_raise rfl (takes_of rfl rfl rfl rfl) (pmk_oex B_BadForm.T B_BadForm.ini B_BadForm.ty I_BadForm hr B_BadForm.b .nil pass0 (by rfl) B_BadForm.g (pa_cons (de_neg de_int) pa_nil))))) dss_nil)
      (pss_cons (ps_set (i := 1) sc_signs_of.nd rfl (Or.inl rfl) (pe_lst pa_nil))
      (pss_cons (ps_set (i := 2) sc_signs_of.nd rfl (Or.inl rfl) pe_int)
      (pss_cons (ps_set (i := 3) sc_signs_of.nd rfl (Or.inl rfl) (pe_lst (pa_cons (pe_lstRevA rfl (by rfl) T.list (by rfl) T.reversed (pv 0)) pa_nil)))
      (pss_one (ps_while (passes_of rfl) (pt_val pe_bl)
        (pss_cons (ps_while (passes_of rfl) (pt_cmpR op_eq (pe_callB call_len_seq (by rfl) T.len (by decide +kernel) (pa_cons (pe_ix ix_list (pv 3) (pe_un un_neg pe_int) (fun _ _ => rfl)) pa_nil)) pe_int (nomark _))
            (pss_cons (ps_expr (pe_bm0 PySem.F.plainAttrs_list PySem.F.slot_list_pop PySem.F.type_list_pop mt_pop (pv 3)))
            (pss_cons (ps_if (pt_cmpR op_eq (pe_callB call_len_seq (by rfl) T.len (by decide +kernel) (pa_cons (pv 3) pa_nil)) pe_int (nomark _)) (pss_one (ps_ret (pe_callTy call_tupleF (by rfl) T.tuple (by decide +kernel) (pa_cons (pv 1) pa_nil)))) pss_nil)
            (pss_one (ps_expr (pe_bm PySem.F.plainAttrs_list PySem.F.slot_list_append PySem.F.type_list_append mt_append (pv 1) (pa_cons (pe_tupF (pa_cons pe_str pa_nil)) pa_nil)))))))
        (pss_cons (ps_set (i := 4) sc_signs_of.nd rfl (Or.inl rfl) (pe_bm0 PySem.F.plainAttrs_list PySem.F.slot_list_pop PySem.F.type_list_pop mt_pop (pe_ix ix_list (pv 3) (pe_un un_neg pe_int) (fun _ _ => rfl))))
        (pss_cons (ps_if (show DT Z.T G 1 _ _ (dAtN T_is_text_node) from dt_val (de_call G_is_text_node hr hgd (by rfl) D_is_text_node.g D_is_text_node.F.kp D_is_text_node.b (drs_cons (dr_var 4) drs_nil)))
            (pss_one (ps_expr (pe_bm PySem.F.plainAttrs_list PySem.F.slot_list_append PySem.F.type_list_append mt_append (pv 1) (pa_cons (pe_tupF (pa_cons pe_str (pa_cons (show DE Z.T G 1 _ _ (dIxN 1) from de_ix (dr_var 4) (dr_of de_int)) pa_nil))) pa_nil))))
            (pss_one (ps_if (show DT Z.T G 1 _ _ (dAtN T_is_element_node) from dt_val (de_call G_is_element_node hr hgd (by rfl) D_is_element_node.g D_is_element_node.F.kp D_is_element_node.b (drs_cons (dr_var 4) drs_nil)))
              (pss_cons (ps_expr (pe_bm PySem.F.plainAttrs_list PySem.F.slot_list_append PySem.F.type_list_append mt_append (pv 1) (pa_cons (pe_tupF (pa_cons pe_str (pa_cons (show DE Z.T G 1 _ _ (dIxN 1) from de_ix (dr_var 4) (dr_of de_int)) pa_nil))) pa_nil)))
                (pss_one (ps_expr (pe_bm PySem.F.plainAttrs_list PySem.F.slot_list_append PySem.F.type_list_append mt_append (pv 3) (pa_cons (pe_lstRevA rfl (by rfl) T.list (by rfl) T.reversed (show DE Z.T G 1 _ _ (dIxN 2) from de_ix (dr_var 4) (dr_of de_int))) pa_nil)))))
              (pss_one (show DS Z.T G 1 _ _ _ from ds_raise A_BadForm hE (ps_raise rfl (takes_of rfl rfl rfl rfl) (pmk_oex B_BadForm.T B_BadForm.ini B_BadForm.ty I_BadForm hr B_BadForm.b .nil pass0 (by rfl) B_BadForm.g (pa_cons (de_var 2) pa_nil))))))))
        (pss_one (ps_aug (i := 2) sc_signs_of.nd rfl (.inl rfl) pe_int ip_add)))))))))), ?_⟩
    unfold SgIn at q
    rcases q with ⟨hs, q⟩ | ⟨hs, n, r, hn, hw, qe, qr⟩
    · refine ⟨_, G, { nx := fun _ => False, rt := fun _ _ => False }, Ex.refl tb, R.more 4, ?_, ⟨fun _ _ _ _ z => z.elim, fun _ _ _ _ z => z.elim, fun _ _ _ _ z => z.elim, fun _ _ _ _ _ _ z => z.elim, fun _ _ _ _ _ _ _ z => z.elim⟩⟩
      show dIfS _ _ _ _ [.sh Dv, .un, .un, .un, .un]
      walk_at "d"
      rw [hs]
      exact q
    · refine ⟨_, G, { nx := fun ρ => ρ = [.sh Dv, .un, .un, .un, .un], rt := fun _ _ => False }, Ex.refl tb, R.more 4, ?_, ⟨fun ρ' σ1 G1 H1 e0 s1 al1 R1 => ?_, fun _ _ _ _ z => z.elim, fun _ _ _ _ z => z.elim, fun _ _ _ _ _ _ z => z.elim, fun _ _ _ _ _ _ _ z => z.elim⟩⟩
      · show dIfS _ _ _ _ [.sh Dv, .un, .un, .un, .un]
        walk_at "d"
        rw [hs]
        exact iteF trivial
      subst e0
      have sz : ∀ {n : Nat}, n ≤ 200000 → n ≤ sizeLine := fun h => Nat.le_trans h (by decide)
      have sz' : ∀ {n : Nat}, n ≤ 200000 → n < sizeLine := fun h => Nat.lt_of_le_of_lt h (by decide)
      have len : σ1.length = 5 := R1.len
      refine ⟨Nat.zero_le _, fun S hS => ?_⟩
      obtain ⟨v0, e0, d0⟩ := R1.sh (i := 0) rfl
      obtain ⟨b0, ys, rfl, sq, dys⟩ := sq_of d0 hs
      have e0' : ((σ1.set 1 (some (V.ref S))).set 2 (some (V.int 0)))[0]? = some (some (V.ref b0)) := by
        rw [List.getElem?_set_ne (by decide), List.getElem?_set_ne (by decide)]
        exact e0
      have R0 : Rep Z (lsF [] fun _ => []) G1 [.sh Dv, .un, .sh (.int (0 : Nat)), .un, .un] ((σ1.set 1 (some (V.ref S))).set 2 (some (V.int 0))) H1 := (R1.forget (i := 1) (fun _ _ z => nomatch z) (some (.ref S))).set (i := 2) (fun _ _ z => nomatch z) (.int _)
      obtain ⟨n0, R2⟩ := R0.newF (ys := []) hS
      have sq2 : Sq Z.K (upd H1 S (.lst [])) b0 ys := Sq.ext (R2.xt) sq
      refine ⟨_, e0', b0, ys, rfl, sq2, fun A1 hA1 => ⟨(by show 1 ≤ sizeLine; decide), fun W hW => ?_⟩⟩
      obtain ⟨n1, R3⟩ := R2.newF (ys := ys.reverse) hA1
      obtain ⟨n2, R4⟩ := R3.newF (ys := [.ref A1]) hW
      have a1 : A1 ≠ S := fun z => n1 (z ▸ List.mem_cons_self)
      have a2 : W ≠ A1 := fun z => n2 (z ▸ List.mem_cons_self)
      have a3 : W ≠ S := fun z => n2 (z ▸ List.mem_cons_of_mem _ List.mem_cons_self)
      have I0 : Wt Z Dv G G1 (((σ1.set 1 (some (V.ref S))).set 2 (some (V.int 0))).set 3 (some (.ref W))) (upd (upd (upd H1 S (.lst [])) A1 (.lst ys.reverse)) W (.lst [.ref A1])) S W [A1] (setF (setF (setF (fun _ => []) S []) A1 ys.reverse) W [.ref A1]) [] [itD Dv] 0 .un := by
        refine ⟨s1, (R4.forget (i := 3) (fun _ _ z => nomatch z) (some (.ref W))).subF fun ⟨b, u⟩ m => ?_, ?_, ?_, ?_, ?_, setF_same, .cons ?_ .nil, fun r m => ?_⟩
        · obtain ⟨m2, rfl⟩ := mem_lsF.mp m
          refine mem_lsF.mpr ⟨?_, rfl⟩
          rcases List.mem_cons.mp m2 with z | m2
          · exact z ▸ List.mem_cons_of_mem _ (List.mem_cons_of_mem _ List.mem_cons_self)
          rcases List.mem_cons.mp m2 with z | m2
          · exact z ▸ List.mem_cons_self
          · rw [List.mem_singleton.mp m2]
            exact List.mem_cons_of_mem _ List.mem_cons_self
        · refine List.nodup_cons.mpr ⟨fun m => ?_, List.nodup_cons.mpr ⟨fun m => a2 (List.mem_singleton.mp m), List.nodup_cons.mpr ⟨List.not_mem_nil, List.nodup_nil⟩⟩⟩
          rcases List.mem_cons.mp m with z | m
          · exact a3 z.symm
          · exact a1 (List.mem_singleton.mp m).symm
        · rw [List.getElem?_set_ne (by decide), List.getElem?_set_ne (by decide), List.getElem?_set_self (by omega)]
        · rw [List.getElem?_set_self (by rw [List.length_set, List.length_set]; omega)]
        · rw [setF_ne (Ne.symm a3), setF_ne (Ne.symm a1), setF_same]
          exact .nil
        · rw [setF_ne (Ne.symm a2), setF_same, List.reverse_reverse]
          exact dys
        · rw [List.mem_singleton.mp m]
          exact okD_it okV
      let Iv : Nat → L2.St → Hp → Prop := fun m σ H => ∃ G2 as cv out rows many, Wt Z Dv G G2 σ H S W as cv out rows many .un ∧ as ≠ [] ∧ sgW m rows out many = some r ∧ out.length + m ≤ n ∧ as.length + m ≤ n + 1
      refine ⟨Iv, ⟨n, G1, [A1], _, [], [itD Dv], 0, I0, (fun z => nomatch z), hw, (by rw [List.length_nil]; omega), (by rw [List.length_singleton]; omega)⟩, ?_⟩
      intro m σ H W0
      refine ⟨true, rfl, iteT ?_⟩
      refine ⟨fun σ H => ∃ m', m' < m ∧ Iv m' σ H, fun _ _ z => z, ?_⟩
      refine ⟨fun k σ H => k ≤ m ∧ Iv k σ H, ⟨m, Nat.le_refl _, W0⟩, ?_⟩
      clear I0 R4 R3 R2 R0 W0
      rintro k σ H ⟨hk, G2, as, cv, out, rows, many, I, ha, e, l1, l2⟩
      obtain ⟨a, as, rfl⟩ : ∃ a as', as = a :: as' := by
        cases as with
        | nil => exact absurd rfl ha
        | cons a as => exact ⟨a, as, rfl⟩
      obtain ⟨r0, rs, rfl⟩ : ∃ r0 rs, rows = r0 :: rs := by
        have := I.ro
        cases this
        exact ⟨_, _, rfl⟩
      obtain ⟨k, rfl⟩ := sgW_s e
      have hl : atI (rfs (a :: as)) (-1) = some (V.ref a) := by rw [rfs_cons]; exact atI_last _ _
      have al := I.al (a := a) List.mem_cons_self
      refine ⟨_, I.e3, _, rfl, W, _, _, _, rfl, rfl, SqL.of I.wl, hl, a, _, rfl, .inl (SqL.of al), rfl, _, rfl, ?_⟩
      cases r0 with
      | nil =>
        have e0 : cv a = [] := by
          have := I.ro
          cases this with
          | cons h _ =>
            have l := dwAll_len h
            rw [List.length_reverse, List.length_nil] at l
            exact List.eq_nil_of_length_eq_zero l
        rw [show (decide (V.int (((cv a).length : Nat) : Int) = V.int 0)) = true from by rw [e0]; rfl]
        refine iteT ?_
        refine ⟨fun σ H => ∃ k', k' < k + 1 ∧ k' ≤ m ∧ Iv k' σ H, fun _ _ z => z, ?_⟩
        have wl := I.wl
        rw [rfs_cons] at wl
        refine ⟨_, I.e3, .inl ⟨rfl, _, SqL.of wl⟩, W, _, _, rfl, rfl, wl, pop_lst _ _, ?_⟩
        rw [List.dropLast_concat]
        have I2 := I.drop
        refine ⟨_, I2.e3, W, _, rfl, .inl (SqL.of I2.wl), rfl, _, rfl, ?_⟩
        cases as with
        | nil =>
          refine iteT ?_
          have hrs : rs = [] := by
            have := I2.ro
            cases this
            rfl
          subst hrs
          have er : r = .inr out := by
            unfold sgW at e
            exact (Option.some.inj e).symm
          refine ⟨_, I2.e1, S, _, rfl, .inl ⟨SqL.of I2.sl, fun p ob hp hd => ?_⟩⟩
          obtain ⟨gp, R6⟩ := I2.R.noF.new (o := .frz ob (.tup (setF cv W (rfs []) S))) I2.x.2 hp hd
          have s6 : Ex Z.T G2 _ := Ex.new I2.x.2 gp (o := .frz ob (.tup (setF cv W (rfs []) S)))
          have Rq := R.pastC (I2.x.trans s6) R6.sub R6.nt fun b w => by
            rcases w with ⟨i, c, e⟩ | ⟨o, m⟩
            · exact absurd e (no_sh1 i b c)
            · exact absurd m List.not_mem_nil
          exact hQ (.tuple out) _ _ _ _ (qr out er) (.sh .nil) (I2.x.trans s6) Rq (.tup (.inl (.inr ⟨ob, upd_same⟩)) (I2.hS.mono s6))
        | cons a2 as =>
          rw [show (decide (V.int (((rfs (a2 :: as)).length : Nat) : Int) = V.int 0)) = false from decide_eq_false (fun z => by
            have z' := V.int.inj z
            rw [rfs_len, List.length_cons] at z'
            omega)]
          refine iteF ?_
          obtain ⟨r2, rs, rfl⟩ : ∃ r2 rs', rs = r2 :: rs' := by
            have := I2.ro
            cases this
            exact ⟨_, _, rfl⟩
          have e2 : sgW k (r2 :: rs) (out ++ [clG]) many = some r := by
            unfold sgW at e
            exact e
          refine ⟨_, I2.e1, .inl ⟨rfl, _, SqL.of I2.sl⟩, (by show 1 ≤ sizeLine; decide), fun t ob ht hd => ?_⟩
          have s3 := Ex.new I2.x.2 (I2.R.gnone ht) (o := .frz ob (.tup [.str "close"]))
          have I3 := I2.grow s3 (I2.R.new (o := .frz ob (.tup [.str "close"])) I2.x.2 ht hd).2
          have lo := dwAll_len I3.hS
          refine ⟨S, _, _, rfl, rfl, I3.sl, sz' (by omega), ?_⟩
          have I4 := I3.put (d := clG) (x := .ref t) (.tup (.inl (.inr ⟨ob, upd_same⟩)) (.cons (.str _) .nil))
          exact ⟨k, Nat.lt_succ_self _, by omega, _, _, _, _, _, _, I4, (fun z => nomatch z), e2, (by rw [List.length_append, List.length_singleton]; omega), (by rw [List.length_cons, List.length_cons] at l2; rw [List.length_cons]; omega)⟩
      | cons d w =>
        rw [show (decide (V.int (((cv a).length : Nat) : Int) = V.int 0)) = false from decide_eq_false (fun z => by
          have z' := V.int.inj z
          have := I.ro
          cases this with
          | cons h _ =>
            have l := dwAll_len h
            rw [List.length_reverse, List.length_cons] at l
            omega)]
        refine iteF ?_
        obtain ⟨xs, x, ex, dx, okd, I2⟩ := I.take
        rw [ex] at al
        refine ⟨_, I.e3, _, rfl, W, _, _, _, rfl, rfl, SqL.of I.wl, hl, .inl ⟨rfl, _, SqL.of al⟩, a, _, _, rfl, rfl, al, pop_lst _ _, ?_⟩
        rw [List.dropLast_concat]
        have len : σ.length = 5 := I2.R.len
        have I3 := I2.slot (m' := many) (q4 := .sh d) (σ' := σ.set 4 (some x)) (I2.R.set (i := 4) (fun _ _ z => nomatch z) dx) (List.getElem?_set_ne (by decide)) (List.getElem?_set_ne (by decide))
        -- the count goes up
        have up : ∀ {G3 H3 as3 cv3 out3 rows3 k'}, Wt Z Dv G G3 (σ.set 4 (some x)) H3 S W as3 cv3 out3 rows3 many (.sh d) → as3 ≠ [] → sgW k' rows3 out3 (many + 1) = some r → k' < m → out3.length + k' ≤ n → as3.length + k' ≤ n + 1 → tAug 2 (tC (.int 1)) (ipI fun i j => i + j) { nx := fun σ H => ∃ m', m' < m ∧ Iv m' σ H, rt := Q, bk := fun _ _ => False, ct := fun σ H => ∃ m', m' < m ∧ Iv m' σ H } (σ.set 4 (some x)) H3 := by
          intro G3 H3 as3 cv3 out3 rows3 k' I h1 h2 h3 h4 h5
          obtain ⟨v2, q2, d2⟩ := I.R.sh (i := 2) rfl
          cases d2
          refine ⟨_, q2, _, _, rfl, rfl, ?_⟩
          have J := I.slot (m' := many + 1) (q4 := .sh d) (σ' := (σ.set 4 (some x)).set 2 (some (.int ((many : Int) + 1)))) (I.R.set (i := 2) (fun _ _ z => nomatch z) (.int _)) (List.getElem?_set_ne (by decide)) (List.getElem?_set_ne (by decide))
          exact ⟨k', h3, _, _, _, _, _, _, J.off, h1, h2, h4, h5⟩
        refine node_at I3 (b := txN d) (fun Q er q => ⟨okd, q⟩) fun G4 H4 I4 => ?_
        by_cases ht : txN d = true
        · rw [ht]
          refine iteT ?_
          obtain ⟨hs1, x1, x2, e1⟩ := txN_row ht
          have e1D' : e1D d = x2 := by
            unfold e1D
            rw [e1]
            rfl
          have e2 : sgW k (w :: rs) (out ++ [.tuple [.str "text", x2]]) (many + 1) = some r := by
            unfold sgW at e
            rw [if_pos ht, e1D'] at e
            exact e
          refine ⟨_, I4.e1, .inl ⟨rfl, _, SqL.of I4.sl⟩, part_at I4 (k := 1) (e := x2) hs1 (by rw [e1]; rfl) fun v5 G5 H5 I5 d5 => ⟨(by show 2 ≤ sizeLine; decide), fun t ob ht hd => ?_⟩⟩
          have s6 := Ex.new I5.x.2 (I5.R.gnone ht) (o := .frz ob (.tup [.str "text", v5]))
          have I6 := I5.grow s6 (I5.R.new (o := .frz ob (.tup [.str "text", v5])) I5.x.2 ht hd).2
          have lo := dwAll_len I6.hS
          refine ⟨S, _, _, rfl, rfl, I6.sl, sz' (by omega), ?_⟩
          have I7 := I6.put (d := .tuple [.str "text", x2]) (x := .ref t) (.tup (.inl (.inr ⟨ob, upd_same⟩)) (.cons (.str _) (.cons (d5.mono s6) .nil)))
          exact up I7 (fun z => nomatch z) e2 (by omega) (by rw [List.length_append, List.length_singleton]; omega) (by omega)
        · have htf : txN d = false := by simpa using ht
          rw [htf]
          refine iteF ?_
          refine node_at I4 (b := elN d) (fun Q er q => ⟨okd, q⟩) fun G5 H5 I5 => ?_
          by_cases he : elN d = true
          · rw [he]
            refine iteT ?_
            obtain ⟨hs1, x1, x2, x3, e1, hs3⟩ := elN_row he
            have e1D' : e1D d = x2 := by
              unfold e1D
              rw [e1]
              rfl
            have e2D' : e2D d = x3 := by
              unfold e2D
              rw [e1]
              rfl
            have e2 : sgW k (itD x3 :: w :: rs) (out ++ [.tuple [.str "open", x2]]) (many + 1) = some r := by
              unfold sgW at e
              rw [if_neg ht, if_pos he, e1D', e2D'] at e
              exact e
            refine ⟨_, I5.e1, .inl ⟨rfl, _, SqL.of I5.sl⟩, part_at I5 (k := 1) (e := x2) hs1 (by rw [e1]; rfl) fun v6 G6 H6 I6 d6 => ⟨(by show 2 ≤ sizeLine; decide), fun t ob ht hd => ?_⟩⟩
            have s7 := Ex.new I6.x.2 (I6.R.gnone ht) (o := .frz ob (.tup [.str "open", v6]))
            have I7 := I6.grow s7 (I6.R.new (o := .frz ob (.tup [.str "open", v6])) I6.x.2 ht hd).2
            have lo := dwAll_len I7.hS
            refine ⟨S, _, _, rfl, rfl, I7.sl, sz' (by omega), ?_⟩
            have I8 := I7.put (d := .tuple [.str "open", x2]) (x := .ref t) (.tup (.inl (.inr ⟨ob, upd_same⟩)) (.cons (.str _) (.cons (d6.mono s7) .nil)))
            refine ⟨_, I8.e3, .inl ⟨rfl, _, SqL.of I8.wl⟩, part_at I8 (k := 2) (e := x3) hs1 (by rw [e1]; rfl) fun v9 G9 H9 I9 d9 => ?_⟩
            obtain ⟨b9, zs, rfl, sq9, dz⟩ := sq_of d9 hs3
            refine ⟨b9, zs, rfl, Sq.ext I9.R.xt sq9, fun A2 hA2 => ?_⟩
            have I10 := I9.more hA2 dz (okD_it (okD_it okd x3 (by rw [e1]; exact List.mem_cons_of_mem _ (List.mem_cons_of_mem _ List.mem_cons_self))))
            refine ⟨W, _, _, rfl, rfl, (by rw [upd_ne (ne_of_none I9.wl hA2)]; exact I9.wl), sz' (by rw [rfs_len]; omega), ?_⟩
            exact up I10 (fun z => nomatch z) e2 (by omega) (by rw [List.length_append, List.length_singleton]; omega) (by rw [List.length_cons]; omega)
          · have hef : elN d = false := by simpa using he
            rw [hef]
            refine iteF ?_
            refine ⟨_, G5, { nx := fun _ => False, rt := fun _ _ => False }, I5.x, I5.R.noF, ?_, ⟨fun _ _ _ _ z => z.elim, fun _ _ _ _ z => z.elim, fun _ _ _ _ z => z.elim, fun _ _ _ _ _ _ z => z.elim, fun _ _ _ _ _ _ _ z => z.elim⟩⟩
            refine qe many ?_
            unfold sgW at e
            rw [if_neg ht, if_neg he] at e
            exact (Option.some.inj e).symm
end
end Lw
set_option Elab.async false
set_option linter.all false
set_option maxRecDepth 100000
set_option maxHeartbeats 1000000
set_option pp.deepTerms true
set_option pp.maxSteps 200000
namespace Lw
open PySem PySem.Spec PyProof PyProof.Rows L2 So Da Dl
local macro_rules | `(tactic| walk_at "z") => `(tactic| repeat (first | refine ⟨(by decide), ?_⟩ | refine ⟨(by omega), ?_⟩ | refine ⟨rfl, ?_⟩))
section
variable {Z : Zw}
def CHR : Str := "abcdefghijklmnopqrstuvwxyzABCDEFGHIJKLMNOPQRSTUVWXYZ0123456789 .,:;!?()<>/=+*&#-_'\"\\\n"
end
end Lw
set_option Elab.async false
set_option linter.all false
set_option maxRecDepth 100000
set_option maxHeartbeats 1000000
set_option pp.deepTerms true
set_option pp.maxSteps 200000
namespace Lw
open PySem PySem.Spec PyProof PyProof.Rows L2 So Da Dl
local macro_rules | `(tactic| walk_at "z") => `(tactic| repeat (first | refine ⟨(by decide), ?_⟩ | refine ⟨(by omega), ?_⟩ | refine ⟨rfl, ?_⟩))
section
variable {Z : Zw}
abbrev s_law_box : Stmt := top 41
theorem sc_law_box : FnScope ["script", "k", "cell", "great"] ["script", "k"] (defScope s_law_box) := ⟨rfl, rfl, rfl, by decide +kernel, rfl, by decide +kernel, by decide +kernel⟩
theorem item_int {ns : List Int} {j : Nat} (h : j < ns.length) : ∃ n, (ns.map V.int)[j]? = some (V.int n) := ⟨ns[j], by rw [List.getElem?_map, List.getElem?_eq_getElem h]; rfl⟩
theorem ok_law_box {f : Addr} {fd : FuncData} (F : Fun Z.K "_law_box" "_law_box" s_law_box f fd) (T : Tz Z.K Z.mg) : FnD Z.Pg Z.w Z.K Z.mg Z.base CX0 1 f fd ["script", "k"] (spO Z Tbox) := by
  refine box_T (.of (F.ok sc_law_box (fun vs H Q E h => ?_) (fun cdv A outer s H vs Q E hr h => ?_)))
  · obtain ⟨_, _, _, rfl, _⟩ := h
    rfl
  · obtain ⟨a, ns, k, rfl, hS, hlen, hk, kont⟩ := h
    refine ⟨_, pss_cons (ps_set (i := 2) sc_law_box.nd rfl (Or.inl rfl) (pe_op op_add (pe_op op_mul pe_int (pv 1)) pe_int))
      (pss_cons (ps_if (pt_cmpR op_lt (pv 1) (pe_callB call_len_seq (by rfl) T.len (by decide +kernel) (pa_cons (pv 0) pa_nil)) (nomark _))
        (pss_one (ps_set (i := 2) sc_law_box.nd rfl (Or.inl rfl) (pe_callB call_abs (by rfl) T.abs (by decide +kernel) (pa_cons (pe_callTy call_int1 (by rfl) T.int (by decide +kernel) (pa_cons (pe_ix ix_list (pv 0) (pv 1) (fun _ _ => rfl)) pa_nil)) pa_nil))))
        (pss_one (ps_if (pt_cmpR op_gt (pe_callB call_len_seq (by rfl) T.len (by decide +kernel) (pa_cons (pv 0) pa_nil)) pe_int (nomark _))
          (pss_one (ps_set (i := 2) sc_law_box.nd rfl (Or.inl rfl) (pe_op op_add (pv 2) (pe_op op_mul (pe_op op_mod (pe_callTy call_int1 (by rfl) T.int (by decide +kernel) (pa_cons (pe_callB call_abs (by rfl) T.abs (by decide +kernel) (pa_cons (pe_callTy call_int1 (by rfl) T.int (by decide +kernel)
              (pa_cons (pe_ix ix_list (pv 0) (pe_op op_mod (pe_callTy call_int1 (by rfl) T.int (by decide +kernel) (pa_cons (pv 1) pa_nil)) (pe_callB call_len_seq (by rfl) T.len (by decide +kernel) (pa_cons (pv 0) pa_nil))) (fun _ _ => rfl)) pa_nil)) pa_nil)) pa_nil)) pe_int) pe_int))))
          pss_nil)))
      (pss_cons (ps_set (i := 3) sc_law_box.nd rfl (Or.inl rfl) (pe_ifExp (pt_cmpR op_ge (pv 2) (pe_op op_pow pe_int pe_int) (nomark _)) (pv 2) pe_int))
      (pss_one (ps_ret (pe_lst (pa_cons (pv 3) (pa_cons (pe_op op_add (pe_op op_mod (pe_callTy call_int1 (by rfl) T.int (by decide +kernel) (pa_cons (pe_op op_add (pe_op op_mul (pe_op op_mod (pe_callTy call_int1 (by rfl) T.int (by decide +kernel) (pa_cons (pv 2) pa_nil)) pe_int) pe_int) (pe_op op_mul pe_int (pv 1))) pa_nil)) pe_int) pe_int) pa_nil))))))), ?_⟩
    refine ⟨_, rfl, _, _, rfl, rfl, .inl ⟨(by show -(2 ^ 64) < (15199 : Int); decide), (by show (15199 : Int) < 2 ^ 64; decide)⟩, _, _, rfl, rfl, ?_⟩
    refine ⟨_, rfl, _, rfl, a, _, rfl, .inl hS, _, _, rfl, rfl, _, rfl, ?_⟩
    refine ite2 (fun h1 => ?_) (fun h1 => ?_)
    · have h1' : (k : Int) < ((ns.map V.int).length : Nat) := of_decide_eq_true h1
      rw [List.length_map] at h1'
      obtain ⟨n, hn⟩ := item_int (ns := ns) (j := k) (by omega)
      refine ⟨_, rfl, _, rfl, a, _, _, _, rfl, rfl, hS, atI_nat hn, .inl ⟨_, rfl, _, rfl, ?_⟩⟩
      have c0 : 0 ≤ (if n < 0 then -n else n) := by split <;> omega
      generalize (if n < 0 then -n else n) = c at c0
      refine ⟨_, rfl, _, _, rfl, rfl, ⟨by decide, by decide, by decide⟩, _, _, rfl, rfl, _, rfl, ?_⟩
      refine ite2 (fun _ => ?_) (fun _ => ?_)
      · refine ⟨_, rfl, ?_⟩
        refine ⟨_, rfl, _, rfl, .inl ⟨_, rfl, _, _, rfl, rfl, (by show (0 : Int) < 2147483563; decide), _, _, rfl, rfl, .inr ⟨(by show -(2 ^ 64) < (53890003 : Int); decide), (by show (53890003 : Int) < 2 ^ 64; decide)⟩, _, rfl, _, _, rfl, rfl, .inl ⟨(by show -(2 ^ 64) < (8419 : Int); decide), (by show (8419 : Int) < 2 ^ 64; decide)⟩, _, _, rfl, rfl, .inl ⟨_, rfl, _, _, rfl, rfl, (by show (0 : Int) < 2147483563; decide), _, _, rfl, rfl, (by show 2 ≤ sizeLine; decide), fun q hq => ?_⟩⟩⟩
        exact kont q _ _ (c0) (by omega) (by omega) hq
      · refine ⟨_, rfl, _, rfl, .inl ⟨_, rfl, _, _, rfl, rfl, (by show (0 : Int) < 2147483563; decide), _, _, rfl, rfl, .inr ⟨(by show -(2 ^ 64) < (53890003 : Int); decide), (by show (53890003 : Int) < 2 ^ 64; decide)⟩, _, rfl, _, _, rfl, rfl, .inl ⟨(by show -(2 ^ 64) < (8419 : Int); decide), (by show (8419 : Int) < 2 ^ 64; decide)⟩, _, _, rfl, rfl, .inl ⟨_, rfl, _, _, rfl, rfl, (by show (0 : Int) < 2147483563; decide), _, _, rfl, rfl, (by show 2 ≤ sizeLine; decide), fun q hq => ?_⟩⟩⟩
        exact kont q _ _ (Int.le_refl 0) (by omega) (by omega) hq
    · refine ⟨_, rfl, a, _, rfl, .inl hS, _, _, rfl, rfl, _, rfl, ?_⟩
      have c1 : (0 : Int) ≤ 15199 * (k : Int) + 8419 := by omega
      refine ite2 (fun h2 => ?_) (fun h2 => ?_)
      · have h2' : ((ns.map V.int).length : Nat) > (0 : Int) := of_decide_eq_true h2
        rw [List.length_map] at h2'
        obtain ⟨n, hn⟩ := item_int (ns := ns) (j := k % ns.length) (Nat.mod_lt _ (by omega))
        have ej : (k : Int) % (((ns.map V.int).length : Nat) : Int) = ((k % ns.length : Nat) : Int) := by
          rw [List.length_map]
          exact (Int.natCast_emod k ns.length).symm
        have at2 : atI (ns.map V.int) ((k : Int) % (((ns.map V.int).length : Nat) : Int)) = some (V.int n) := by
          rw [ej]
          exact atI_nat hn
        refine ⟨_, rfl, _, rfl, _, rfl, .inl ⟨_, rfl, _, rfl, a, _, rfl, .inl hS, _, _, rfl, rfl, (by rw [List.length_map]; exact h2'), a, _, _, _, rfl, rfl, hS, at2, .inl ⟨_, rfl, _, rfl, .inl ⟨_, rfl, _, _, rfl, rfl, (by show (0 : Int) < 2147483563; decide), _, _, rfl, rfl, .inr ⟨(by show -(2 ^ 64) < (93001 : Int); decide), (by show (93001 : Int) < 2 ^ 64; decide)⟩, _, _, rfl, rfl, ?_⟩⟩⟩⟩
        have m0 : 0 ≤ (if n < 0 then -n else n) % 2147483563 := Int.emod_nonneg _ (by decide)
        have c0 : 0 ≤ 15199 * (k : Int) + 8419 + (if n < 0 then -n else n) % 2147483563 * 93001 := by omega
        refine ⟨_, rfl, _, _, rfl, rfl, ⟨by decide, by decide, by decide⟩, _, _, rfl, rfl, _, rfl, ?_⟩
        refine ite2 (fun _ => ?_) (fun _ => ?_)
        · refine ⟨_, rfl, ?_⟩
          refine ⟨_, rfl, _, rfl, .inl ⟨_, rfl, _, _, rfl, rfl, (by show (0 : Int) < 2147483563; decide), _, _, rfl, rfl, .inr ⟨(by show -(2 ^ 64) < (53890003 : Int); decide), (by show (53890003 : Int) < 2 ^ 64; decide)⟩, _, rfl, _, _, rfl, rfl, .inl ⟨(by show -(2 ^ 64) < (8419 : Int); decide), (by show (8419 : Int) < 2 ^ 64; decide)⟩, _, _, rfl, rfl, .inl ⟨_, rfl, _, _, rfl, rfl, (by show (0 : Int) < 2147483563; decide), _, _, rfl, rfl, (by show 2 ≤ sizeLine; decide), fun q hq => ?_⟩⟩⟩
          exact kont q _ _ (c0) (by omega) (by omega) hq
        · refine ⟨_, rfl, _, rfl, .inl ⟨_, rfl, _, _, rfl, rfl, (by show (0 : Int) < 2147483563; decide), _, _, rfl, rfl, .inr ⟨(by show -(2 ^ 64) < (53890003 : Int); decide), (by show (53890003 : Int) < 2 ^ 64; decide)⟩, _, rfl, _, _, rfl, rfl, .inl ⟨(by show -(2 ^ 64) < (8419 : Int); decide), (by show (8419 : Int) < 2 ^ 64; decide)⟩, _, _, rfl, rfl, .inl ⟨_, rfl, _, _, rfl, rfl, (by show (0 : Int) < 2147483563; decide), _, _, rfl, rfl, (by show 2 ≤ sizeLine; decide), fun q hq => ?_⟩⟩⟩
          exact kont q _ _ (Int.le_refl 0) (by omega) (by omega) hq
      · refine ⟨_, rfl, _, _, rfl, rfl, ⟨by decide, by decide, by decide⟩, _, _, rfl, rfl, _, rfl, ?_⟩
        refine ite2 (fun _ => ?_) (fun _ => ?_)
        · refine ⟨_, rfl, ?_⟩
          refine ⟨_, rfl, _, rfl, .inl ⟨_, rfl, _, _, rfl, rfl, (by show (0 : Int) < 2147483563; decide), _, _, rfl, rfl, .inr ⟨(by show -(2 ^ 64) < (53890003 : Int); decide), (by show (53890003 : Int) < 2 ^ 64; decide)⟩, _, rfl, _, _, rfl, rfl, .inl ⟨(by show -(2 ^ 64) < (8419 : Int); decide), (by show (8419 : Int) < 2 ^ 64; decide)⟩, _, _, rfl, rfl, .inl ⟨_, rfl, _, _, rfl, rfl, (by show (0 : Int) < 2147483563; decide), _, _, rfl, rfl, (by show 2 ≤ sizeLine; decide), fun q hq => ?_⟩⟩⟩
          exact kont q _ _ (c1) (by omega) (by omega) hq
        · refine ⟨_, rfl, _, rfl, .inl ⟨_, rfl, _, _, rfl, rfl, (by show (0 : Int) < 2147483563; decide), _, _, rfl, rfl, .inr ⟨(by show -(2 ^ 64) < (53890003 : Int); decide), (by show (53890003 : Int) < 2 ^ 64; decide)⟩, _, rfl, _, _, rfl, rfl, .inl ⟨(by show -(2 ^ 64) < (8419 : Int); decide), (by show (8419 : Int) < 2 ^ 64; decide)⟩, _, _, rfl, rfl, .inl ⟨_, rfl, _, _, rfl, rfl, (by show (0 : Int) < 2147483563; decide), _, _, rfl, rfl, (by show 2 ≤ sizeLine; decide), fun q hq => ?_⟩⟩⟩
          exact kont q _ _ (Int.le_refl 0) (by omega) (by omega) hq
abbrev s_law_take : Stmt := top 42
theorem sc_law_take : FnScope ["box", "many", "digit", "raw"] ["box", "many"] (defScope s_law_take) := ⟨rfl, rfl, rfl, by decide +kernel, rfl, by decide +kernel, by decide +kernel⟩
theorem ok_law_take {f : Addr} {fd : FuncData} (F : Fun Z.K "_law_take" "_law_take" s_law_take f fd) (T : Tz Z.K Z.mg) : FnD Z.Pg Z.w Z.K Z.mg Z.base CX0 1 f fd ["box", "many"] (spT Z Ttake) := by
  refine take_T (.of (F.ok sc_law_take (fun vs H Q E h => ?_) (fun cdv A outer s H vs Q E hr h => ?_)))
  · obtain ⟨_, _, _, _, rfl, _⟩ := h
    rfl
  · obtain ⟨b, n, g, z, rfl, ⟨hb, hg, hz, hz2⟩, hn, hn2, kont⟩ := h
    refine ⟨_, pss_cons (ps_if (pt_cmpR op_gt (pe_ix ix_list (pv 0) pe_int (fun _ _ => rfl)) pe_int (nomark _))
        (pss_cons (ps_set (i := 2) sc_law_take.nd rfl (Or.inl rfl) (pe_op op_mod (pe_callTy call_int1 (by rfl) T.int (by decide +kernel) (pa_cons (pe_ix ix_list (pv 0) pe_int (fun _ _ => rfl)) pa_nil)) (pv 1)))
        (pss_cons (ps_asg (pe_op op_fdiv (pe_ix ix_list (pv 0) pe_int (fun _ _ => rfl)) (pv 1)) (pg_sub (pv 0) pe_int set_list))
        (pss_one (ps_ret (pv 2))))) pss_nil)
      (pss_cons (ps_set (i := 3) sc_law_take.nd rfl (Or.inl rfl) (pe_op op_mod (pe_callTy call_int1 (by rfl) T.int (by decide +kernel) (pa_cons (pe_op op_add (pe_op op_mul (pe_ix ix_list (pv 0) pe_int (fun _ _ => rfl)) pe_int) pe_int) pa_nil)) pe_int))
      (pss_cons (ps_asg (pe_op op_add (pe_op op_mod (pe_callTy call_int1 (by rfl) T.int (by decide +kernel) (pa_cons (pe_op op_add (pe_op op_mul (pv 3) pe_int) pe_int) pa_nil)) pe_int) pe_int) (pg_sub (pv 0) pe_int set_list))
      (pss_one (ps_ret (pe_op op_mod (pe_callTy call_int1 (by rfl) T.int (by decide +kernel) (pa_cons (pe_op op_fdiv (pe_op op_add (pe_op op_mul (pv 3) pe_int) (pe_ix ix_list (pv 0) pe_int (fun _ _ => rfl))) pe_int) pa_nil)) (pv 1)))))), ?_⟩
    refine ⟨_, rfl, b, _, _, _, rfl, rfl, SqL.of hb, atI_nat (j := 0) rfl, _, _, rfl, rfl, _, rfl, ?_⟩
    refine ite2 (fun _ => ?_) (fun _ => ?_)
    · refine ⟨_, rfl, b, _, _, _, rfl, rfl, SqL.of hb, atI_nat (j := 0) rfl, .inl ⟨_, rfl, _, rfl, _, _, rfl, rfl, hn, ?_⟩⟩
      refine ⟨_, rfl, b, _, _, _, rfl, rfl, SqL.of hb, atI_nat (j := 0) rfl, _, rfl, _, _, rfl, rfl, ⟨hn, by omega⟩, ?_⟩
      refine ⟨_, rfl, b, _, _, 0, rfl, rfl, hb, rfl, ?_⟩
      refine ⟨_, rfl, ?_⟩
      exact kont _ (g / n) z (Int.emod_nonneg _ (by omega)) (Int.emod_lt_of_pos _ hn) (Int.ediv_nonneg hg (by omega)) hz hz2
    · refine ⟨_, rfl, b, _, _, _, rfl, rfl, SqL.of hb, atI_nat (j := 1) rfl, _, _, rfl, rfl, .inr ⟨(by show -(2 ^ 64) < (39373 : Int); decide), (by show (39373 : Int) < 2 ^ 64; decide)⟩, _, _, rfl, rfl, .inl ⟨_, rfl, _, _, rfl, rfl, (by show (0 : Int) < 2147483647; decide), ?_⟩⟩
      refine ⟨_, rfl, _, _, rfl, rfl, .inr ⟨(by show -(2 ^ 64) < (40692 : Int); decide), (by show (40692 : Int) < 2 ^ 64; decide)⟩, _, _, rfl, rfl, .inl ⟨_, rfl, _, _, rfl, rfl, (by show (0 : Int) < 2147483563; decide), _, _, rfl, rfl, ?_⟩⟩
      refine ⟨_, rfl, b, _, _, 1, rfl, rfl, hb, rfl, ?_⟩
      refine ⟨_, rfl, _, _, rfl, rfl, .inr ⟨(by show -(2 ^ 64) < (2147483629 : Int); decide), (by show (2147483629 : Int) < 2 ^ 64; decide)⟩, _, rfl, b, _, _, _, rfl, rfl, SqL.of upd_same, atI_nat (j := 1) rfl, _, _, rfl, rfl, _, _, rfl, rfl, ⟨by decide, by decide⟩, .inl ⟨_, rfl, _, rfl, _, _, rfl, rfl, hn, ?_⟩⟩
      exact kont _ g _ (Int.emod_nonneg _ (by omega)) (Int.emod_lt_of_pos _ hn) hg (by omega) (by omega)
end
end Lw
set_option Elab.async false
set_option linter.all false
set_option maxRecDepth 100000
set_option maxHeartbeats 1000000
set_option pp.deepTerms true
set_option pp.maxSteps 200000
namespace Lw
open PySem PySem.Spec PyProof PyProof.Rows L2 So Da Dl
local macro_rules | `(tactic| walk_at "z") => `(tactic| repeat (first | refine ⟨(by decide), ?_⟩ | refine ⟨(by omega), ?_⟩ | refine ⟨rfl, ?_⟩))
section
variable {Z : Zw}
def T_law_pick : TD := fun as Q _ => match as with
  | [.ob b .box, .sh D] => isSq D = true ∧ 0 < (itD D).length ∧ (itD D).length < 1000 ∧ ∀ d ∈ itD D, Q d [.ob b .box, .sh D]
  | _ => False
abbrev s_law_pick : Stmt := top 43
theorem sc_law_pick : FnScope ["box", "some"] ["box", "some"] (defScope s_law_pick) := ⟨rfl, rfl, rfl, by decide +kernel, rfl, by decide +kernel, by decide +kernel⟩
local macro_rules | `(tactic| walk_at "d") => `(tactic| simp only [↓dSeq, ↓dFor, ↓reprD, ↓dCallK, ↓dIfS, ↓dAndV, ↓dOrV, ↓dUn, ↓dOp, ↓dC, ↓dVar, ↓derefW, ↓deref, ↓known, ↓noOb, ↓nbO, ↓start0, ↓endsOf, ↓outA, ↓toB, ↓dAnd, ↓dOr, ↓dNot, ↓ofB, ↓dIf, ↓dChain, ↓dgName, ↓dgSeq, ↓dgCons, ↓dgNil, ↓dLc, ↓popW, ↓atOl, ↓isOl, ↓ownS, ↓frzD, ↓dCall, argsOf, argLc, obSlots, upS, upO, ↓noObs, ↓wipeD, List.map_cons, List.map_nil, List.length_cons, List.length_nil, Nat.sub_self, Nat.zero_add, Nat.reduceAdd, Nat.reduceSub, List.replicate, List.append_nil, List.cons_append, List.nil_append, List.getElem?_cons_zero, List.getElem?_cons_succ, List.getElem?_nil, List.set, List.head?, List.tail, Option.getD_some, Option.getD_none, List.nodup_nil, List.nodup_cons, List.not_mem_nil, List.mem_cons, List.mem_singleton, or_false, Nat.reduceEqDiff, true_and, and_true, Bool.not_true, Bool.not_false, if_true, Bool.false_eq_true, if_false, ite_true, ite_false, not_false_eq_true, reduceCtorEq, eqD_int, eqD_str, eqD_bl, eqD_tuple, eqD_list, eqD_tupleR, eqD_listR, eqD_non, neD_int, neD_str, neD_bl, neD_tuple, neD_list, neD_tupleR, neD_listR, neD_non, ↓isD, ↓notD, ix_0, ix_1, ix_2, ix_3, ix_4, ix_L0, ix_L1, ix_L2, itemsD_L, itemsD_T, tupleD_L, tupleD_T, listD_L, listD_T, lenD_L, lenD_T, lenD_S, slD_L, slD_T, addD_I, addD_S, addD_T, addD_L, subD_I, mulD_I, ltD_I, ltD_S, leD_I, gtD_I, geD_I, modD_I, fdivD_I, powD_I, intD_I, intD_B, negD_I, isND_N, isND_I, isND_S, isND_B, isND_T, isND_L, sq_T, sq_L, sq_N, sq_I, sq_S, sq_B, at_0, at_1, at_2, at_3, at_4, ↓isiD, pick, List.filterMap_cons_some, List.filterMap_nil, List.filterMap_cons, ↓ownC, ↓T1, ↓T2, ↓T3, ↓T4, ↓dHeard, ↓capsD, ↓slotsD, ↓lamW, lamSto, cpLc, ↓dHeardS, ↓dAsks, ↓asksW, ↓heardT, ↓Tbox, ↓Ttake, dForN, forNW, fnW, slSD, repD2, ↓intW, ix_ma0, ix_ma1, ix_ma2, ix_ma3, ix_inn0, ix_inn1, ix_inn2, ix_inn3, ix_top0, ix_top1, ix_top2, ix_top3, ix_top4, ↓T_law_pick])
theorem ok_law_pick {f : Addr} {fd : FuncData} (F : Fun Z.K "_law_pick" "_law_pick" s_law_pick f fd) (T : Tz Z.K Z.mg)
    {f_law_take : Addr} {fd_law_take : FuncData} (D_law_take : Df Z.K Z.mg "_law_take" s_law_take ["box", "many"] f_law_take fd_law_take) (G_law_take : FnD Z.Pg Z.w Z.K Z.mg Z.base CX0 1 f_law_take fd_law_take ["box", "many"] (spT Z (Ttake))) : FnD Z.Pg Z.w Z.K Z.mg Z.base CX0 2 f fd ["box", "some"] (spT Z (T_law_pick)) := by
  refine okD F sc_law_pick (fun as Q er h => ?_) (fun cdv A outer s H E G0 ca hr hgd hca => (dss_one (ds_ret (de_ix (dr_var 1) (dr_of (de_call G_law_take hr hgd (by rfl) D_law_take.g D_law_take.F.kp D_law_take.b (drs_cons (dr_var 0) (drs_cons (dr_of (de_callB call_lenA cd_len (by rfl) T.len (by decide +kernel) (dr_var 1))) drs_nil)))))))) (fun ca as Q er h => ?_)
  · unfold T_law_pick at h
    split at h
    · rfl
    · exact h.elim
  · unfold T_law_pick at h
    split at h
    · rename_i b D
      obtain ⟨hs, h0, h1, q⟩ := h
      have fin : ∀ r : Int, 0 ≤ r → r < ((itD D).length : Nat) → ∃ d, d ∈ itD D ∧ atI (itD D) r = some d := fun r r0 r1 => by
        obtain ⟨j, rfl⟩ : ∃ j : Nat, r = (j : Int) := ⟨r.toNat, by omega⟩
        have hj : j < (itD D).length := by omega
        exact ⟨_, List.getElem_mem hj, atI_nat (List.getElem?_eq_getElem hj)⟩
      obtain ⟨ds, rfl | rfl⟩ : ∃ ds, D = .list ds ∨ D = .tuple ds := (by cases D <;> first | exact ⟨_, .inl rfl⟩ | exact ⟨_, .inr rfl⟩ | cases hs) <;> (
        walk_at "d"
        simp only [itD] at h0 h1 q fin
        refine ⟨by omega, by omega, fun r r0 r1 => ?_⟩
        obtain ⟨d, m, e⟩ := fin r r0 r1
        simp only [ixD, e]
        exact q d m)
    · exact h.elim
theorem paired_of {α : Type} {f : α → PyData} {p : α → Prop} : ∀ {ds acc : List PyData}, Paired (fun _ y => ∃ x, y = f x ∧ p x) ds acc → ∃ xs : List α, acc = xs.map f ∧ xs.length = ds.length ∧ ∀ x ∈ xs, p x
  | [], [], _ => ⟨[], rfl, rfl, fun _ m => nomatch m⟩
  | _ :: ds, _ :: acc, .cons ⟨x, e1, hx⟩ h2 => by
    subst e1
    obtain ⟨xs, rfl, e, hp⟩ := paired_of h2
    exact ⟨x :: xs, rfl, congrArg Nat.succ e, fun y m => (List.mem_cons.mp m).elim (fun z => z ▸ hx) (hp y)⟩
theorem rng_len {m : Nat} : (rngD 0 ((m : Nat) : Int).toNat).length = m := by
  unfold rngD
  rw [List.length_map, List.length_range, Int.toNat_natCast]
theorem lcW_of {α : Type} {ρw : Sto} {vs : List Nat} {g : DTG} {te : DTE} {Q : List PyData → Prop} {ds : List PyData} (f : α → PyData) (p : α → Prop) (hl : ds.length ≤ 1000000)
    (h : ∀ d ∈ ds, ∀ (R : PyData → Prop), (∀ x, p x → R (f x)) → g d ρw fun ρ2 => te ρ2 fun y ρ3 => (noObs ρ3 vs ∧ wipeD ρ3 vs = ρw) ∧ R y)
    (hq : ∀ xs : List α, xs.length = ds.length → (∀ x ∈ xs, p x) → Q (xs.map f)) : lcW ρw vs g (fun ρ Q => Q true ρ) te ds [] Q :=
  lcW_rel (fun _ y => ∃ x, y = f x ∧ p x) hl (fun d hd R hR => h d hd R fun x hx => hR _ ⟨x, rfl, hx⟩) fun acc ha => by
    obtain ⟨xs, rfl, e, hp⟩ := paired_of ha
    exact hq xs e hp
end
end Lw
set_option Elab.async false
set_option linter.all false
set_option maxRecDepth 100000
set_option maxHeartbeats 1000000
set_option pp.deepTerms true
set_option pp.maxSteps 200000
namespace Lw
open PySem PySem.Spec PyProof PyProof.Rows L2 So Da Dl
local macro_rules | `(tactic| walk_at "z") => `(tactic| repeat (first | refine ⟨(by decide), ?_⟩ | refine ⟨(by omega), ?_⟩ | refine ⟨rfl, ?_⟩))
section
variable {Z : Zw}
theorem join0 : ∀ {ys : List Str}, (Txt.join "" ys).cps.toList = (ys.map fun y => y.cps.toList).flatten
  | [] => rfl
  | y :: ys => by
    have go : ∀ (ys : List Str) (acc : Array Nat), (List.foldl (fun acc (p : Str) => acc ++ ("" : Str).cps ++ p.cps) acc ys).toList = acc.toList ++ (ys.map fun y => y.cps.toList).flatten := fun ys => by
      induction ys with
      | nil => intro acc; simp
      | cons z ys ih =>
        intro acc
        rw [List.foldl_cons, ih]
        simp only [Array.toList_append, List.map_cons, List.flatten_cons, List.append_assoc]
        rfl
    exact go ys y.cps
theorem str_len {z : Str} : z.length = z.cps.toList.length := rfl
theorem join_len {ys : List Str} {n : Nat} (h : ∀ y ∈ ys, y.length ≤ n) : (Txt.join "" ys).length ≤ ys.length * n := by
  rw [str_len, join0]
  induction ys with
  | nil => exact Nat.zero_le _
  | cons y ys ih =>
    rw [List.map_cons, List.flatten_cons, List.length_append, List.length_cons, Nat.succ_mul]
    have := ih fun z m => h z (List.mem_cons_of_mem _ m)
    have h1 : y.cps.toList.length ≤ n := h y List.mem_cons_self
    omega
theorem join_sum {ys : List Str} {n : Nat} (h : ∀ y ∈ ys, y.length ≤ n) : (ys.map (·.length)).sum ≤ ys.length * n := by
  induction ys with
  | nil => exact Nat.zero_le _
  | cons y ys ih =>
    rw [List.map_cons, List.sum_cons, List.length_cons, Nat.succ_mul]
    have := ih fun z m => h z (List.mem_cons_of_mem _ m)
    have h1 := h y List.mem_cons_self
    omega
theorem join_in {ys : List Str} {p : Nat → Prop} (h : ∀ y ∈ ys, ∀ c ∈ y.cps.toList, p c) : ∀ c ∈ (Txt.join "" ys).cps.toList, p c := fun c m => by
  rw [join0] at m
  obtain ⟨l, ml, mc⟩ := List.mem_flatten.mp m
  obtain ⟨y, my, rfl⟩ := List.mem_map.mp ml
  exact h y my c mc
theorem rng_mem {m : Nat} {d : PyData} (h : d ∈ rngD 0 ((m : Nat) : Int).toNat) : ∃ j : Nat, d = .int (j : Nat) ∧ j < m := by
  unfold rngD at h
  obtain ⟨j, hj, rfl⟩ := List.mem_map.mp h
  rw [Int.toNat_natCast] at hj
  exact ⟨j, by simp, List.mem_range.mp hj⟩
/-- a piece of a text -/
def Pc (A : Str) (n : Nat) (z : Str) : Prop := z.length ≤ n ∧ ∀ c ∈ z.cps.toList, c ∈ A.cps.toList
instance {A : Str} {n : Nat} {z : Str} : Decidable (Pc A n z) := inferInstanceAs (Decidable (_ ∧ _))
theorem pc_join {A : Str} {n : Nat} {ys : List Str} (h : ∀ y ∈ ys, Pc A n y) : Pc A (ys.length * n) (Txt.join "" ys) := ⟨join_len fun y m => (h y m).1, join_in fun y m => (h y m).2⟩
theorem ix_strC {s : Str} {r : Int} {Q : PyData → Prop} (h0 : 0 ≤ r) (h1 : r < (s.length : Nat)) (hl : s.length ≤ sizeLine) (h : ∀ c ∈ s.cps.toList, Q (.str { cps := #[c] })) : ixD (.str s) (.int r) Q := by
  obtain ⟨j, rfl⟩ : ∃ j : Nat, r = (j : Int) := ⟨r.toNat, by omega⟩
  have hj : j < s.cps.toList.length := by
    have : s.length = s.cps.toList.length := rfl
    omega
  have e : atI s.cps.toList (j : Int) = some (s.cps.toList[j]) := atI_nat (by rw [List.getElem?_eq_getElem hj])
  unfold ixD
  simp only [e]
  exact ⟨hl, h _ (List.getElem_mem hj)⟩
theorem pc_one {A : Str} {c : Nat} (h : c ∈ A.cps.toList) : Pc A 1 { cps := #[c] } := ⟨Nat.le_refl _, fun x m => by
  rw [List.mem_singleton.mp m]
  exact h⟩
theorem Pc.mono {A : Str} {n m : Nat} {z : Str} (h : Pc A n z) (l : n ≤ m) : Pc A m z := ⟨Nat.le_trans h.1 l, h.2⟩
theorem b62 : (2 : Int) ^ 62 = 4611686018427387904 := by decide
end
end Lw
set_option Elab.async false
set_option linter.all false
set_option maxRecDepth 100000
set_option maxHeartbeats 1000000
set_option pp.deepTerms true
set_option pp.maxSteps 200000
namespace Lw
open PySem PySem.Spec PyProof PyProof.Rows L2 So Da Dl
local macro_rules | `(tactic| walk_at "z") => `(tactic| repeat (first | refine ⟨(by decide), ?_⟩ | refine ⟨(by omega), ?_⟩ | refine ⟨rfl, ?_⟩))
section
variable {Z : Zw}
/-- how many < there are -/
def lts (z : Str) : Nat := z.cps.toList.count 60
theorem lts_join {ys : List Str} (h : ∀ y ∈ ys, lts y ≤ 1) : lts (Txt.join "" ys) ≤ ys.length := by
  unfold lts
  rw [join0]
  induction ys with
  | nil => exact Nat.zero_le _
  | cons y ys ih =>
    rw [List.map_cons, List.flatten_cons, List.count_append, List.length_cons]
    have := ih fun z m => h z (List.mem_cons_of_mem _ m)
    have h1 : y.cps.toList.count 60 ≤ 1 := h y List.mem_cons_self
    omega
def P4 (z : Str) : Prop := Pc CHR 4 z ∧ lts z ≤ 1
instance {z : Str} : Decidable (P4 z) := inferInstanceAs (Decidable (_ ∧ _))
theorem p4_str {ds : List PyData} (h : (ds.all fun d => match d with | .str z => decide (P4 z) | _ => false) = true) {d : PyData} (m : d ∈ ds) : ∃ z, d = .str z ∧ P4 z := by
  have := List.all_eq_true.mp h d m
  cases d with
  | str z => exact ⟨z, rfl, of_decide_eq_true this⟩
  | _ => cases this
def T_law_text : TD := fun as Q _ => match as with
  | [.ob b .box] => ∀ z, Pc CHR 8 z → lts z ≤ 2 → Q (.str z) [.ob b .box]
  | _ => False
abbrev s_law_text : Stmt := top 44
theorem sc_law_text : FnScope ["box", "some", "turn"] ["box"] (defScope s_law_text) := ⟨rfl, rfl, rfl, by decide +kernel, rfl, by decide +kernel, by decide +kernel⟩
local macro_rules | `(tactic| walk_at "d") => `(tactic| simp only [↓dSeq, ↓dFor, ↓reprD, ↓dCallK, ↓dIfS, ↓dAndV, ↓dOrV, ↓dUn, ↓dOp, ↓dC, ↓dVar, ↓derefW, ↓deref, ↓known, ↓noOb, ↓nbO, ↓start0, ↓endsOf, ↓outA, ↓toB, ↓dAnd, ↓dOr, ↓dNot, ↓ofB, ↓dIf, ↓dChain, ↓dgName, ↓dgSeq, ↓dgCons, ↓dgNil, ↓dLc, ↓popW, ↓atOl, ↓isOl, ↓ownS, ↓frzD, ↓dCall, argsOf, argLc, obSlots, upS, upO, ↓noObs, ↓wipeD, List.map_cons, List.map_nil, List.length_cons, List.length_nil, Nat.sub_self, Nat.zero_add, Nat.reduceAdd, Nat.reduceSub, List.replicate, List.append_nil, List.cons_append, List.nil_append, List.getElem?_cons_zero, List.getElem?_cons_succ, List.getElem?_nil, List.set, List.head?, List.tail, Option.getD_some, Option.getD_none, List.nodup_nil, List.nodup_cons, List.not_mem_nil, List.mem_cons, List.mem_singleton, or_false, Nat.reduceEqDiff, true_and, and_true, Bool.not_true, Bool.not_false, if_true, Bool.false_eq_true, if_false, ite_true, ite_false, not_false_eq_true, reduceCtorEq, eqD_int, eqD_str, eqD_bl, eqD_tuple, eqD_list, eqD_tupleR, eqD_listR, eqD_non, neD_int, neD_str, neD_bl, neD_tuple, neD_list, neD_tupleR, neD_listR, neD_non, ↓isD, ↓notD, ix_0, ix_1, ix_2, ix_3, ix_4, ix_L0, ix_L1, ix_L2, itemsD_L, itemsD_T, tupleD_L, tupleD_T, listD_L, listD_T, lenD_L, lenD_T, lenD_S, slD_L, slD_T, addD_I, addD_S, addD_T, addD_L, subD_I, mulD_I, ltD_I, ltD_S, leD_I, gtD_I, geD_I, modD_I, fdivD_I, powD_I, intD_I, intD_B, negD_I, isND_N, isND_I, isND_S, isND_B, isND_T, isND_L, sq_T, sq_L, sq_N, sq_I, sq_S, sq_B, at_0, at_1, at_2, at_3, at_4, ↓isiD, pick, List.filterMap_cons_some, List.filterMap_nil, List.filterMap_cons, ↓ownC, ↓T1, ↓T2, ↓T3, ↓T4, ↓dHeard, ↓capsD, ↓slotsD, ↓lamW, lamSto, cpLc, ↓dHeardS, ↓dAsks, ↓asksW, ↓heardT, ↓Tbox, ↓Ttake, dForN, forNW, fnW, slSD, repD2, ↓intW, ix_ma0, ix_ma1, ix_ma2, ix_ma3, ix_inn0, ix_inn1, ix_inn2, ix_inn3, ix_top0, ix_top1, ix_top2, ix_top3, ix_top4, ↓T_law_pick, ↓T_law_text])
theorem ok_law_text {f : Addr} {fd : FuncData} (F : Fun Z.K "_law_text" "_law_text" s_law_text f fd) (T : Tz Z.K Z.mg)
    {f_law_take : Addr} {fd_law_take : FuncData} (D_law_take : Df Z.K Z.mg "_law_take" s_law_take ["box", "many"] f_law_take fd_law_take) (G_law_take : FnD Z.Pg Z.w Z.K Z.mg Z.base CX0 2 f_law_take fd_law_take ["box", "many"] (spT Z (Ttake)))
    {f_law_pick : Addr} {fd_law_pick : FuncData} (D_law_pick : Df Z.K Z.mg "_law_pick" s_law_pick ["box", "some"] f_law_pick fd_law_pick) (G_law_pick : FnD Z.Pg Z.w Z.K Z.mg Z.base CX0 2 f_law_pick fd_law_pick ["box", "some"] (spT Z (T_law_pick))) : FnD Z.Pg Z.w Z.K Z.mg Z.base CX0 3 f fd ["box"] (spT Z (T_law_text)) := by
  refine okD F sc_law_text (fun as Q er h => ?_) (fun cdv A outer s H E G0 ca hr hgd hca => (dss_cons (ds_set (i := 1) sc_law_text.nd rfl (Or.inr rfl) (de_of_df (df_lst (da_cons de_str (da_cons de_str (da_cons de_str (da_cons de_str (da_cons de_str (da_cons de_str (da_cons de_str (da_cons de_str (da_cons de_str (da_cons de_str (da_cons de_str (da_cons (de_ix (dr_of de_str) (dr_of (de_call G_law_take hr hgd (by rfl) D_law_take.g D_law_take.F.kp D_law_take.b (drs_cons (dr_var 0) (drs_cons (dr_of de_int) drs_nil))))) da_nil)))))))))))))))
      (dss_one (ds_ret (de_join de_str (de_of_df (df_lc (own := [("turn", 2)]) rfl sc_law_text.nd (di_range (by rfl) T.range (de_call G_law_take hr hgd (by rfl) D_law_take.g D_law_take.F.kp D_law_take.b (drs_cons (dr_var 0) (drs_cons (dr_of de_int) drs_nil)))) (blkOk_by (own := [("turn", 2)]) (N := ["box", "some", "turn"]) (sc := defScope s_law_text) (by decide +kernel)) (fun _ _ _ _ _ => (dg_name (i := 2) sc_law_text.nd rfl (Or.inl rfl))) (fun _ _ _ _ _ => dts_nil) (fun _ _ _ _ _ => (de_call G_law_pick hr hgd (by rfl) D_law_pick.g D_law_pick.F.kp D_law_pick.b (drs_cons (dr_var 0) (drs_cons (dr_var 1) drs_nil))))))))))) (fun ca as Q er h => ?_)
  · unfold T_law_text at h
    split at h
    · rfl
    · exact h.elim
  · unfold T_law_text at h
    split at h
    · rename_i b
      walk_at "d"
      refine ⟨by decide, by decide, fun r r0 r1 => ix_strC r0 (by show r < 4; exact r1) (by decide) fun c mc => ⟨by decide, "", rfl, by decide, by decide, fun k k0 k1 => ?_⟩⟩
      rw [b62]
      obtain ⟨k, rfl⟩ : ∃ j : Nat, k = (j : Int) := ⟨k.toNat, by omega⟩
      refine ⟨by omega, by omega, ?_⟩
      have pcs : ∀ d ∈ [PyData.str (Str.ofString ""), PyData.str (Str.ofString "a"), PyData.str (Str.ofString "x y"), PyData.str (Str.ofString "\""), PyData.str (Str.ofString "\\"), PyData.str (Str.ofString "<a>"), PyData.str (Str.ofString "</a>"), PyData.str (Str.ofString "Z"), PyData.str (Str.ofString "\n"), PyData.str (Str.ofString "9"), PyData.str (Str.ofString "#"), .str { cps := #[c] }], ∃ z, d = .str z ∧ P4 z := fun d m => by
        rw [show ∀ (a b c d e f g h i j k l : PyData), [a, b, c, d, e, f, g, h, i, j, k, l] = [a, b, c, d, e, f, g, h, i, j, k] ++ [l] from fun _ _ _ _ _ _ _ _ _ _ _ _ => rfl] at m
        rcases List.mem_append.mp m with m | m
        · exact p4_str (by decide +kernel) m
        · rw [List.mem_singleton.mp m]
          have h1 : ∀ c ∈ (Str.ofString "z0!?").cps.toList, c ∈ CHR.cps.toList := by decide +kernel
          refine ⟨_, rfl, (pc_one (h1 c mc)).mono (by decide), ?_⟩
          show List.count 60 [c] ≤ 1
          exact List.count_le_length
      refine lcW_of .str P4 (by rw [rng_len]; omega) (fun d hd R hR => ?_) fun ys hl hp => ?_
      · obtain ⟨j, rfl, hj⟩ := rng_mem hd
        walk_at "d"
        refine ⟨(by show 0 < 12; decide), (by show 12 < 1000; decide), fun d hd => ?_⟩
        obtain ⟨z, rfl, hz⟩ := pcs d hd
        exact hR z hz
      · rw [rng_len] at hl
        refine ⟨ys, rfl, ?_, h _ ((pc_join fun y m => (hp y m).1).mono (by rw [hl]; omega)) (by have := lts_join fun y m => (hp y m).2; omega)⟩
        have := join_sum fun y m => (hp y m).1.1
        show _ + _ * 0 ≤ _
        omega
    · exact h.elim
end
end Lw
set_option Elab.async false
set_option linter.all false
set_option maxRecDepth 100000
set_option maxHeartbeats 1000000
set_option pp.deepTerms true
set_option pp.maxSteps 200000
namespace Lw
open PySem PySem.Spec PyProof PyProof.Rows L2 So Da Dl
local macro_rules | `(tactic| walk_at "z") => `(tactic| repeat (first | refine ⟨(by decide), ?_⟩ | refine ⟨(by omega), ?_⟩ | refine ⟨rfl, ?_⟩))
section
variable {Z : Zw}
def stpD (d : PyData) : Int := match sgOf d with
  | .op _ => 1
  | .cl => -1
  | .tx _ => 0
def lvl : List PyData → Nat → Int → Sum Nat Int
  | [], _, l => .inr l
  | d :: r, i, l => if sgnB d = false then .inl i else if l + stpD d < 0 then .inl i else lvl r (i + 1) (l + stpD d)
def LvIn (S : Addr) (V : PyData) (a : Int) (k : Int → Prop) (er : EK) : Prop := (isSq V = false ∧ er (S, .int (-1))) ∨ (isSq V = true ∧ ((∃ i : Nat, lvl (itD V) 0 a = .inl i ∧ er (S, .int (i : Nat))) ∨ ∃ l, lvl (itD V) 0 a = .inr l ∧ k l))
theorem stp_of {d : PyData} (h : sgnB d = true) : (isS ((itD d).getD 0 .none) "open" = true ∧ stpD d = 1) ∨ (isS ((itD d).getD 0 .none) "open" = false ∧ isS ((itD d).getD 0 .none) "close" = true ∧ stpD d = -1) ∨ (isS ((itD d).getD 0 .none) "open" = false ∧ isS ((itD d).getD 0 .none) "close" = false ∧ stpD d = 0) := by
  obtain ⟨_, e⟩ := sgn_inv h
  have e2 : itD d = itD (sgD (sgOf d)) := by rw [← e]; rfl
  rw [e2]
  unfold stpD
  generalize sgOf d = s
  cases s with
  | op l => exact .inl ⟨by show isS (.str "open") "open" = true; decide +kernel, rfl⟩
  | cl => exact .inr (.inl ⟨by show isS (.str "close") "open" = false; decide +kernel, by show isS (.str "close") "close" = true; decide +kernel, rfl⟩)
  | tx z => exact .inr (.inr ⟨by show isS (.str "text") "open" = false; decide +kernel, by show isS (.str "text") "close" = false; decide +kernel, rfl⟩)
theorem sgn_at0 {d : PyData} (h : sgnB d = true) : (itD d)[0]? = some ((itD d).getD 0 .none) := by
  obtain ⟨_, e⟩ := sgn_inv h
  have e2 : itD d = itD (sgD (sgOf d)) := by rw [← e]; rfl
  rw [e2]
  generalize sgOf d = s
  cases s <;> rfl
abbrev T_step_of : TD := T1 fun D Q _ => OkD D ∧ sgnB D = true ∧ Q (.int (stpD D))
abbrev s_step_of : Stmt := top 19
theorem sc_step_of : FnScope ["sign"] ["sign"] (defScope s_step_of) := ⟨rfl, rfl, rfl, by decide +kernel, rfl, by decide +kernel, by decide +kernel⟩
local macro_rules | `(tactic| walk_at "d") => `(tactic| simp only [↓dSeq, ↓dFor, ↓reprD, ↓dCallK, ↓dIfS, ↓dAndV, ↓dOrV, ↓dUn, ↓dOp, ↓dC, ↓dVar, ↓derefW, ↓deref, ↓known, ↓noOb, ↓nbO, ↓start0, ↓endsOf, ↓outA, ↓toB, ↓dAnd, ↓dOr, ↓dNot, ↓ofB, ↓dIf, ↓dChain, ↓dgName, ↓dgSeq, ↓dgCons, ↓dgNil, ↓dLc, ↓popW, ↓atOl, ↓isOl, ↓ownS, ↓frzD, ↓dCall, argsOf, argLc, obSlots, upS, upO, ↓noObs, ↓wipeD, List.map_cons, List.map_nil, List.length_cons, List.length_nil, Nat.sub_self, Nat.zero_add, Nat.reduceAdd, Nat.reduceSub, List.replicate, List.append_nil, List.cons_append, List.nil_append, List.getElem?_cons_zero, List.getElem?_cons_succ, List.getElem?_nil, List.set, List.head?, List.tail, Option.getD_some, Option.getD_none, List.nodup_nil, List.nodup_cons, List.not_mem_nil, List.mem_cons, List.mem_singleton, or_false, Nat.reduceEqDiff, true_and, and_true, Bool.not_true, Bool.not_false, if_true, Bool.false_eq_true, if_false, ite_true, ite_false, not_false_eq_true, reduceCtorEq, eqD_int, eqD_str, eqD_bl, eqD_tuple, eqD_list, eqD_tupleR, eqD_listR, eqD_non, neD_int, neD_str, neD_bl, neD_tuple, neD_list, neD_tupleR, neD_listR, neD_non, ↓isD, ↓notD, ix_0, ix_1, ix_2, ix_3, ix_4, ix_L0, ix_L1, ix_L2, itemsD_L, itemsD_T, tupleD_L, tupleD_T, listD_L, listD_T, lenD_L, lenD_T, lenD_S, slD_L, slD_T, addD_I, addD_S, addD_T, addD_L, subD_I, mulD_I, ltD_I, ltD_S, leD_I, gtD_I, geD_I, modD_I, fdivD_I, powD_I, intD_I, intD_B, negD_I, isND_N, isND_I, isND_S, isND_B, isND_T, isND_L, sq_T, sq_L, sq_N, sq_I, sq_S, sq_B, at_0, at_1, at_2, at_3, at_4, ↓isiD, pick, List.filterMap_cons_some, List.filterMap_nil, List.filterMap_cons, ↓ownC, ↓T1, ↓T2, ↓T3, ↓T4, ↓dHeard, ↓capsD, ↓slotsD, ↓lamW, lamSto, cpLc, ↓dHeardS, ↓dAsks, ↓asksW, ↓heardT, ↓Tbox, ↓Ttake, dForN, forNW, fnW, slSD, repD2, ↓intW, ix_ma0, ix_ma1, ix_ma2, ix_ma3, ix_inn0, ix_inn1, ix_inn2, ix_inn3, ix_top0, ix_top1, ix_top2, ix_top3, ix_top4, ↓T_law_pick, ↓T_law_text])
theorem ok_step_of {f : Addr} {fd : FuncData} (F : Fun Z.K "_step_of" "_step_of" s_step_of f fd) (T : Tz Z.K Z.mg) : FnD Z.Pg Z.w Z.K Z.mg Z.base CX0 1 f fd ["sign"] (spT Z (T_step_of)) := by
  refine okD F sc_step_of (fun as Q er h => ?_) (fun cdv A outer s H E G0 ca hr hgd hca => (dss_cons (ds_if (dt_cmp (op_eqA hr.units) od_eq (dr_of (de_ix (dr_var 0) (dr_of de_int))) (dr_of de_str) (nomark _))
        (dss_one (ds_ret de_int))
        dss_nil)
      (dss_one (ds_ret (de_if (dt_cmp (op_eqA hr.units) od_eq (dr_of (de_ix (dr_var 0) (dr_of de_int))) (dr_of de_str) (nomark _)) (de_neg de_int) de_int))))) (fun ca as Q er h => ?_)
  · obtain ⟨_, rfl, _⟩ := t1_inv h
    rfl
  · obtain ⟨a, rfl, q⟩ := t1_inv h
    walk_at "d"
    obtain ⟨ok, hs, q⟩ := q
    have h0 := sgn_at0 hs
    have o0 := okD_it ok _ (List.mem_of_getElem? h0)
    have so1 : PyData.strOk "open" = true := by decide +kernel
    have so2 : PyData.strOk "close" = true := by decide +kernel
    refine hxD (i := 0) (sgn_sq hs) h0 (eqD_S o0.sh so1 ?_)
    rcases stp_of hs with ⟨a, b⟩ | ⟨a, b, c⟩ | ⟨a, b, c⟩
    · rw [b] at q
      rw [a]
      exact q
    · rw [c] at q
      rw [a]
      dsimp only
      rw [if_neg (by decide)]
      refine hxD (i := 0) (sgn_sq hs) h0 (eqD_S o0.sh so2 ?_)
      rw [b]
      exact q
    · rw [c] at q
      rw [a]
      dsimp only
      rw [if_neg (by decide)]
      refine hxD (i := 0) (sgn_sq hs) h0 (eqD_S o0.sh so2 ?_)
      rw [b]
      exact q
abbrev T_read_levels (S : Addr) : TD := T2 fun V n Q er => OkD V ∧ ∃ a : Int, n = .int a ∧ LvIn S V a (fun l => Q (.tuple [.tuple ((sgsOf V).map sgD), .int l])) er
abbrev s_read_levels : Stmt := top 18
theorem sc_read_levels : FnScope ["value", "ahead", "signs", "level", "at", "sign"] ["value", "ahead"] (defScope s_read_levels) := ⟨rfl, rfl, rfl, by decide +kernel, rfl, by decide +kernel, by decide +kernel⟩
theorem ok_read_levels {f : Addr} {fd : FuncData} (F : Fun Z.K "read_levels" "read_levels" s_read_levels f fd) (T : Tz Z.K Z.mg) {C_BadStream : Addr}
    {f_is_sequence : Addr} {fd_is_sequence : FuncData} (D_is_sequence : Df Z.K Z.mg "is_sequence" s_is_sequence ["value"] f_is_sequence fd_is_sequence) (G_is_sequence : FnD Z.Pg Z.w Z.K Z.mg Z.base CX0 3 f_is_sequence fd_is_sequence ["value"] (spT Z (T_is_sequence)))
    {f_is_sign : Addr} {fd_is_sign : FuncData} (D_is_sign : Df Z.K Z.mg "is_sign" s_is_sign ["value"] f_is_sign fd_is_sign) (G_is_sign : FnD Z.Pg Z.w Z.K Z.mg Z.base CX0 3 f_is_sign fd_is_sign ["value"] (spT Z (T_is_sign)))
    {f_step_of : Addr} {fd_step_of : FuncData} (D_step_of : Df Z.K Z.mg "_step_of" s_step_of ["sign"] f_step_of fd_step_of) (G_step_of : FnD Z.Pg Z.w Z.K Z.mg Z.base CX0 3 f_step_of fd_step_of ["sign"] (spT Z (T_step_of)))
    (A_BadStream : Z.T.an C_BadStream = "at") {fI_BadStream : Addr} {fdI_BadStream : FuncData} (B_BadStream : Er Z.K Z.mg "BadStream" "BadStream.__init__" "at" c_BadStream C_BadStream fI_BadStream fdI_BadStream) (I_BadStream : FnOk Z.Pg Z.w Z.K Z.mg Z.base CX0 2 fI_BadStream fdI_BadStream ["self", "at"] (spIni C_BadStream "at")) : FnD Z.Pg Z.w Z.K Z.mg Z.base (L2.CX Z.Pg Z.w) 4 f fd ["value", "ahead"] (spT Z (T_read_levels C_BadStream)) := by
  refine okDX F sc_read_levels (fun as Q er h => ?_) (fun cdv A outer s H E G0 er ca hE hr hgd hca => (dss_cons (ds_if (dt_not (dt_val (de_call G_is_sequence hr hgd (by rfl) D_is_sequence.g D_is_sequence.F.kp D_is_sequence.b (drs_cons (dr_var 0) drs_nil))))
        (dss_one (ds_raise A_BadStream hE (ps_raise rfl (takes_of rfl rfl rfl rfl) (pmk_oex B_BadStream.T B_BadStream.ini B_BadStream.ty I_BadStream hr B_BadStream.b .nil pass0 (by rfl) B_BadStream.g (pa_cons (de_neg de_int) pa_nil)))))
        dss_nil)
      (dss_cons (ds_own (i := 2) sc_read_levels.nd rfl (Or.inl rfl) (df_lst da_nil))
      (dss_cons (ds_set (i := 3) sc_read_levels.nd rfl (Or.inl rfl) (de_var 1))
      (dss_cons (ds_for (passes_of rfl) rfl (di_enum (by rfl) T.enumerate (de_var 0)) (dg_seq (m := 2) rfl (dgs_cons (dg_name (i := 4) sc_read_levels.nd rfl (Or.inl rfl)) (dgs_cons (dg_name (i := 5) sc_read_levels.nd rfl (Or.inl rfl)) dgs_nil)))
        (dss_cons (ds_if (dt_not (dt_val (de_call G_is_sign hr hgd (by rfl) D_is_sign.g D_is_sign.F.kp D_is_sign.b (drs_cons (dr_var 5) drs_nil))))
          (dss_one (ds_raise A_BadStream hE (ps_raise rfl (takes_of rfl rfl rfl rfl) (pmk_oex B_BadStream.T B_BadStream.ini B_BadStream.ty I_BadStream hr B_BadStream.b .nil pass0 (by rfl) B_BadStream.g (pa_cons (de_var 4) pa_nil)))))
          dss_nil)
        (dss_cons (ds_aug (ps_aug (i := 3) sc_read_levels.nd rfl (Or.inl rfl) (de_call G_step_of hr hgd (by rfl) D_step_of.g D_step_of.F.kp D_step_of.b (drs_cons (dr_var 5) drs_nil)) ip_add))
        (dss_cons (ds_if (dt_cmp op_ltA od_lt (dr_var 3) (dr_of de_int) (nomark _))
          (dss_one (ds_raise A_BadStream hE (ps_raise rfl (takes_of rfl rfl rfl rfl) (pmk_oex B_BadStream.T B_BadStream.ini B_BadStream.ty I_BadStream hr B_BadStream.b .nil pass0 (by rfl) B_BadStream.g (pa_cons (de_var 4) pa_nil)))))
          dss_nil)
        (dss_one (ds_app (ps_expr (pe_bm PySem.F.plainAttrs_list PySem.F.slot_list_append PySem.F.type_list_append mt_append (pv 2) (pa_cons (de_callTy call_tupleF cd_tuple (by rfl) T.tuple (by decide +kernel) (dr_var 5)) pa_nil)))))))))
      (dss_one (ds_ret (de_tup (da_cons (de_callTy call_tupleF cd_tuple (by rfl) T.tuple (by decide +kernel) (dr_var 2)) (da_cons (de_var 3) da_nil)))))))))) (fun ca as Q er h => ?_)
  · obtain ⟨_, _, rfl, _⟩ := t2_inv h
    rfl
  · obtain ⟨a, b, rfl, q⟩ := t2_inv h
    walk_at "d"
    obtain ⟨ok, l0, rfl, ⟨hs, q⟩ | ⟨hs, q⟩⟩ := q
    · rw [hs, if_pos (by decide)]
      exact q
    · rw [hs, if_neg (by decide)]
      have len := okD_len ok
      refine ⟨by decide, by decide, fun p => hiD hs ?_⟩
      obtain ⟨xs, ex⟩ : ∃ xs, xs = itD a := ⟨_, rfl⟩
      rw [← ex] at q len ⊢
      obtain ⟨LV, eLV⟩ : ∃ LV, lvl xs 0 l0 = LV := ⟨_, rfl⟩
      rw [eLV] at q
      have oks : ∀ d ∈ xs, OkD d := fun d m => okD_it ok d (ex ▸ m)
      refine forW_go (fun ds ρ => ∃ (i : Nat) (l : Int) (s4 s5 : Lc), ds = (enumD xs).drop i ∧ i ≤ xs.length ∧ lvl (xs.drop i) i l = LV ∧ (xs.take i).all sgnB = true ∧ nbO (some s4) ∧ nbO (some s5) ∧ ρ = [.sh a, .sh (.int l0), .ob p (.lst ((xs.take i).map fun d => .tuple (itD d))), .sh (.int l), s4, s5]) ?_ ?_ _ _ ⟨0, l0, .un, .un, rfl, Nat.zero_le _, eLV, rfl, trivial, trivial, rfl⟩
      · rintro ρ ⟨i, l, s4, s5, e1, li, e2, e3, h4, h5, rfl⟩
        have hi := enum_end e1
        rw [List.drop_of_length_le hi] at e2
        rw [List.take_of_length_le hi] at e3 ⊢
        rcases q with ⟨j, e, _⟩ | ⟨l', e, q⟩
        · rw [e] at e2
          cases e2
        · rw [e] at e2
          cases e2
          walk_at "d"
          have := (sgs_inv (V := a) (by unfold sgsB; rw [hs, ← ex, e3]; rfl)).2.1
          rw [← ex] at this
          rw [this]
          exact ⟨by decide, q⟩
      · rintro K d ds ρ ⟨i, l, s4, s5, e1, li, e2, e3, h4, h5, rfl⟩ ih
        obtain ⟨hi, rfl, rfl⟩ := enum_next e1
        have od := oks _ (List.getElem_mem hi)
        rw [List.drop_eq_getElem_cons hi] at e2
        unfold lvl at e2
        have et : xs.take (i + 1) = xs.take i ++ [xs[i]] := by rw [List.take_add_one, List.getElem?_eq_getElem hi]; rfl
        walk_at "d"
        refine ⟨h4, h5, od, ?_⟩
        cases hb : sgnB xs[i] with
        | false =>
          rw [if_pos hb] at e2
          rw [if_pos (by decide)]
          rcases q with ⟨j, e, q⟩ | ⟨l', e, q⟩
          · rw [e] at e2
            cases e2
            exact q
          · rw [e] at e2
            cases e2
        | true =>
          rw [if_neg (by rw [hb]; decide)] at e2
          rw [if_neg (by decide)]
          refine ⟨od, rfl, ?_⟩
          by_cases hl : l + stpD xs[i] < 0
          · rw [if_pos hl] at e2
            rw [if_pos (decide_eq_true hl)]
            rcases q with ⟨j, e, q⟩ | ⟨l', e, q⟩
            · rw [e] at e2
              cases e2
              exact q
            · rw [e] at e2
              cases e2
          · rw [if_neg hl] at e2
            rw [if_neg (by simpa using hl)]
            have sz : xs.length < sizeLine := Nat.lt_of_le_of_lt len (by decide)
            refine htD (sgn_sq hb) ⟨by rw [List.length_map, List.length_take]; omega, ?_⟩
            have := ih _ ⟨i + 1, l + stpD xs[i], .sh (.int (i : Nat)), .sh xs[i], rfl, hi, e2, by rw [et, List.all_append, e3]; simp [hb], trivial, trivial, rfl⟩
            rw [et, List.map_append] at this
            exact this
end
end Lw
set_option Elab.async false
set_option linter.all false
set_option maxRecDepth 100000
set_option maxHeartbeats 1000000
set_option pp.deepTerms true
set_option pp.maxSteps 200000
namespace Lw
open PySem PySem.Spec PyProof PyProof.Rows L2 So Da Dl
local macro_rules | `(tactic| walk_at "z") => `(tactic| repeat (first | refine ⟨(by decide), ?_⟩ | refine ⟨(by omega), ?_⟩ | refine ⟨rfl, ?_⟩))
section
variable {Z : Zw}
def SgT (V : PyData) : PyData := .tuple ((sgsOf V).map sgD)
abbrev T_read_whole (S : Addr) : TD := T2 fun V n Q er => OkD V ∧ ∃ a : Int, n = .int a ∧ LvIn S V a (fun l => (0 < l ∧ er (S, .int ((itD V).length : Nat))) ∨ (l ≤ 0 ∧ Q (SgT V))) er
theorem lv_imp {S : Addr} {V : PyData} {a : Int} {k k' : Int → Prop} {er : EK} (h : LvIn S V a k er) (i : isSq V = true → ∀ l, lvl (itD V) 0 a = .inr l → k l → k' l) : LvIn S V a k' er := by
  rcases h with h | ⟨hs, h | ⟨l, e, h⟩⟩
  · exact .inl h
  · exact .inr ⟨hs, .inl h⟩
  · exact .inr ⟨hs, .inr ⟨l, e, i hs l e h⟩⟩
theorem sgsOf_len (V : PyData) : (sgsOf V).length = (itD V).length := List.length_map ..
abbrev s_read_whole : Stmt := top 20
theorem sc_read_whole : FnScope ["value", "ahead", "signs", "level"] ["value", "ahead"] (defScope s_read_whole) := ⟨rfl, rfl, rfl, by decide +kernel, rfl, by decide +kernel, by decide +kernel⟩
local macro_rules | `(tactic| walk_at "d") => `(tactic| simp only [↓dSeq, ↓dFor, ↓reprD, ↓dCallK, ↓dIfS, ↓dAndV, ↓dOrV, ↓dUn, ↓dOp, ↓dC, ↓dVar, ↓derefW, ↓deref, ↓known, ↓noOb, ↓nbO, ↓start0, ↓endsOf, ↓outA, ↓toB, ↓dAnd, ↓dOr, ↓dNot, ↓ofB, ↓dIf, ↓dChain, ↓dgName, ↓dgSeq, ↓dgCons, ↓dgNil, ↓dLc, ↓popW, ↓atOl, ↓isOl, ↓ownS, ↓frzD, ↓dCall, argsOf, argLc, obSlots, upS, upO, ↓noObs, ↓wipeD, List.map_cons, List.map_nil, List.length_cons, List.length_nil, Nat.sub_self, Nat.zero_add, Nat.reduceAdd, Nat.reduceSub, List.replicate, List.append_nil, List.cons_append, List.nil_append, List.getElem?_cons_zero, List.getElem?_cons_succ, List.getElem?_nil, List.set, List.head?, List.tail, Option.getD_some, Option.getD_none, List.nodup_nil, List.nodup_cons, List.not_mem_nil, List.mem_cons, List.mem_singleton, or_false, Nat.reduceEqDiff, true_and, and_true, Bool.not_true, Bool.not_false, if_true, Bool.false_eq_true, if_false, ite_true, ite_false, not_false_eq_true, reduceCtorEq, eqD_int, eqD_str, eqD_bl, eqD_tuple, eqD_list, eqD_tupleR, eqD_listR, eqD_non, neD_int, neD_str, neD_bl, neD_tuple, neD_list, neD_tupleR, neD_listR, neD_non, ↓isD, ↓notD, ix_0, ix_1, ix_2, ix_3, ix_4, ix_L0, ix_L1, ix_L2, itemsD_L, itemsD_T, tupleD_L, tupleD_T, listD_L, listD_T, lenD_L, lenD_T, lenD_S, slD_L, slD_T, addD_I, addD_S, addD_T, addD_L, subD_I, mulD_I, ltD_I, ltD_S, leD_I, gtD_I, geD_I, modD_I, fdivD_I, powD_I, intD_I, intD_B, negD_I, isND_N, isND_I, isND_S, isND_B, isND_T, isND_L, sq_T, sq_L, sq_N, sq_I, sq_S, sq_B, at_0, at_1, at_2, at_3, at_4, ↓isiD, pick, List.filterMap_cons_some, List.filterMap_nil, List.filterMap_cons, ↓ownC, ↓T1, ↓T2, ↓T3, ↓T4, ↓dHeard, ↓capsD, ↓slotsD, ↓lamW, lamSto, cpLc, ↓dHeardS, ↓dAsks, ↓asksW, ↓heardT, ↓Tbox, ↓Ttake, dForN, forNW, fnW, slSD, repD2, ↓intW, ix_ma0, ix_ma1, ix_ma2, ix_ma3, ix_inn0, ix_inn1, ix_inn2, ix_inn3, ix_top0, ix_top1, ix_top2, ix_top3, ix_top4, ↓T_law_pick, ↓T_law_text])
theorem ok_read_whole {f : Addr} {fd : FuncData} (F : Fun Z.K "_read_whole" "_read_whole" s_read_whole f fd) (T : Tz Z.K Z.mg) {C_BadStream : Addr}
    {f_read_levels : Addr} {fd_read_levels : FuncData} (D_read_levels : Df Z.K Z.mg "read_levels" s_read_levels ["value", "ahead"] f_read_levels fd_read_levels) (G_read_levels : FnD Z.Pg Z.w Z.K Z.mg Z.base (L2.CX Z.Pg Z.w) 4 f_read_levels fd_read_levels ["value", "ahead"] (spT Z (T_read_levels C_BadStream)))
    (A_BadStream : Z.T.an C_BadStream = "at") {fI_BadStream : Addr} {fdI_BadStream : FuncData} (B_BadStream : Er Z.K Z.mg "BadStream" "BadStream.__init__" "at" c_BadStream C_BadStream fI_BadStream fdI_BadStream) (I_BadStream : FnOk Z.Pg Z.w Z.K Z.mg Z.base CX0 3 fI_BadStream fdI_BadStream ["self", "at"] (spIni C_BadStream "at")) : FnD Z.Pg Z.w Z.K Z.mg Z.base (L2.CX Z.Pg Z.w) 5 f fd ["value", "ahead"] (spT Z (T_read_whole C_BadStream)) := by
  refine okDX F sc_read_whole (fun as Q er h => ?_) (fun cdv A outer s H E G0 er ca hE hr hgd hca => (dss_cons (ds_asg (de_callX hE (passes_call (takes_of rfl rfl rfl rfl) fun _ _ _ _ h => h) G_read_levels hr hgd (by rfl) D_read_levels.g D_read_levels.F.kp D_read_levels.b (drs_cons (dr_var 0) (drs_cons (dr_var 1) drs_nil))) (dg_seq (m := 2) rfl (dgs_cons (dg_name (i := 2) sc_read_whole.nd rfl (Or.inl rfl)) (dgs_cons (dg_name (i := 3) sc_read_whole.nd rfl (Or.inl rfl)) dgs_nil))))
      (dss_cons (ds_if (dt_cmp op_gt od_gt (dr_var 3) (dr_of de_int) (nomark _))
        (dss_one (ds_raise A_BadStream hE (ps_raise rfl (takes_of rfl rfl rfl rfl) (pmk_oex B_BadStream.T B_BadStream.ini B_BadStream.ty I_BadStream hr B_BadStream.b .nil pass0 (by rfl) B_BadStream.g (pa_cons (de_callB call_lenA cd_len (by rfl) T.len (by decide +kernel) (dr_var 2)) pa_nil)))))
        dss_nil)
      (dss_one (ds_ret (de_var 2)))))) (fun ca as Q er h => ?_)
  · obtain ⟨_, _, rfl, _⟩ := t2_inv h
    rfl
  · obtain ⟨a, b, rfl, q⟩ := t2_inv h
    walk_at "d"
    obtain ⟨ok, l0, rfl, q⟩ := q
    refine ⟨ok, l0, rfl, lv_imp q fun hs l e h => ?_⟩
    rcases h with ⟨h, q⟩ | ⟨h, q⟩
    · rw [if_pos (decide_eq_true h), List.length_map, sgsOf_len]
      exact q
    · rw [if_neg (by simpa using h)]
      exact q
abbrev T_check_prefix (S : Addr) : TD := T1 fun V Q er => OkD V ∧ LvIn S V 0 (fun _ => Q (SgT V)) er
abbrev s_check_prefix : Stmt := top 21
theorem sc_check_prefix : FnScope ["value", "signs", "_"] ["value"] (defScope s_check_prefix) := ⟨rfl, rfl, rfl, by decide +kernel, rfl, by decide +kernel, by decide +kernel⟩
theorem ok_check_prefix {f : Addr} {fd : FuncData} (F : Fun Z.K "check_prefix" "check_prefix" s_check_prefix f fd) (T : Tz Z.K Z.mg) {C_BadStream : Addr}
    {f_read_levels : Addr} {fd_read_levels : FuncData} (D_read_levels : Df Z.K Z.mg "read_levels" s_read_levels ["value", "ahead"] f_read_levels fd_read_levels) (G_read_levels : FnD Z.Pg Z.w Z.K Z.mg Z.base (L2.CX Z.Pg Z.w) 4 f_read_levels fd_read_levels ["value", "ahead"] (spT Z (T_read_levels C_BadStream))) : FnD Z.Pg Z.w Z.K Z.mg Z.base (L2.CX Z.Pg Z.w) 5 f fd ["value"] (spT Z (T_check_prefix C_BadStream)) := by
  refine okDX F sc_check_prefix (fun as Q er h => ?_) (fun cdv A outer s H E G0 er ca hE hr hgd hca => (dss_cons (ds_asg (de_callX hE (passes_call (takes_of rfl rfl rfl rfl) fun _ _ _ _ h => h) G_read_levels hr hgd (by rfl) D_read_levels.g D_read_levels.F.kp D_read_levels.b (drs_cons (dr_var 0) (drs_cons (dr_of de_int) drs_nil))) (dg_seq (m := 2) rfl (dgs_cons (dg_name (i := 1) sc_check_prefix.nd rfl (Or.inl rfl)) (dgs_cons (dg_name (i := 2) sc_check_prefix.nd rfl (Or.inl rfl)) dgs_nil))))
      (dss_one (ds_ret (de_var 1))))) (fun ca as Q er h => ?_)
  · obtain ⟨_, rfl, _⟩ := t1_inv h
    rfl
  · obtain ⟨a, rfl, q⟩ := t1_inv h
    walk_at "d"
    exact ⟨q.1, 0, rfl, q.2⟩
abbrev T_check_stream (S : Addr) : TD := T1 fun V Q er => OkD V ∧ LvIn S V 0 (fun l => (0 < l ∧ er (S, .int ((itD V).length : Nat))) ∨ (l ≤ 0 ∧ Q (SgT V))) er
abbrev s_check_stream : Stmt := top 22
theorem sc_check_stream : FnScope ["value"] ["value"] (defScope s_check_stream) := ⟨rfl, rfl, rfl, by decide +kernel, rfl, by decide +kernel, by decide +kernel⟩
theorem ok_check_stream {f : Addr} {fd : FuncData} (F : Fun Z.K "check_stream" "check_stream" s_check_stream f fd) (T : Tz Z.K Z.mg) {C_BadStream : Addr}
    {f_read_whole : Addr} {fd_read_whole : FuncData} (D_read_whole : Df Z.K Z.mg "_read_whole" s_read_whole ["value", "ahead"] f_read_whole fd_read_whole) (G_read_whole : FnD Z.Pg Z.w Z.K Z.mg Z.base (L2.CX Z.Pg Z.w) 5 f_read_whole fd_read_whole ["value", "ahead"] (spT Z (T_read_whole C_BadStream))) : FnD Z.Pg Z.w Z.K Z.mg Z.base (L2.CX Z.Pg Z.w) 6 f fd ["value"] (spT Z (T_check_stream C_BadStream)) := by
  refine okDX F sc_check_stream (fun as Q er h => ?_) (fun cdv A outer s H E G0 er ca hE hr hgd hca => (dss_one (ds_ret (de_callX hE (passes_call (takes_of rfl rfl rfl rfl) fun _ _ _ _ h => h) G_read_whole hr hgd (by rfl) D_read_whole.g D_read_whole.F.kp D_read_whole.b (drs_cons (dr_var 0) (drs_cons (dr_of de_int) drs_nil)))))) (fun ca as Q er h => ?_)
  · obtain ⟨_, rfl, _⟩ := t1_inv h
    rfl
  · obtain ⟨a, rfl, q⟩ := t1_inv h
    walk_at "d"
    exact ⟨q.1, 0, rfl, q.2⟩
end
end Lw
set_option Elab.async false
set_option linter.all false
set_option maxRecDepth 100000
set_option maxHeartbeats 1000000
set_option pp.deepTerms true
set_option pp.maxSteps 200000
namespace Lw
open PySem PySem.Spec PyProof PyProof.Rows L2 So Da Dl
local macro_rules | `(tactic| walk_at "z") => `(tactic| repeat (first | refine ⟨(by decide), ?_⟩ | refine ⟨(by omega), ?_⟩ | refine ⟨rfl, ?_⟩))
section
variable {Z : Zw}
inductive Doc
  | nil
  | tx (z : Str) (r : Doc)
  | el (l : Str) (c : Doc) (r : Doc)
def items : Doc → List PyData
  | .nil => []
  | .tx z r => .tuple [.str "text", .str z] :: items r
  | .el l c r => .tuple [.str "element", .str l, .tuple (items c)] :: items r
def docD (d : Doc) : PyData := .tuple (items d)
def hgt : Doc → Nat
  | .nil => 0
  | .tx _ r => hgt r
  | .el _ c r => max (hgt c + 1) (hgt r)
def sigs : Doc → List Sg
  | .nil => []
  | .tx z r => .tx z :: sigs r
  | .el l c r => .op l :: sigs c ++ .cl :: sigs r
theorem s7 : decide (("element" : Str) = "text") = false := by decide +kernel
def wid : Doc → Nat
  | .nil => 0
  | .tx _ r => wid r + 1
  | .el _ _ r => wid r + 1
def app : Doc → Doc → Doc
  | .nil, e => e
  | .tx z r, e => .tx z (app r e)
  | .el l c r, e => .el l c (app r e)
theorem items_app : ∀ d e : Doc, items (app d e) = items d ++ items e
  | .nil, e => rfl
  | .tx z r, e => by show _ :: items (app r e) = _ :: items r ++ items e; rw [items_app r e]; rfl
  | .el l c r, e => by show _ :: items (app r e) = _ :: items r ++ items e; rw [items_app r e]; rfl
theorem wid_app : ∀ d e : Doc, wid (app d e) = wid d + wid e
  | .nil, e => by show wid e = 0 + wid e; omega
  | .tx z r, e => by show wid (app r e) + 1 = wid r + 1 + wid e; rw [wid_app r e]; omega
  | .el l c r, e => by show wid (app r e) + 1 = wid r + 1 + wid e; rw [wid_app r e]; omega
theorem wid_items : ∀ d : Doc, (items d).length = wid d
  | .nil => rfl
  | .tx _ r => congrArg (· + 1) (wid_items r)
  | .el _ _ r => congrArg (· + 1) (wid_items r)
theorem fnD_vac {Z : Zw} {CX : CXT} {k : Nat} {f : Addr} {fd : FuncData} {ps : List Str} {T : TD} (no : ∀ as Q er, ¬ T as Q er) : FnD Z.Pg Z.w Z.K Z.mg Z.base CX k f fd ps (spT Z T) :=
  ⟨fun vs H Q E ⟨G, as, Q0, er, _, _, h, _⟩ => absurd h (no as Q0 er), fun A outer s H args us vs Q E _ _ _ _ _ ⟨G, as, Q0, er, _, _, h, _⟩ => absurd h (no as Q0 er)⟩
end
end Lw
set_option Elab.async false
set_option linter.all false
set_option maxRecDepth 100000
set_option maxHeartbeats 1000000
set_option pp.deepTerms true
set_option pp.maxSteps 200000
namespace Lw
open PySem PySem.Spec PyProof PyProof.Rows L2 So Da Dl
local macro_rules | `(tactic| walk_at "z") => `(tactic| repeat (first | refine ⟨(by decide), ?_⟩ | refine ⟨(by omega), ?_⟩ | refine ⟨rfl, ?_⟩))
section
variable {Z : Zw}
/-- what is still to be read, the innermost row first -/
def rstS : List Doc → List Sg
  | [] => []
  | [d] => sigs d
  | d :: ds => sigs d ++ .cl :: rstS ds
/-- what comes of it -/
def finD : List PyData → List (List PyData) → List Str → List Doc → List PyData
  | r, r' :: rs, l :: ls, d :: ds => finD (r' ++ [.tuple [.str "element", .str l, .tuple (r ++ items d)]]) rs ls ds
  | r, _, _, d :: _ => r ++ items d
  | r, _, _, [] => r
theorem rst_cons {d e : Doc} {ds : List Doc} : rstS (d :: e :: ds) = sigs d ++ .cl :: rstS (e :: ds) := rfl
theorem finD_cons {r r' : List PyData} {rs : List (List PyData)} {l : Str} {ls : List Str} {d : Doc} {ds : List Doc} : finD r (r' :: rs) (l :: ls) (d :: ds) = finD (r' ++ [.tuple [.str "element", .str l, .tuple (r ++ items d)]]) rs ls ds := rfl
/-- only the row with what follows in it counts -/
theorem finD_mv {r q : List PyData} {d e : Doc} {rs : List (List PyData)} {ls : List Str} {ds : List Doc} (h : r ++ items d = q ++ items e) : finD r rs ls (d :: ds) = finD q rs ls (e :: ds) := by
  cases rs with
  | nil => exact h
  | cons r' rs =>
    cases ls with
    | nil => exact h
    | cons l ls => rw [finD_cons, finD_cons, h]
theorem sc_nodes_of : FnScope ["signs", "rows", "labels", "sign", "inside"] ["signs"] (defScope (top 27)) := ⟨rfl, rfl, rfl, by decide +kernel, rfl, by decide +kernel, by decide +kernel⟩
abbrev s_nodes_of : Stmt := top 27
/-- at the head of a turn: W the list of rows, L the labels; as the rows' lists, the topmost first -/
structure Nn (Z : Zw) (Dv : PyData) (Gs G : Hp) (σ : L2.St) (H : Hp) (W L : Addr) (as : List Addr) (cv : Addr → List V) (rows : List (List PyData)) (ls : List Str) (r3 r4 : Lc) : Prop where
  x : Ex Z.T Gs G
  R : Rep Z (lsF (W :: L :: as) cv) G [.sh Dv, .un, .un, r3, r4] σ H
  nd : (W :: L :: as).Nodup
  e1 : σ[1]? = some (some (.ref W))
  e2 : σ[2]? = some (some (.ref L))
  hW : cv W = rfs as
  hL : cv L = (ls.map V.str).reverse
  ro : Paired (fun a ds => DwAll Z G (cv a) ds) as rows
section
variable {Dv d e : PyData} {Gs G H G' H' : Hp} {σ σ' : L2.St} {W L a p : Addr} {as : List Addr} {cv : Addr → List V} {rows rs : List (List PyData)} {r : List PyData} {ls : List Str} {l : Str} {r3 q3 r4 q4 : Lc}
theorem Nn.wl (I : Nn Z Dv Gs G σ H W L as cv rows ls r3 r4) : H W = some (.lst (rfs as)) := by
  rw [← I.hW]
  exact I.R.at_ls List.mem_cons_self
theorem Nn.ll (I : Nn Z Dv Gs G σ H W L as cv rows ls r3 r4) : H L = some (.lst (ls.map V.str).reverse) := by
  rw [← I.hL]
  exact I.R.at_ls (List.mem_cons_of_mem _ List.mem_cons_self)
theorem Nn.al (I : Nn Z Dv Gs G σ H W L as cv rows ls r3 r4) (m : a ∈ as) : H a = some (.lst (cv a)) := I.R.at_ls (List.mem_cons_of_mem _ (List.mem_cons_of_mem _ m))
theorem Nn.ne (I : Nn Z Dv Gs G σ H W L as cv rows ls r3 r4) : W ≠ L ∧ (∀ a ∈ as, a ≠ W ∧ a ≠ L) ∧ as.Nodup := by
  obtain ⟨h1, h2⟩ := List.nodup_cons.mp I.nd
  obtain ⟨h3, h4⟩ := List.nodup_cons.mp h2
  exact ⟨fun z => h1 (z ▸ List.mem_cons_self), fun a m => ⟨fun z => h1 (z ▸ List.mem_cons_of_mem _ m), fun z => h3 (z ▸ m)⟩, h4⟩
theorem Nn.grow (I : Nn Z Dv Gs G σ H W L as cv rows ls r3 r4) (s : Ex Z.T G G') (R : Rep Z (lsF (W :: L :: as) cv) G' [.sh Dv, .un, .un, r3, r4] σ H') : Nn Z Dv Gs G' σ H' W L as cv rows ls r3 r4 :=
  ⟨I.x.trans s, R, I.nd, I.e1, I.e2, I.hW, I.hL, paired_impR (fun _ _ _ d => d.mono s) I.ro⟩
theorem Nn.slot (I : Nn Z Dv Gs G σ H W L as cv rows ls r3 r4) (R : Rep Z (lsF (W :: L :: as) cv) G [.sh Dv, .un, .un, q3, q4] σ' H) (e1 : σ'[1]? = σ[1]?) (e2 : σ'[2]? = σ[2]?) : Nn Z Dv Gs G σ' H W L as cv rows ls q3 q4 :=
  ⟨I.x, R, I.nd, e1.trans I.e1, e2.trans I.e2, I.hW, I.hL, I.ro⟩
/-- rows[-1].append(x) -/
theorem Nn.put {x : V} (I : Nn Z Dv Gs G σ H W L (a :: as) cv (r :: rs) ls r3 r4) (dx : Dw Z G x d) : Nn Z Dv Gs G σ (upd H a (.lst (cv a ++ [x]))) W L (a :: as) (setF cv a (cv a ++ [x])) ((r ++ [d]) :: rs) ls r3 r4 := by
  obtain ⟨n1, n2, n3⟩ := I.ne
  have rr := I.ro
  cases rr with
  | cons hd ht =>
    obtain ⟨na, _⟩ := List.nodup_cons.mp n3
    refine ⟨I.x, I.R.mutF (List.mem_cons_of_mem _ (List.mem_cons_of_mem _ List.mem_cons_self)), I.nd, I.e1, I.e2, ?_, ?_, .cons ?_ (paired_impR (fun b m ds d => ?_) ht)⟩
    · rw [setF_ne (Ne.symm (n2 a List.mem_cons_self).1)]
      exact I.hW
    · rw [setF_ne (Ne.symm (n2 a List.mem_cons_self).2)]
      exact I.hL
    · rw [setF_same]
      exact dpa_app hd (.cons dx .nil)
    · rw [setF_ne (show b ≠ a from fun z => na (by rw [← z]; exact m))]
      exact d
/-- labels.append(l) -/
theorem Nn.label (I : Nn Z Dv Gs G σ H W L as cv rows ls r3 r4) : Nn Z Dv Gs G σ (upd H L (.lst ((ls.map V.str).reverse ++ [.str l]))) W L as (setF cv L ((ls.map V.str).reverse ++ [.str l])) rows (l :: ls) r3 r4 := by
  obtain ⟨n1, n2, n3⟩ := I.ne
  refine ⟨I.x, I.R.mutF (List.mem_cons_of_mem _ List.mem_cons_self), I.nd, I.e1, I.e2, ?_, ?_, paired_impR (fun b m ds d => ?_) I.ro⟩
  · rw [setF_ne n1]
    exact I.hW
  · rw [setF_same, List.map_cons, List.reverse_cons]
  · rw [setF_ne (n2 b m).2]
    exact d
/-- labels.pop() -/
theorem Nn.unlabel (I : Nn Z Dv Gs G σ H W L as cv rows (l :: ls) r3 r4) : Nn Z Dv Gs G σ (upd H L (.lst (ls.map V.str).reverse)) W L as (setF cv L (ls.map V.str).reverse) rows ls r3 r4 := by
  obtain ⟨n1, n2, n3⟩ := I.ne
  refine ⟨I.x, I.R.mutF (List.mem_cons_of_mem _ List.mem_cons_self), I.nd, I.e1, I.e2, ?_, setF_same, paired_impR (fun b m ds d => ?_) I.ro⟩
  · rw [setF_ne n1]
    exact I.hW
  · rw [setF_ne (n2 b m).2]
    exact d
/-- rows.append([]) -/
theorem Nn.more (I : Nn Z Dv Gs G σ H W L as cv rows ls r3 r4) (h : H p = none) : Nn Z Dv Gs G σ (upd (upd H p (.lst [])) W (.lst (rfs as ++ [.ref p]))) W L (p :: as) (setF (setF cv p []) W (rfs as ++ [.ref p])) ([] :: rows) ls r3 r4 := by
  obtain ⟨n1, n2, n3⟩ := I.ne
  obtain ⟨np, R1⟩ := I.R.newF (ys := []) h
  have p1 : p ≠ W := fun z => np (z ▸ List.mem_cons_self)
  have p2 : p ≠ L := fun z => np (z ▸ List.mem_cons_of_mem _ List.mem_cons_self)
  have p3 : p ∉ as := fun m => np (List.mem_cons_of_mem _ (List.mem_cons_of_mem _ m))
  have R2 := R1.mutF (a := W) (ys := rfs as ++ [.ref p]) (List.mem_cons_of_mem _ List.mem_cons_self)
  obtain ⟨h1, h2⟩ := List.nodup_cons.mp I.nd
  obtain ⟨h3, h4⟩ := List.nodup_cons.mp h2
  refine ⟨I.x, R2.subF fun ⟨b, u⟩ m => ?_, ?_, I.e1, I.e2, ?_, ?_, .cons ?_ (paired_impR (fun b m ds d => ?_) I.ro)⟩
  · obtain ⟨m2, rfl⟩ := mem_lsF.mp m
    refine mem_lsF.mpr ⟨?_, rfl⟩
    rcases List.mem_cons.mp m2 with z | m2
    · exact z ▸ List.mem_cons_of_mem _ List.mem_cons_self
    rcases List.mem_cons.mp m2 with z | m2
    · exact z ▸ List.mem_cons_of_mem _ (List.mem_cons_of_mem _ List.mem_cons_self)
    rcases List.mem_cons.mp m2 with z | m2
    · exact z ▸ List.mem_cons_self
    · exact List.mem_cons_of_mem _ (List.mem_cons_of_mem _ (List.mem_cons_of_mem _ m2))
  · refine List.nodup_cons.mpr ⟨fun m => ?_, List.nodup_cons.mpr ⟨fun m => ?_, List.nodup_cons.mpr ⟨p3, h4⟩⟩⟩
    · rcases List.mem_cons.mp m with z | m
      · exact n1 z
      rcases List.mem_cons.mp m with z | m
      · exact p1 z.symm
      · exact h1 (List.mem_cons_of_mem _ m)
    · rcases List.mem_cons.mp m with z | m
      · exact p2 z.symm
      · exact h3 m
  · rw [setF_same, rfs_cons]
  · rw [setF_ne (Ne.symm n1), setF_ne (Ne.symm p2)]
    exact I.hL
  · rw [setF_ne p1, setF_same]
    exact .nil
  · rw [setF_ne (n2 b m).1, setF_ne (show b ≠ p from fun z => p3 (by rw [← z]; exact m))]
    exact d
/-- rows.pop() -/
theorem Nn.drop (I : Nn Z Dv Gs G σ H W L (a :: as) cv (r :: rs) ls r3 r4) : Nn Z Dv Gs G σ (upd H W (.lst (rfs as))) W L as (setF cv W (rfs as)) rs ls r3 r4 ∧ DwAll Z G (cv a) r ∧ upd H W (.lst (rfs as)) a = some (.lst (cv a)) := by
  obtain ⟨n1, n2, n3⟩ := I.ne
  have rr := I.ro
  cases rr with
  | cons hd ht =>
    have R2 := I.R.mutF (a := W) (ys := rfs as) List.mem_cons_self
    obtain ⟨h1, h2⟩ := List.nodup_cons.mp I.nd
    obtain ⟨h3, h4⟩ := List.nodup_cons.mp h2
    obtain ⟨h5, h6⟩ := List.nodup_cons.mp h4
    refine ⟨⟨I.x, R2.subF fun ⟨b, u⟩ m => ?_, ?_, I.e1, I.e2, setF_same, ?_, paired_impR (fun b m ds d => ?_) ht⟩, hd, by rw [upd_ne (n2 a List.mem_cons_self).1]; exact I.al List.mem_cons_self⟩
    · obtain ⟨m2, rfl⟩ := mem_lsF.mp m
      refine mem_lsF.mpr ⟨?_, rfl⟩
      rcases List.mem_cons.mp m2 with z | m2
      · exact z ▸ List.mem_cons_self
      rcases List.mem_cons.mp m2 with z | m2
      · exact z ▸ List.mem_cons_of_mem _ List.mem_cons_self
      · exact List.mem_cons_of_mem _ (List.mem_cons_of_mem _ (List.mem_cons_of_mem _ m2))
    · refine List.nodup_cons.mpr ⟨fun m => h1 ?_, List.nodup_cons.mpr ⟨fun m => h3 (List.mem_cons_of_mem _ m), h6⟩⟩
      rcases List.mem_cons.mp m with z | m
      · exact z ▸ List.mem_cons_self
      · exact List.mem_cons_of_mem _ (List.mem_cons_of_mem _ m)
    · rw [setF_ne (Ne.symm n1)]
      exact I.hL
    · rw [setF_ne (n2 b (List.mem_cons_of_mem _ m)).1]
      exact d
theorem Nn.off (I : Nn Z Dv Gs G σ H W L as cv rows ls r3 r4) : Nn Z Dv Gs G σ H W L as cv rows ls .un .un := I.slot (I.R.less rfl fun i lc e => by
  match i, e with
  | 0, e => exact .inr e
  | 1, e => exact .inr e
  | 2, e => exact .inr e
  | 3, e => exact .inl (Option.some.inj e).symm
  | 4, e => exact .inl (Option.some.inj e).symm
  | i + 5, e => simp at e) rfl rfl
/-- sign[0] == w -/
def dKnd (w : Str) : DTT := toB (dOp eqD (fun ρ Q => dOp ixD (fun ρ Q => known ρ 3 ∧ Q (.slot 3) ρ) (fun ρ Q => dC (.int 0) ρ fun D ρ' => Q (.val D) ρ') ρ fun D ρ' => Q (.val D) ρ') (fun ρ Q => dC (.str w) ρ fun D ρ' => Q (.val D) ρ'))
def kndS : Sg → Str
  | .op _ => "open"
  | .cl => "close"
  | .tx _ => "text"
theorem knd_at {g : Sg} (I : Nn Z Dv Gs G σ H W L as cv rows ls (.sh (sgD g)) r4) {w : Str} {Q : Bool → Hp → Prop} (k : ∀ G' H', Nn Z Dv Gs G' σ H' W L as cv rows ls (.sh (sgD g)) r4 → Q (decide (kndS g = w)) H') : rdT Z Gs 1 (dKnd w) σ H Q := by
  refine ⟨_, _, G, fun b ρ' => b = decide (kndS g = w) ∧ ρ' = [.sh Dv, .un, .un, .sh (sgD g), r4], I.x, I.R, ?_, fun b ρ' G' H' ⟨e1, e2⟩ s al R => ?_⟩
  · unfold dKnd
    cases g <;> exact ⟨trivial, rfl, rfl⟩
  · subst e1 e2
    exact k G' H' (I.grow s R)
/-- sign[1] -/
theorem lbl_at {g : Sg} (I : Nn Z Dv Gs G σ H W L as cv rows ls (.sh (sgD g)) r4) {l : Str} (hl : sgD g = .tuple [.str (kndS g), .str l]) {Q : VK} (k : ∀ G' H', Nn Z Dv Gs G' σ H' W L as cv rows ls (.sh (sgD g)) r4 → Q (.str l) H') : rdE Z Gs 1 (dOp ixD (fun ρ Q => known ρ 3 ∧ Q (.slot 3) ρ) (fun ρ Q => dC (.int 1) ρ fun D ρ' => Q (.val D) ρ')) σ H Q := by
  refine ⟨_, _, G, fun D ρ' => D = .str l ∧ ρ' = [.sh Dv, .un, .un, .sh (sgD g), r4], I.x, I.R, ?_, fun D ρ' v G' H' ⟨e1, e2⟩ s al R d => ?_⟩
  · rw [hl]
    exact ⟨trivial, rfl, rfl⟩
  · subst e1 e2
    cases d
    exact k G' H' (I.grow s R)
end
abbrev T_nodes_of : TD := T1 fun D Q _ => ∃ d : Doc, D = .tuple ((sigs d).map sgD) ∧ (sigs d).length ≤ 100000 ∧ Q (docD d)
end
end Lw
set_option Elab.async false
set_option linter.all false
set_option maxRecDepth 100000
set_option maxHeartbeats 1000000
set_option pp.deepTerms true
set_option pp.maxSteps 200000
namespace Lw
open PySem PySem.Spec PyProof PyProof.Rows L2 So Da Dl
local macro_rules | `(tactic| walk_at "z") => `(tactic| repeat (first | refine ⟨(by decide), ?_⟩ | refine ⟨(by omega), ?_⟩ | refine ⟨rfl, ?_⟩))
section
variable {Z : Zw}
theorem rst_tx {z : Str} {r : Doc} {ds : List Doc} : rstS (.tx z r :: ds) = .tx z :: rstS (r :: ds) := by cases ds <;> rfl
theorem rst_el {l : Str} {c r : Doc} {ds : List Doc} : rstS (.el l c r :: ds) = .op l :: rstS (c :: r :: ds) := by
  cases ds with
  | nil => rfl
  | cons e ds => simp [rstS, sigs]
theorem finD_el {l : Str} {c r : Doc} {q : List PyData} {rs : List (List PyData)} {ls : List Str} {ds : List Doc} : finD [] (q :: rs) (l :: ls) (c :: r :: ds) = finD q rs ls (.el l c r :: ds) := by
  rw [finD_cons]
  exact finD_mv (by rw [List.nil_append, List.append_assoc]; rfl)
theorem knd1 {z : Str} : decide (kndS (.tx z) = "text") = true := show decide (("text" : Str) = "text") = true by decide +kernel
theorem knd2 {z : Str} : decide (kndS (.op z) = "text") = false := show decide (("open" : Str) = "text") = false by decide +kernel
theorem knd3 {z : Str} : decide (kndS (.op z) = "open") = true := show decide (("open" : Str) = "open") = true by decide +kernel
theorem ok_nodes_of {f : Addr} {fd : FuncData} (F : Fun Z.K "_nodes_of" "_nodes_of" s_nodes_of f fd) (T : Tz Z.K Z.mg) : FnD Z.Pg Z.w Z.K Z.mg Z.base CX0 2 f fd ["signs"] (spT Z (T_nodes_of)) := by
  refine FnD.ok F sc_nodes_of (spT_len fun as Q er h => ?_) (fun cdv A outer s H vs Q E hr hgd ⟨G, as, Q0, er, tb, R, hT, hQ, _⟩ => ?_)
  · obtain ⟨_, rfl, _⟩ := t1_inv h
    rfl
  · obtain ⟨_, rfl, doc, rfl, hlen, q⟩ := t1_inv hT
    obtain ⟨v, rfl⟩ := one_arg R
    refine ⟨_, pss_cons (ps_set (i := 1) sc_nodes_of.nd rfl (Or.inl rfl) (pe_lst (pa_cons (pe_lst pa_nil) pa_nil)))
      (pss_cons (ps_set (i := 2) sc_nodes_of.nd rfl (Or.inl rfl) (pe_lst pa_nil))
      (pss_cons (ps_for PassesOwn.never rfl (pi_tup (pv 0)) (pg_name (i := 3) sc_nodes_of.nd rfl (Or.inl rfl))
        (pss_one (ps_if (show DT Z.T G 1 _ _ (dKnd "text") from dt_cmp (op_eqA hr.units) od_eq (dr_of (de_ix (dr_var 3) (dr_of de_int))) (dr_of de_str) (nomark _))
          (pss_one (ps_expr (pe_bm PySem.F.plainAttrs_list PySem.F.slot_list_append PySem.F.type_list_append mt_append (pe_ix ix_list (pv 1) (pe_un un_neg pe_int) (fun _ _ => rfl)) (pa_cons (pv 3) pa_nil))))
          (pss_one (ps_if (show DT Z.T G 1 _ _ (dKnd "open") from dt_cmp (op_eqA hr.units) od_eq (dr_of (de_ix (dr_var 3) (dr_of de_int))) (dr_of de_str) (nomark _))
            (pss_cons (ps_expr (pe_bm PySem.F.plainAttrs_list PySem.F.slot_list_append PySem.F.type_list_append mt_append (pv 2) (pa_cons (show DE Z.T G 1 _ _ _ from de_ix (dr_var 3) (dr_of de_int)) pa_nil)))
              (pss_one (ps_expr (pe_bm PySem.F.plainAttrs_list PySem.F.slot_list_append PySem.F.type_list_append mt_append (pv 1) (pa_cons (pe_lst pa_nil) pa_nil)))))
            (pss_cons (ps_set (i := 4) sc_nodes_of.nd rfl (Or.inl rfl) (pe_callTy call_tupleF (by rfl) T.tuple (by decide +kernel) (pa_cons (pe_bm0 PySem.F.plainAttrs_list PySem.F.slot_list_pop PySem.F.type_list_pop mt_pop (pv 1)) pa_nil)))
              (pss_one (ps_expr (pe_bm PySem.F.plainAttrs_list PySem.F.slot_list_append PySem.F.type_list_append mt_append (pe_ix ix_list (pv 1) (pe_un un_neg pe_int) (fun _ _ => rfl)) (pa_cons (pe_tupF (pa_cons pe_str (pa_cons (pe_bm0 PySem.F.plainAttrs_list PySem.F.slot_list_pop PySem.F.type_list_pop mt_pop (pv 2)) (pa_cons (pv 4) pa_nil)))) pa_nil))))))))))
      (pss_one (ps_ret (pe_callTy call_tupleF (by rfl) T.tuple (by decide +kernel) (pa_cons (pe_ix ix_list (pv 1) pe_int (fun _ _ => rfl)) pa_nil)))))), ?_⟩
    have sz : ∀ {n : Nat}, n ≤ 200000 → n < sizeLine := fun h => Nat.lt_of_le_of_lt h (by decide)
    refine ⟨Nat.zero_le _, fun p0 h0 => ⟨(by show 1 ≤ sizeLine; decide), fun W h1 => ?_⟩⟩
    refine ⟨Nat.zero_le _, fun L h2 => ?_⟩
    obtain ⟨v0, e0, d0⟩ := R.sh (i := 0) rfl
    cases e0
    cases d0 with
    | @tup _ a0 xs ds sq da =>
      have R0 : Rep Z (lsF [] fun _ => []) G [.sh (.tuple ((sigs doc).map sgD)), .un, .un, .un, .un] ((L2.start ["signs", "rows", "labels", "sign", "inside"] [V.ref a0]).set 1 (some (.ref W)) |>.set 2 (some (.ref L))) H := ((R.more 4).forget (i := 1) (fun _ _ z => nomatch z) (some (.ref W))).forget (i := 2) (fun _ _ z => nomatch z) (some (.ref L))
      obtain ⟨n0, R1⟩ := R0.newF (ys := []) h0
      obtain ⟨n1, R2⟩ := R1.newF (ys := [.ref p0]) h1
      obtain ⟨n2, R3⟩ := R2.newF (ys := []) h2
      have q1 : W ≠ p0 := fun z => n1 (z ▸ List.mem_cons_self)
      have q2 : L ≠ W := fun z => n2 (z ▸ List.mem_cons_self)
      have q3 : L ≠ p0 := fun z => n2 (z ▸ List.mem_cons_of_mem _ List.mem_cons_self)
      have I0 : Nn Z (.tuple ((sigs doc).map sgD)) G G ((L2.start ["signs", "rows", "labels", "sign", "inside"] [V.ref a0]).set 1 (some (.ref W)) |>.set 2 (some (.ref L))) (upd (upd (upd H p0 (.lst [])) W (.lst [.ref p0])) L (.lst [])) W L [p0] (setF (setF (setF (fun _ => []) p0 []) W [.ref p0]) L []) [[]] [] .un .un := by
        refine ⟨Ex.refl tb, R3.subF fun ⟨b, u⟩ m => ?_, ?_, rfl, rfl, ?_, setF_same, .cons ?_ .nil⟩
        · obtain ⟨m2, rfl⟩ := mem_lsF.mp m
          refine mem_lsF.mpr ⟨?_, rfl⟩
          rcases List.mem_cons.mp m2 with z | m2
          · exact z ▸ List.mem_cons_of_mem _ List.mem_cons_self
          rcases List.mem_cons.mp m2 with z | m2
          · exact z ▸ List.mem_cons_self
          · rw [List.mem_singleton.mp m2]
            exact List.mem_cons_of_mem _ (List.mem_cons_of_mem _ List.mem_cons_self)
        · refine List.nodup_cons.mpr ⟨fun m => ?_, List.nodup_cons.mpr ⟨fun m => q3 (List.mem_singleton.mp m), List.nodup_cons.mpr ⟨List.not_mem_nil, List.nodup_nil⟩⟩⟩
          rcases List.mem_cons.mp m with z | m
          · exact q2 z.symm
          · exact q1 (List.mem_singleton.mp m)
        · rw [setF_ne (Ne.symm q2), setF_same]
          rfl
        · rw [setF_ne (Ne.symm q3), setF_ne (Ne.symm q1), setF_same]
          exact .nil
      have lx : xs.length = (sigs doc).length := by rw [dwAll_len da, List.length_map]
      have sqh : ∀ {G' H' : Hp} {σ' : L2.St} {as cv rows ls r3 r4}, Nn Z (.tuple ((sigs doc).map sgD)) G G' σ' H' W L as cv rows ls r3 r4 → SqT Z.K H' a0 xs := fun I => sqt_ext I.R.xt (sqt_ext I.x.1 sq)
      refine ⟨_, rfl, a0, rfl, ⟨xs, sqh I0⟩, ?_⟩
      let Iv : Nat → L2.St → Hp → Prop := fun i σ' H' => ∃ G' as cv r rs ls ds, Nn Z (.tuple ((sigs doc).map sgD)) G G' σ' H' W L as cv (r :: rs) ls .un .un ∧ (sigs doc).drop i = rstS ds ∧ finD r rs ls ds = items doc ∧ rs.length = ls.length ∧ ds.length = ls.length + 1 ∧ ls.length ≤ i ∧ ∀ q ∈ r :: rs, q.length ≤ i
      refine ⟨fun i m σ' H' => m = (sigs doc).length - i ∧ i ≤ (sigs doc).length ∧ Iv i σ' H', ⟨_, by rw [Nat.sub_zero], Nat.zero_le _, G, [p0], _, [], [], [], [doc], I0, rfl, rfl, rfl, rfl, Nat.le_refl _, fun q m => by rw [List.mem_singleton.mp m]; exact Nat.le_refl _⟩, ?_⟩
      clear I0 R3 R2 R1 R0
      rintro i m σ' H' ⟨rfl, hi, G', as, cv, r, rs, ls, ds, I, ed, ef, l1, l2, l3, l4⟩
      obtain ⟨a, as, rfl⟩ : ∃ a as', as = a :: as' := by
        have := I.ro
        cases this
        exact ⟨_, _, rfl⟩
      have lar : as.length = rs.length := by
        have := I.ro
        cases this with
        | cons _ h => exact Paired.length h
      have hl : atI (rfs (a :: as)) (-1) = some (V.ref a) := by rw [rfs_cons]; exact atI_last _ _
      by_cases hlt : i < (sigs doc).length
      · refine .inr ⟨⟨xs, xs[i], sqh I, List.getElem?_eq_getElem (by omega)⟩, fun σ' H' => i + 1 ≤ (sigs doc).length ∧ Iv (i + 1) σ' H', fun σ' H' z => ⟨_, by omega, rfl, z⟩, fun x H3 ⟨eH, yx⟩ => ?_⟩
        subst eH
        obtain ⟨d, ed1, dx⟩ := dpa_at da (yx xs (sqh I))
        have ed2 : d = sgD (sigs doc)[i] := by
          rw [List.getElem?_map, List.getElem?_eq_getElem hlt] at ed1
          exact (Option.some.inj ed1).symm
        subst ed2
        have len : σ'.length = 5 := I.R.len
        have e3 : (σ'.set 3 (some x))[3]? = some (some x) := List.getElem?_set_self (by omega)
        have J := I.slot (σ' := σ'.set 3 (some x)) (q3 := .sh (sgD (sigs doc)[i])) (I.R.set (i := 3) (fun _ _ z => nomatch z) (dx.mono I.x)) (List.getElem?_set_ne (by decide)) (List.getElem?_set_ne (by decide))
        have dx2 := dx.mono I.x
        rw [List.drop_eq_getElem_cons hlt] at ed
        generalize hg : (sigs doc)[i] = g at *
        obtain ⟨dd, ds, rfl⟩ : ∃ d ds', ds = d :: ds' := by
          cases ds with
          | nil => cases l2
          | cons d ds => exact ⟨d, ds, rfl⟩
        refine knd_at J fun G4 H4 J4 => ?_
        cases dd with
        | tx z r' =>
          rw [rst_tx] at ed
          obtain ⟨eg, edn⟩ := List.cons.inj ed
          subst eg
          rw [knd1]
          refine iteT ?_
          have al := J4.al (a := a) List.mem_cons_self
          have dl : (cv a).length ≤ i := by
            have := J4.ro
            cases this with
            | cons h _ =>
              rw [dwAll_len h]
              exact l4 r List.mem_cons_self
          refine ⟨_, J4.e1, _, rfl, W, _, _, _, rfl, rfl, SqL.of J4.wl, hl, .inl ⟨rfl, _, SqL.of al⟩, x, e3, a, _, x, rfl, rfl, al, sz (by omega), ?_⟩
          obtain ⟨x4, e4, d4⟩ := J4.R.sh (i := 3) rfl
          rw [e3] at e4
          cases e4
          have J5 := (J4.put d4).off
          refine ⟨hlt, _, _, _, _, rs, ls, r' :: ds, J5, edn, ?_, l1, l2, by omega, fun q m => ?_⟩
          · rw [← ef]
            exact finD_mv (by rw [List.append_assoc]; rfl)
          · rcases List.mem_cons.mp m with rfl | m
            · rw [List.length_append, List.length_singleton]
              have := l4 r List.mem_cons_self
              omega
            · have := l4 q (List.mem_cons_of_mem _ m)
              omega
        | el l c r' =>
          rw [rst_el] at ed
          obtain ⟨eg, edn⟩ := List.cons.inj ed
          subst eg
          rw [knd2]
          refine iteF ?_
          refine knd_at J4 fun G5 H5 J5 => ?_
          rw [knd3]
          refine iteT ?_
          refine ⟨_, J5.e2, .inl ⟨rfl, _, SqL.of J5.ll⟩, lbl_at J5 (l := l) rfl fun G6 H6 J6 => ⟨L, _, _, rfl, rfl, J6.ll, sz (by rw [List.length_reverse, List.length_map]; omega), ?_⟩⟩
          have J7 := J6.label (l := l)
          refine ⟨_, J7.e1, .inl ⟨rfl, _, SqL.of J7.wl⟩, Nat.zero_le _, fun p hp => ⟨W, _, _, rfl, rfl, (by rw [upd_ne (ne_of_none J7.wl hp)]; exact J7.wl), sz (by rw [rfs_len, List.length_cons]; omega), ?_⟩⟩
          have J8 := (J7.more hp).off
          refine ⟨hlt, _, _, _, _, r :: rs, l :: ls, c :: r' :: ds, J8, edn, ?_, (by rw [List.length_cons, List.length_cons, l1]), (by simp only [List.length_cons] at l2 ⊢; omega), (by rw [List.length_cons]; omega), fun q m => ?_⟩
          · rw [finD_el, ef]
          · rcases List.mem_cons.mp m with rfl | m
            · exact Nat.zero_le _
            · have := l4 q m
              omega
        | nil =>
          obtain ⟨e, ds, rfl⟩ : ∃ e ds', ds = e :: ds' := by
            cases ds with
            | nil => cases ed
            | cons e ds => exact ⟨e, ds, rfl⟩
          rw [rst_cons] at ed
          obtain ⟨eg, edn⟩ := List.cons.inj ed
          subst eg
          obtain ⟨l, ls, rfl⟩ : ∃ l ls', ls = l :: ls' := by
            cases ls with
            | nil => simp at l2
            | cons l ls => exact ⟨l, ls, rfl⟩
          obtain ⟨r1, rs, rfl⟩ : ∃ r1 rs', rs = r1 :: rs' := by
            cases rs with
            | nil => simp at l1
            | cons r1 rs => exact ⟨r1, rs, rfl⟩
          obtain ⟨a1, as, rfl⟩ : ∃ a1 as', as = a1 :: as' := by
            cases as with
            | nil => simp at lar
            | cons a1 as => exact ⟨a1, as, rfl⟩
          rw [show decide (kndS .cl = "text") = false from by decide +kernel]
          refine iteF ?_
          refine knd_at J4 fun G5 H5 J5 => ?_
          rw [show decide (kndS .cl = "open") = false from by decide +kernel]
          refine iteF ?_
          have wl := J5.wl
          rw [rfs_cons] at wl
          refine ⟨_, J5.e1, .inl ⟨rfl, _, SqL.of wl⟩, W, _, _, rfl, rfl, wl, pop_lst _ _, ?_⟩
          rw [List.dropLast_concat]
          obtain ⟨J6, dr, ar⟩ := J5.drop
          refine ⟨a, _, rfl, .inl ⟨SqL.of ar, fun p ob hp hd => ?_⟩⟩
          have s7 := Ex.new J6.x.2 (J6.R.gnone hp) (o := .frz ob (.tup (cv a)))
          have J7 := J6.grow s7 (J6.R.new (o := .frz ob (.tup (cv a))) J6.x.2 hp hd).2
          have dp : Dw Z (upd G5 p (.frz ob (.tup (cv a)))) (.ref p) (.tuple r) := .tup (.inl (.inr ⟨ob, upd_same⟩)) (dr.mono s7)
          have len4 : (σ'.set 3 (some x)).length = 5 := J7.R.len
          have e4 : ((σ'.set 3 (some x)).set 4 (some (V.ref p)))[4]? = some (some (.ref p)) := List.getElem?_set_self (by omega)
          have J8 := J7.slot (σ' := (σ'.set 3 (some x)).set 4 (some (.ref p))) (q3 := .sh (sgD .cl)) (q4 := .sh (.tuple r)) (J7.R.set (i := 4) (fun _ _ z => nomatch z) dp) (List.getElem?_set_ne (by decide)) (List.getElem?_set_ne (by decide))
          have al := J8.al (a := a1) List.mem_cons_self
          have hl2 : atI (rfs (a1 :: as)) (-1) = some (V.ref a1) := by rw [rfs_cons]; exact atI_last _ _
          have ll := J8.ll
          rw [List.map_cons, List.reverse_cons] at ll
          refine ⟨_, J8.e1, _, rfl, W, _, _, _, rfl, rfl, SqL.of J8.wl, hl2, .inl ⟨rfl, _, SqL.of al⟩, _, J8.e2, .inl ⟨rfl, _, SqL.of ll⟩, L, _, _, rfl, rfl, ll, pop_lst _ _, ?_⟩
          rw [List.dropLast_concat]
          have J9 := J8.unlabel
          refine ⟨_, e4, (by show 3 ≤ sizeLine; decide), fun t ob2 ht hd2 => ?_⟩
          have s10 := Ex.new J9.x.2 (J9.R.gnone ht) (o := .frz ob2 (.tup [.str "element", .str l, .ref p]))
          have J10 := J9.grow s10 (J9.R.new (o := .frz ob2 (.tup [.str "element", .str l, .ref p])) J9.x.2 ht hd2).2
          have al2 := J10.al (a := a1) List.mem_cons_self
          have la1 : r1.length ≤ i := l4 r1 (List.mem_cons_of_mem _ List.mem_cons_self)
          have lc : (setF (setF cv W (rfs (a1 :: as))) L (ls.map V.str).reverse a1).length ≤ i := by
            have := J10.ro
            cases this with
            | cons h _ =>
              rw [dwAll_len h]
              exact la1
          refine ⟨a1, _, _, rfl, rfl, al2, sz (by omega), ?_⟩
          have J11 := (J10.put (x := .ref t) (d := .tuple [.str "element", .str l, .tuple r]) (.tup (.inl (.inr ⟨ob2, upd_same⟩)) (.cons (.str _) (.cons (.str _) (.cons (dp.mono s10) .nil))))).off
          refine ⟨hlt, _, _, _, _, rs, ls, e :: ds, J11, edn, ?_, (by simpa using l1), (by simpa using l2), (by rw [List.length_cons] at l3; omega), fun q m => ?_⟩
          · rw [← ef, finD_cons, show r ++ items Doc.nil = r from List.append_nil _]
          · rcases List.mem_cons.mp m with rfl | m
            · rw [List.length_append, List.length_singleton]
              omega
            · have := l4 q (List.mem_cons_of_mem _ (List.mem_cons_of_mem _ m))
              omega
      · have ei : i = (sigs doc).length := by omega
        subst ei
        rw [List.drop_length] at ed
        refine .inl ⟨⟨xs, sqh I, by omega⟩, ?_⟩
        obtain ⟨dd, ds, rfl⟩ : ∃ d ds', ds = d :: ds' := by
          cases ds with
          | nil => cases l2
          | cons d ds => exact ⟨d, ds, rfl⟩
        cases dd with
        | tx z r' =>
          rw [rst_tx] at ed
          cases ed
        | el l c r' =>
          rw [rst_el] at ed
          cases ed
        | nil =>
          cases ds with
          | cons e ds =>
            rw [rst_cons] at ed
            cases ed
          | nil =>
            have l0 : ls = [] := List.eq_nil_of_length_eq_zero (by simpa using l2.symm)
            subst l0
            have r0 : rs = [] := List.eq_nil_of_length_eq_zero (by simpa using l1)
            subst r0
            have a0' : as = [] := List.eq_nil_of_length_eq_zero (by simpa using lar)
            subst a0'
            have ef : r = items doc := by
              rw [← ef]
              exact (List.append_nil _).symm
            subst ef
            have al := I.al (a := a) List.mem_cons_self
            have da2 : DwAll Z G' (cv a) (items doc) := by
              have := I.ro
              cases this with
              | cons h _ => exact h
            refine ⟨_, I.e1, W, _, _, _, rfl, rfl, SqL.of I.wl, (rfl : atI (rfs [a]) 0 = some (V.ref a)), a, _, rfl, .inl ⟨SqL.of al, fun p ob hp hd => ?_⟩⟩
            obtain ⟨gp, R6⟩ := I.R.noF.new (o := .frz ob (.tup (cv a))) I.x.2 hp hd
            have s6 : Ex Z.T G' _ := Ex.new I.x.2 gp (o := .frz ob (.tup (cv a)))
            have Rq := R.pastC (I.x.trans s6) R6.sub R6.nt fun b w => by
              rcases w with ⟨i, c, e⟩ | ⟨o, m⟩
              · exact absurd e (no_sh1 i b c)
              · exact absurd m List.not_mem_nil
            exact hQ (docD doc) _ _ _ _ q (.sh .nil) (I.x.trans s6) Rq (.tup (.inl (.inr ⟨ob, upd_same⟩)) (da2.mono s6))
end
end Lw
set_option Elab.async false
set_option linter.all false
set_option maxRecDepth 100000
set_option maxHeartbeats 1000000
set_option pp.deepTerms true
set_option pp.maxSteps 200000
namespace Lw
open PySem PySem.Spec PyProof PyProof.Rows L2 So Da Dl
local macro_rules | `(tactic| walk_at "z") => `(tactic| repeat (first | refine ⟨(by decide), ?_⟩ | refine ⟨(by omega), ?_⟩ | refine ⟨rfl, ?_⟩))
section
variable {Z : Zw}
abbrev T_document_of (W : Addr) : TD := T1 fun V Q er => OkD V ∧ LvIn W V 0 (fun l => (0 < l ∧ er (W, .int ((itD V).length : Nat))) ∨ (l ≤ 0 ∧ ∃ d, sgsOf V = sigs d ∧ Q (docD d))) er
abbrev s_document_of : Stmt := top 28
theorem sc_document_of : FnScope ["stream"] ["stream"] (defScope s_document_of) := ⟨rfl, rfl, rfl, by decide +kernel, rfl, by decide +kernel, by decide +kernel⟩
local macro_rules | `(tactic| walk_at "d") => `(tactic| simp only [↓dSeq, ↓dFor, ↓reprD, ↓dCallK, ↓dIfS, ↓dAndV, ↓dOrV, ↓dUn, ↓dOp, ↓dC, ↓dVar, ↓derefW, ↓deref, ↓known, ↓noOb, ↓nbO, ↓start0, ↓endsOf, ↓outA, ↓toB, ↓dAnd, ↓dOr, ↓dNot, ↓ofB, ↓dIf, ↓dChain, ↓dgName, ↓dgSeq, ↓dgCons, ↓dgNil, ↓dLc, ↓popW, ↓atOl, ↓isOl, ↓ownS, ↓frzD, ↓dCall, argsOf, argLc, obSlots, upS, upO, ↓noObs, ↓wipeD, List.map_cons, List.map_nil, List.length_cons, List.length_nil, Nat.sub_self, Nat.zero_add, Nat.reduceAdd, Nat.reduceSub, List.replicate, List.append_nil, List.cons_append, List.nil_append, List.getElem?_cons_zero, List.getElem?_cons_succ, List.getElem?_nil, List.set, List.head?, List.tail, Option.getD_some, Option.getD_none, List.nodup_nil, List.nodup_cons, List.not_mem_nil, List.mem_cons, List.mem_singleton, or_false, Nat.reduceEqDiff, true_and, and_true, Bool.not_true, Bool.not_false, if_true, Bool.false_eq_true, if_false, ite_true, ite_false, not_false_eq_true, reduceCtorEq, eqD_int, eqD_str, eqD_bl, eqD_tuple, eqD_list, eqD_tupleR, eqD_listR, eqD_non, neD_int, neD_str, neD_bl, neD_tuple, neD_list, neD_tupleR, neD_listR, neD_non, ↓isD, ↓notD, ix_0, ix_1, ix_2, ix_3, ix_4, ix_L0, ix_L1, ix_L2, itemsD_L, itemsD_T, tupleD_L, tupleD_T, listD_L, listD_T, lenD_L, lenD_T, lenD_S, slD_L, slD_T, addD_I, addD_S, addD_T, addD_L, subD_I, mulD_I, ltD_I, ltD_S, leD_I, gtD_I, geD_I, modD_I, fdivD_I, powD_I, intD_I, intD_B, negD_I, isND_N, isND_I, isND_S, isND_B, isND_T, isND_L, sq_T, sq_L, sq_N, sq_I, sq_S, sq_B, at_0, at_1, at_2, at_3, at_4, ↓isiD, pick, List.filterMap_cons_some, List.filterMap_nil, List.filterMap_cons, ↓ownC, ↓T1, ↓T2, ↓T3, ↓T4, ↓dHeard, ↓capsD, ↓slotsD, ↓lamW, lamSto, cpLc, ↓dHeardS, ↓dAsks, ↓asksW, ↓heardT, ↓Tbox, ↓Ttake, dForN, forNW, fnW, slSD, repD2, ↓intW, ix_ma0, ix_ma1, ix_ma2, ix_ma3, ix_inn0, ix_inn1, ix_inn2, ix_inn3, ix_top0, ix_top1, ix_top2, ix_top3, ix_top4, ↓T_law_pick, ↓T_law_text])
theorem ok_document_of {f : Addr} {fd : FuncData} (F : Fun Z.K "document_of" "document_of" s_document_of f fd) (T : Tz Z.K Z.mg) {C_BadStream : Addr}
    {f_nodes_of : Addr} {fd_nodes_of : FuncData} (D_nodes_of : Df Z.K Z.mg "_nodes_of" s_nodes_of ["signs"] f_nodes_of fd_nodes_of) (G_nodes_of : FnD Z.Pg Z.w Z.K Z.mg Z.base CX0 6 f_nodes_of fd_nodes_of ["signs"] (spT Z (T_nodes_of)))
    {f_check_stream : Addr} {fd_check_stream : FuncData} (D_check_stream : Df Z.K Z.mg "check_stream" s_check_stream ["value"] f_check_stream fd_check_stream) (G_check_stream : FnD Z.Pg Z.w Z.K Z.mg Z.base (L2.CX Z.Pg Z.w) 6 f_check_stream fd_check_stream ["value"] (spT Z (T_check_stream C_BadStream))) : FnD Z.Pg Z.w Z.K Z.mg Z.base (L2.CX Z.Pg Z.w) 7 f fd ["stream"] (spT Z (T_document_of C_BadStream)) := by
  refine okDX F sc_document_of (fun as Q er h => ?_) (fun cdv A outer s H E G0 er ca hE hr hgd hca => (dss_one (ds_ret (de_call G_nodes_of hr hgd (by rfl) D_nodes_of.g D_nodes_of.F.kp D_nodes_of.b (drs_cons (dr_of (de_callX hE (passes_call (takes_of rfl rfl rfl rfl) fun _ _ _ _ h => h) G_check_stream hr hgd (by rfl) D_check_stream.g D_check_stream.F.kp D_check_stream.b (drs_cons (dr_var 0) drs_nil))) drs_nil))))) (fun ca as Q er h => ?_)
  · obtain ⟨_, rfl, _⟩ := t1_inv h
    rfl
  · obtain ⟨a, rfl, q⟩ := t1_inv h
    obtain ⟨ok, q⟩ := q
    walk_at "d"
    have len := okD_len ok
    refine ⟨ok, lv_imp q fun hs l e h => ?_⟩
    rcases h with h | ⟨h, d, e2, q⟩
    · exact .inl h
    · refine .inr ⟨h, d, ?_, ?_, q⟩
      · unfold SgT
        rw [e2]
      · rw [← e2, sgsOf_len]
        exact len
abbrev T_check_document (F : Addr) : TD := T1 fun V Q er => OkD V ∧ SgIn F V (fun ss => ∃ d, ss = (sigs d).map sgD ∧ (sigs d).length ≤ 100000 ∧ Q (docD d)) er
/-- a comprehension that chooses -/
theorem lcW_sel {ρw : Sto} {vs : List Nat} {g : DTG} {tt : DTT} {te : DTE} {Q : List PyData → Prop} (c : PyData → Bool) (f : PyData → PyData) : ∀ {ds acc : List PyData}, acc.length + ds.length ≤ 1000000 →
    (∀ d ∈ ds, ∀ (P : Prop) (R : PyData → Prop), (c d = true → R (f d)) → (c d = false → P) → g d ρw fun ρ1 => tt ρ1 fun b ρ2 => if b = true then te ρ2 fun y ρ3 => (noObs ρ3 vs ∧ wipeD ρ3 vs = ρw) ∧ R y else (noObs ρ2 vs ∧ wipeD ρ2 vs = ρw) ∧ P) →
    Q (acc ++ (ds.filter c).map f) → lcW ρw vs g tt te ds acc Q := by
  intro ds
  induction ds with
  | nil =>
    intro acc _ _ q
    unfold lcW
    simpa using q
  | cons d ds ih =>
    intro acc l h q
    rw [List.length_cons] at l
    unfold lcW
    refine h d List.mem_cons_self _ _ (fun hc => ⟨Nat.lt_of_le_of_lt (by omega : acc.length ≤ 1000000) (by decide), ih (by rw [List.length_append, List.length_singleton]; omega) (fun x m => h x (List.mem_cons_of_mem _ m)) ?_⟩) (fun hc => ih (by omega) (fun x m => h x (List.mem_cons_of_mem _ m)) ?_)
    · rw [List.filter_cons, if_pos hc, List.map_cons] at q
      rw [List.append_assoc]
      exact q
    · rw [List.filter_cons, if_neg (by rw [hc]; decide)] at q
      exact q
def ncl : Sg → Bool
  | .cl => false
  | _ => true
def cntS (gs : List Sg) : Nat := (gs.filter fun g => ncl g).length
abbrev T_count_nodes (F : Addr) : TD := T1 fun V Q er => OkD V ∧ SgIn F V (fun ss => ∃ gs : List Sg, ss = gs.map sgD ∧ gs.length ≤ 100000 ∧ Q (.int (cntS gs))) er
def stpS : Sg → Int
  | .op _ => 1
  | .cl => -1
  | .tx _ => 0
def hgS : List Sg → Int → Int → Int
  | [], _, m => m
  | g :: gs, l, m => hgS gs (l + stpS g) (if l + stpS g > m then l + stpS g else m)
abbrev T_height (F : Addr) : TD := T1 fun V Q er => OkD V ∧ SgIn F V (fun ss => ∃ gs : List Sg, ss = gs.map sgD ∧ gs.length ≤ 100000 ∧ Q (.int (hgS gs 0 0))) er
end
end Lw
set_option Elab.async false
set_option linter.all false
set_option maxRecDepth 100000
set_option maxHeartbeats 1000000
set_option pp.deepTerms true
set_option pp.maxSteps 200000
namespace Lw
open PySem PySem.Spec PyProof PyProof.Rows L2 So Da Dl
local macro_rules | `(tactic| walk_at "z") => `(tactic| repeat (first | refine ⟨(by decide), ?_⟩ | refine ⟨(by omega), ?_⟩ | refine ⟨rfl, ?_⟩))
section
variable {Z : Zw}
def LLb (z : Str) : Prop := z = "a" ∨ z = "b" ∨ z = "ab" ∨ z = "abcdefghijkl"
def DocL : Nat → Doc → Prop
  | _, .nil => True
  | n, .tx z r => Pc CHR 8 z ∧ DocL n r
  | 0, .el _ _ _ => False
  | n + 1, .el l c r => LLb l ∧ (DocL n c ∧ wid c ≤ 3) ∧ DocL (n + 1) r
theorem docL_tx {n : Nat} {z : Str} {r : Doc} : DocL n (.tx z r) ↔ Pc CHR 8 z ∧ DocL n r := by cases n <;> exact Iff.rfl
theorem docL_nil {n : Nat} : DocL n .nil := by cases n <;> trivial
theorem docL_app : ∀ (n : Nat) (d e : Doc), DocL n d → DocL n e → DocL n (app d e)
  | _, .nil, e, _, h => h
  | n, .tx z r, e, h, k => docL_tx.mpr ⟨(docL_tx.mp h).1, docL_app n r e (docL_tx.mp h).2 k⟩
  | 0, .el l c r, e, h, _ => h.elim
  | n + 1, .el l c r, e, h, k => ⟨h.1, h.2.1, docL_app (n + 1) r e h.2.2 k⟩
end
end Lw
set_option Elab.async false
set_option linter.all false
set_option maxRecDepth 100000
set_option maxHeartbeats 1000000
set_option pp.deepTerms true
set_option pp.maxSteps 200000
namespace Lw
open PySem PySem.Spec PyProof PyProof.Rows L2 So Da Dl
local macro_rules | `(tactic| walk_at "z") => `(tactic| repeat (first | refine ⟨(by decide), ?_⟩ | refine ⟨(by omega), ?_⟩ | refine ⟨rfl, ?_⟩))
section
variable {Z : Zw}
/-- each text has at most two < -/
def txA : Doc → Prop
  | .nil => True
  | .tx z r => lts z ≤ 2 ∧ txA r
  | .el _ c r => txA c ∧ txA r
theorem txA_app : ∀ (d e : Doc), txA d → txA e → txA (app d e)
  | .nil, e, _, k => k
  | .tx z r, e, h, k => ⟨h.1, txA_app r e h.2 k⟩
  | .el l c r, e, h, k => ⟨h.1, txA_app r e h.2 k⟩
def T_law_document (n : Nat) : TD := fun as Q _ => match as with
  | [.ob b .box, .sh (.int m)] => 0 ≤ m ∧ m < (n : Int) ∧ ∀ d, DocL m.toNat d → wid d ≤ 3 → txA d → Q (docD d) [.ob b .box, .sh (.int m)]
  | _ => False
abbrev s_law_document : Stmt := top 45
theorem sc_law_document : FnScope ["box", "depth", "found", "turn", "label"] ["box", "depth"] (defScope s_law_document) := ⟨rfl, rfl, rfl, by decide +kernel, rfl, by decide +kernel, by decide +kernel⟩
local macro_rules | `(tactic| walk_at "d") => `(tactic| simp only [↓dSeq, ↓dFor, ↓reprD, ↓dCallK, ↓dIfS, ↓dAndV, ↓dOrV, ↓dUn, ↓dOp, ↓dC, ↓dVar, ↓derefW, ↓deref, ↓known, ↓noOb, ↓nbO, ↓start0, ↓endsOf, ↓outA, ↓toB, ↓dAnd, ↓dOr, ↓dNot, ↓ofB, ↓dIf, ↓dChain, ↓dgName, ↓dgSeq, ↓dgCons, ↓dgNil, ↓dLc, ↓popW, ↓atOl, ↓isOl, ↓ownS, ↓frzD, ↓dCall, argsOf, argLc, obSlots, upS, upO, ↓noObs, ↓wipeD, List.map_cons, List.map_nil, List.length_cons, List.length_nil, Nat.sub_self, Nat.zero_add, Nat.reduceAdd, Nat.reduceSub, List.replicate, List.append_nil, List.cons_append, List.nil_append, List.getElem?_cons_zero, List.getElem?_cons_succ, List.getElem?_nil, List.set, List.head?, List.tail, Option.getD_some, Option.getD_none, List.nodup_nil, List.nodup_cons, List.not_mem_nil, List.mem_cons, List.mem_singleton, or_false, Nat.reduceEqDiff, true_and, and_true, Bool.not_true, Bool.not_false, if_true, Bool.false_eq_true, if_false, ite_true, ite_false, not_false_eq_true, reduceCtorEq, eqD_int, eqD_str, eqD_bl, eqD_tuple, eqD_list, eqD_tupleR, eqD_listR, eqD_non, neD_int, neD_str, neD_bl, neD_tuple, neD_list, neD_tupleR, neD_listR, neD_non, ↓isD, ↓notD, ix_0, ix_1, ix_2, ix_3, ix_4, ix_L0, ix_L1, ix_L2, itemsD_L, itemsD_T, tupleD_L, tupleD_T, listD_L, listD_T, lenD_L, lenD_T, lenD_S, slD_L, slD_T, addD_I, addD_S, addD_T, addD_L, subD_I, mulD_I, ltD_I, ltD_S, leD_I, gtD_I, geD_I, modD_I, fdivD_I, powD_I, intD_I, intD_B, negD_I, isND_N, isND_I, isND_S, isND_B, isND_T, isND_L, sq_T, sq_L, sq_N, sq_I, sq_S, sq_B, at_0, at_1, at_2, at_3, at_4, ↓isiD, pick, List.filterMap_cons_some, List.filterMap_nil, List.filterMap_cons, ↓ownC, ↓T1, ↓T2, ↓T3, ↓T4, ↓dHeard, ↓capsD, ↓slotsD, ↓lamW, lamSto, cpLc, ↓dHeardS, ↓dAsks, ↓asksW, ↓heardT, ↓Tbox, ↓Ttake, dForN, forNW, fnW, slSD, repD2, ↓intW, ix_ma0, ix_ma1, ix_ma2, ix_ma3, ix_inn0, ix_inn1, ix_inn2, ix_inn3, ix_top0, ix_top1, ix_top2, ix_top3, ix_top4, ↓T_law_pick, ↓T_law_text, ↓T_law_document])
theorem step_law_document {f : Addr} {fd : FuncData} (F : Fun Z.K "_law_document" "_law_document" s_law_document f fd) (T : Tz Z.K Z.mg) {hn : Nat}
    {f_law_take : Addr} {fd_law_take : FuncData} (D_law_take : Df Z.K Z.mg "_law_take" s_law_take ["box", "many"] f_law_take fd_law_take) (G_law_take : FnD Z.Pg Z.w Z.K Z.mg Z.base CX0 3 f_law_take fd_law_take ["box", "many"] (spT Z (Ttake)))
    {f_law_text : Addr} {fd_law_text : FuncData} (D_law_text : Df Z.K Z.mg "_law_text" s_law_text ["box"] f_law_text fd_law_text) (G_law_text : FnD Z.Pg Z.w Z.K Z.mg Z.base CX0 3 f_law_text fd_law_text ["box"] (spT Z (T_law_text)))
    {f_law_pick : Addr} {fd_law_pick : FuncData} (D_law_pick : Df Z.K Z.mg "_law_pick" s_law_pick ["box", "some"] f_law_pick fd_law_pick) (G_law_pick : FnD Z.Pg Z.w Z.K Z.mg Z.base CX0 3 f_law_pick fd_law_pick ["box", "some"] (spT Z (T_law_pick)))
    {f_law_document : Addr} {fd_law_document : FuncData} (D_law_document : Df Z.K Z.mg "_law_document" s_law_document ["box", "depth"] f_law_document fd_law_document) (G_law_document : FnD Z.Pg Z.w Z.K Z.mg Z.base CX0 (3 + hn) f_law_document fd_law_document ["box", "depth"] (spT Z (T_law_document hn))) : FnD Z.Pg Z.w Z.K Z.mg Z.base CX0 (3 + hn + 1) f fd ["box", "depth"] (spT Z (T_law_document (hn + 1))) := by
  refine okD F sc_law_document (fun as Q er h => ?_) (fun cdv A outer s H E G0 ca hr hgd hca => (dss_cons (ds_own (i := 2) sc_law_document.nd rfl (Or.inl rfl) (df_lst da_nil))
      (dss_cons (ds_for PassesOwn.never rfl (di_range (by rfl) T.range (de_call (G_law_take.mono (by omega)) hr hgd (by rfl) D_law_take.g D_law_take.F.kp D_law_take.b (drs_cons (dr_var 0) (drs_cons (dr_of de_int) drs_nil)))) (dg_name (i := 3) sc_law_document.nd rfl (Or.inl rfl))
        (dss_one (ds_if (DW.dt (dw_or (dt_cmp (op_eqA hr.units) od_eq (dr_var 1) (dr_of de_int) (nomark _)) (dw_or1 (dt_cmp (op_eqA hr.units) od_eq (dr_of (de_call (G_law_take.mono (by omega)) hr hgd (by rfl) D_law_take.g D_law_take.F.kp D_law_take.b (drs_cons (dr_var 0) (drs_cons (dr_of de_int) drs_nil)))) (dr_of de_int) (nomark _)))))
          (dss_one (ds_app (ps_expr (pe_bm PySem.F.plainAttrs_list PySem.F.slot_list_append PySem.F.type_list_append mt_append (pv 2) (pa_cons (de_tup (da_cons de_str (da_cons (de_call (G_law_text.mono (by omega)) hr hgd (by rfl) D_law_text.g D_law_text.F.kp D_law_text.b (drs_cons (dr_var 0) drs_nil)) da_nil))) pa_nil)))))
          (dss_cons (ds_set (i := 4) sc_law_document.nd rfl (Or.inl rfl) (de_call (G_law_pick.mono (by omega)) hr hgd (by rfl) D_law_pick.g D_law_pick.F.kp D_law_pick.b (drs_cons (dr_var 0) (drs_cons (dr_of (de_of_df (df_lst (da_cons de_str (da_cons de_str (da_cons de_str (da_cons de_str da_nil))))))) drs_nil))))
          (dss_one (ds_app (ps_expr (pe_bm PySem.F.plainAttrs_list PySem.F.slot_list_append PySem.F.type_list_append mt_append (pv 2) (pa_cons (de_tup (da_cons de_str (da_cons (de_var 4) (da_cons (de_call G_law_document hr hgd (by rfl) D_law_document.g D_law_document.F.kp D_law_document.b (drs_cons (dr_var 0) (drs_cons (dr_of (de_op op_sub od_sub (dr_var 1) (dr_of de_int))) drs_nil))) da_nil)))) pa_nil)))))))))
      (dss_one (ds_ret (de_callTy call_tupleF cd_tuple (by rfl) T.tuple (by decide +kernel) (dr_var 2))))))) (fun ca as Q er h => ?_)
  · unfold T_law_document at h
    split at h
    · rfl
    · exact h.elim
  · unfold T_law_document at h
    split at h
    · rename_i b m
      obtain ⟨m0, m1, q⟩ := h
      walk_at "d"
      have b0 : 0 ≤ sizeLine := by decide
      have b2 : 2 ≤ sizeLine := by decide
      have b3 : 3 ≤ sizeLine := by decide
      refine ⟨b0, by decide, fun a => ⟨by decide, by decide, fun r r0 r1 => ⟨by omega, by omega, ?_⟩⟩⟩
      refine forW_go (fun ds ρ => ∃ (d' : Doc) (s3 s4 : Lc), DocL m.toNat d' ∧ txA d' ∧ ((wid d' : Nat) : Int) + (ds.length : Nat) = r ∧ nbO (some s3) ∧ nbO (some s4) ∧ ρ = [.ob b .box, .sh (.int m), .ob a (.lst (items d')), s3, s4]) ?_ ?_ _ _ ⟨.nil, .un, .un, docL_nil, trivial, by unfold rngD; rw [List.length_map, List.length_range]; show (0 : Int) + _ = r; omega, trivial, trivial, rfl⟩
      · rintro ρ ⟨d', s3, s4, hd, ht, hw, h3, h4, rfl⟩
        have hw : ((wid d' : Nat) : Int) + 0 = r := hw
        have := q d' hd (by omega) ht
        unfold docD at this
        have hw2 := wid_items d'
        walk_at "d"
        exact this
      · rintro K y ds ρ ⟨d', s3, s4, hd0, ht, hw, h3, h4, rfl⟩ ih
        rw [List.length_cons] at hw
        have hw2 := wid_items d'
        have sz : (items d').length < sizeLine := Nat.lt_of_le_of_lt (by omega : _ ≤ 10) (by decide)
        have ntx : ∀ z, Pc CHR 8 z → lts z ≤ 2 → K [.ob b .box, .sh (.int m), .ob a (.lst (items d' ++ [.tuple [.str "text", .str z]])), .sh y, s4] := fun z hz h2 => by
          have := ih [.ob b .box, .sh (.int m), .ob a (.lst (items (app d' (.tx z .nil)))), .sh y, s4] ⟨app d' (.tx z .nil), .sh y, s4, docL_app _ _ _ hd0 (docL_tx.mpr ⟨hz, docL_nil⟩), txA_app _ _ ht ⟨h2, trivial⟩, by rw [wid_app]; show ((wid d' + 1 : Nat) : Int) + _ = r; omega, trivial, h4, rfl⟩
          rw [items_app] at this
          exact this
        have plb : ∀ d, d ∈ itD (PyData.list [PyData.str "a", PyData.str "b", PyData.str "ab", PyData.str "abcdefghijkl"]) → ∃ z, d = .str z ∧ LLb z := fun d h => by
          simp only [itD, List.mem_cons, List.not_mem_nil, or_false] at h
          rcases h with rfl | rfl | rfl | rfl
          · exact ⟨_, rfl, .inl rfl⟩
          · exact ⟨_, rfl, .inr (.inl rfl)⟩
          · exact ⟨_, rfl, .inr (.inr (.inl rfl))⟩
          · exact ⟨_, rfl, .inr (.inr (.inr rfl))⟩
        walk_at "d"
        refine ⟨h3, ?_⟩
        by_cases hm : m = 0
        · rw [if_pos (decide_eq_true hm)]
          exact fun z hz h2 => ⟨b2, sz, ntx z hz h2⟩
        rw [if_neg (fun e => hm (of_decide_eq_true e))]
        refine ⟨by decide, by decide, fun u u0 u1 => ?_⟩
        by_cases hu : u = 0
        · rw [if_pos (decide_eq_true hu)]
          exact fun z hz h2 => ⟨b2, sz, ntx z hz h2⟩
        rw [if_neg (fun e => hu (of_decide_eq_true e))]
        refine ⟨by decide, (by show (0 : Nat) < 4; decide), (by show (4 : Nat) < 1000; decide), fun d hd => ?_⟩
        obtain ⟨l, rfl, hl⟩ := plb d hd
        refine ⟨h4, by omega, by omega, fun c hc hcw hct => ⟨b3, sz, ?_⟩⟩
        have oe : DocL m.toNat (.el l c .nil) := by
          rw [show m.toNat = (m - 1).toNat + 1 by omega]
          exact ⟨hl, ⟨hc, hcw⟩, trivial⟩
        have := ih [.ob b .box, .sh (.int m), .ob a (.lst (items (app d' (.el l c .nil)))), .sh y, .sh (.str l)] ⟨app d' (.el l c .nil), .sh y, .sh (.str l), docL_app _ _ _ hd0 oe, txA_app _ _ ht ⟨hct, trivial⟩, by rw [wid_app]; show ((wid d' + 1 : Nat) : Int) + _ = r; omega, trivial, trivial, rfl⟩
        rw [items_app] at this
        exact this
    · exact h.elim
theorem vac_doc {as : List Lc} {Q : PyData → List Lc → Prop} {er : EK} (h : T_law_document 0 as Q er) : False := by
  unfold T_law_document at h
  split at h
  · exact absurd (Int.lt_of_le_of_lt h.1 h.2.1) (by decide)
  · exact h
theorem ok_law_document {f : Addr} {fd : FuncData} (F : Fun Z.K "_law_document" "_law_document" s_law_document f fd) (T : Tz Z.K Z.mg)
    {f_law_take : Addr} {fd_law_take : FuncData} (D_law_take : Df Z.K Z.mg "_law_take" s_law_take ["box", "many"] f_law_take fd_law_take) (G_law_take : FnD Z.Pg Z.w Z.K Z.mg Z.base CX0 3 f_law_take fd_law_take ["box", "many"] (spT Z (Ttake)))
    {f_law_text : Addr} {fd_law_text : FuncData} (D_law_text : Df Z.K Z.mg "_law_text" s_law_text ["box"] f_law_text fd_law_text) (G_law_text : FnD Z.Pg Z.w Z.K Z.mg Z.base CX0 3 f_law_text fd_law_text ["box"] (spT Z (T_law_text)))
    {f_law_pick : Addr} {fd_law_pick : FuncData} (D_law_pick : Df Z.K Z.mg "_law_pick" s_law_pick ["box", "some"] f_law_pick fd_law_pick) (G_law_pick : FnD Z.Pg Z.w Z.K Z.mg Z.base CX0 3 f_law_pick fd_law_pick ["box", "some"] (spT Z (T_law_pick)))
    (D_law_document : Df Z.K Z.mg "_law_document" s_law_document ["box", "depth"] f fd) : FnD Z.Pg Z.w Z.K Z.mg Z.base CX0 8 f fd ["box", "depth"] (spT Z (T_law_document 5)) := by
  have go : ∀ h : Nat, FnD Z.Pg Z.w Z.K Z.mg Z.base CX0 (3 + h) f fd ["box", "depth"] (spT Z (T_law_document h)) := fun h => by
    induction h with
    | zero => exact fnD_vac fun as Q er h => vac_doc h
    | succ h ih => exact step_law_document F T D_law_take G_law_take D_law_text G_law_text D_law_pick G_law_pick D_law_document ih
  exact go 5
end
end Lw
set_option Elab.async false
set_option linter.all false
set_option maxRecDepth 100000
set_option maxHeartbeats 1000000
set_option pp.deepTerms true
set_option pp.maxSteps 200000
namespace Lw
open PySem PySem.Spec PyProof PyProof.Rows L2 So Da Dl
local macro_rules | `(tactic| walk_at "z") => `(tactic| repeat (first | refine ⟨(by decide), ?_⟩ | refine ⟨(by omega), ?_⟩ | refine ⟨rfl, ?_⟩))
section
variable {Z : Zw}
theorem so_el : PyData.strOk "element" = true := by decide +kernel
abbrev T_law_signs (n : Nat) : TD := T1 fun D Q _ => ∃ d, D = docD d ∧ hgt d < n ∧ (sigs d).length ≤ 100000 ∧ Q (.tuple ((sigs d).map sgD))
abbrev s_law_signs : Stmt := top 46
theorem sc_law_signs : FnScope ["document", "found", "node"] ["document"] (defScope s_law_signs) := ⟨rfl, rfl, rfl, by decide +kernel, rfl, by decide +kernel, by decide +kernel⟩
local macro_rules | `(tactic| walk_at "d") => `(tactic| simp only [↓dSeq, ↓dFor, ↓reprD, ↓dCallK, ↓dIfS, ↓dAndV, ↓dOrV, ↓dUn, ↓dOp, ↓dC, ↓dVar, ↓derefW, ↓deref, ↓known, ↓noOb, ↓nbO, ↓start0, ↓endsOf, ↓outA, ↓toB, ↓dAnd, ↓dOr, ↓dNot, ↓ofB, ↓dIf, ↓dChain, ↓dgName, ↓dgSeq, ↓dgCons, ↓dgNil, ↓dLc, ↓popW, ↓atOl, ↓isOl, ↓ownS, ↓frzD, ↓dCall, argsOf, argLc, obSlots, upS, upO, ↓noObs, ↓wipeD, List.map_cons, List.map_nil, List.length_cons, List.length_nil, Nat.sub_self, Nat.zero_add, Nat.reduceAdd, Nat.reduceSub, List.replicate, List.append_nil, List.cons_append, List.nil_append, List.getElem?_cons_zero, List.getElem?_cons_succ, List.getElem?_nil, List.set, List.head?, List.tail, Option.getD_some, Option.getD_none, List.nodup_nil, List.nodup_cons, List.not_mem_nil, List.mem_cons, List.mem_singleton, or_false, Nat.reduceEqDiff, true_and, and_true, Bool.not_true, Bool.not_false, if_true, Bool.false_eq_true, if_false, ite_true, ite_false, not_false_eq_true, reduceCtorEq, eqD_int, eqD_str, eqD_bl, eqD_tuple, eqD_list, eqD_tupleR, eqD_listR, eqD_non, neD_int, neD_str, neD_bl, neD_tuple, neD_list, neD_tupleR, neD_listR, neD_non, ↓isD, ↓notD, ix_0, ix_1, ix_2, ix_3, ix_4, ix_L0, ix_L1, ix_L2, itemsD_L, itemsD_T, tupleD_L, tupleD_T, listD_L, listD_T, lenD_L, lenD_T, lenD_S, slD_L, slD_T, addD_I, addD_S, addD_T, addD_L, subD_I, mulD_I, ltD_I, ltD_S, leD_I, gtD_I, geD_I, modD_I, fdivD_I, powD_I, intD_I, intD_B, negD_I, isND_N, isND_I, isND_S, isND_B, isND_T, isND_L, sq_T, sq_L, sq_N, sq_I, sq_S, sq_B, at_0, at_1, at_2, at_3, at_4, ↓isiD, pick, List.filterMap_cons_some, List.filterMap_nil, List.filterMap_cons, ↓ownC, ↓T1, ↓T2, ↓T3, ↓T4, ↓dHeard, ↓capsD, ↓slotsD, ↓lamW, lamSto, cpLc, ↓dHeardS, ↓dAsks, ↓asksW, ↓heardT, ↓Tbox, ↓Ttake, dForN, forNW, fnW, slSD, repD2, ↓intW, ix_ma0, ix_ma1, ix_ma2, ix_ma3, ix_inn0, ix_inn1, ix_inn2, ix_inn3, ix_top0, ix_top1, ix_top2, ix_top3, ix_top4, ↓T_law_pick, ↓T_law_text, ↓T_law_document])
theorem step_law_signs {f : Addr} {fd : FuncData} (F : Fun Z.K "_law_signs" "_law_signs" s_law_signs f fd) (T : Tz Z.K Z.mg) {hn : Nat}
    {f_law_signs : Addr} {fd_law_signs : FuncData} (D_law_signs : Df Z.K Z.mg "_law_signs" s_law_signs ["document"] f_law_signs fd_law_signs) (G_law_signs : FnD Z.Pg Z.w Z.K Z.mg Z.base CX0 (0 + hn) f_law_signs fd_law_signs ["document"] (spT Z (T_law_signs hn))) : FnD Z.Pg Z.w Z.K Z.mg Z.base CX0 (0 + hn + 1) f fd ["document"] (spT Z (T_law_signs (hn + 1))) := by
  refine okD F sc_law_signs (fun as Q er h => ?_) (fun cdv A outer s H E G0 ca hr hgd hca => (dss_cons (ds_set (i := 1) sc_law_signs.nd rfl (Or.inl rfl) (de_tup da_nil))
      (dss_cons (ds_for PassesOwn.never rfl (di_seq (de_var 0)) (dg_name (i := 2) sc_law_signs.nd rfl (Or.inl rfl))
        (dss_one (ds_if (dt_cmp (op_eqA hr.units) od_eq (dr_of (de_ix (dr_var 2) (dr_of de_int))) (dr_of de_str) (nomark _))
          (dss_one (ds_set (i := 1) sc_law_signs.nd rfl (Or.inl rfl) (de_op op_addA od_add (dr_var 1) (dr_of (de_tup (da_cons (de_var 2) da_nil))))))
          (dss_one (ds_set (i := 1) sc_law_signs.nd rfl (Or.inl rfl) (de_op op_addA od_add (dr_of (de_op op_addA od_add (dr_of (de_op op_addA od_add (dr_var 1) (dr_of (de_tup (da_cons (de_tup (da_cons de_str (da_cons (de_ix (dr_var 2) (dr_of de_int)) da_nil))) da_nil))))) (dr_of (de_call G_law_signs hr hgd (by rfl) D_law_signs.g D_law_signs.F.kp D_law_signs.b (drs_cons (dr_of (de_ix (dr_var 2) (dr_of de_int))) drs_nil))))) (dr_of (de_tup (da_cons (de_tup (da_cons de_str da_nil)) da_nil)))))))))
      (dss_one (ds_ret (de_var 1)))))) (fun ca as Q er h => ?_)
  · obtain ⟨_, rfl, _⟩ := t1_inv h
    rfl
  · obtain ⟨a, rfl, q⟩ := t1_inv h
    obtain ⟨d, rfl, hh, hl, q⟩ := q
    unfold docD
    walk_at "d"
    have b0 : 0 ≤ sizeLine := by decide
    have b1 : 1 ≤ sizeLine := by decide
    have b2 : 2 ≤ sizeLine := by decide
    have sz : ∀ {n : Nat}, n ≤ 100000 → n ≤ sizeLine := fun h => Nat.le_trans h (by decide)
    refine ⟨b0, forW_go (fun ds ρ => ∃ (d' : Doc) (acc : List Sg) (s2 : Lc), ds = items d' ∧ hgt d' < hn + 1 ∧ sigs d = acc ++ sigs d' ∧ nbO (some s2) ∧ ρ = [.sh (.tuple (items d)), .sh (.tuple (acc.map sgD)), s2]) ?_ ?_ _ _ ⟨d, [], .un, rfl, hh, rfl, trivial, rfl⟩⟩
    · rintro ρ ⟨d', acc, s2, e1, h1, e2, h2, rfl⟩
      cases d' with
      | tx z r => cases e1
      | el l c r => cases e1
      | nil =>
        rw [show sigs Doc.nil = [] from rfl, List.append_nil] at e2
        subst e2
        walk_at "d"
        exact q
    · rintro K x ds ρ ⟨d', acc, s2, e1, h1, e2, h2, rfl⟩ ih
      cases d' with
      | nil => cases e1
      | tx z r =>
        obtain ⟨rfl, rfl⟩ := List.cons.inj e1
        have la := congrArg List.length e2
        simp only [sigs, List.length_append, List.length_cons] at la
        have nx := ih _ ⟨r, acc ++ [.tx z], .sh (.tuple [.str "text", .str z]), rfl, h1, by rw [e2, List.append_assoc]; rfl, trivial, rfl⟩
        rw [List.map_append, List.map_cons, List.map_nil] at nx
        walk_at "d"
        simp only [decide_true, if_true]
        exact ⟨h2, b1, sz (by rw [List.length_map]; omega), nx⟩
      | el l c r =>
        obtain ⟨rfl, rfl⟩ := List.cons.inj e1
        have la := congrArg List.length e2
        simp only [sigs, List.length_append, List.length_cons] at la
        have hc : hgt c < hn ∧ hgt r < hn + 1 := by unfold hgt at h1; omega
        have nx := ih _ ⟨r, acc ++ .op l :: sigs c ++ [.cl], .sh (.tuple [.str "element", .str l, .tuple (items c)]), rfl, hc.2, by rw [e2]; simp [sigs], trivial, rfl⟩
        simp only [List.map_append, List.map_cons, List.map_nil] at nx
        walk_at "d"
        rw [s7, if_neg (by decide)]
        refine ⟨h2, b2, b1, sz (by rw [List.length_map]; omega), c, rfl, hc.1, by omega, sz (by simp only [List.length_append, List.length_map, List.length_singleton]; omega), b1, b1, sz (by simp only [List.length_append, List.length_map, List.length_singleton]; omega), ?_⟩
        simpa only [List.append_assoc, List.cons_append, List.nil_append, List.map_cons, List.map_append, sgD] using nx
theorem ok_law_signs {f : Addr} {fd : FuncData} (F : Fun Z.K "_law_signs" "_law_signs" s_law_signs f fd) (T : Tz Z.K Z.mg)
    (D_law_signs : Df Z.K Z.mg "_law_signs" s_law_signs ["document"] f fd) : FnD Z.Pg Z.w Z.K Z.mg Z.base CX0 125 f fd ["document"] (spT Z (T_law_signs 125)) := by
  have go : ∀ h : Nat, FnD Z.Pg Z.w Z.K Z.mg Z.base CX0 (0 + h) f fd ["document"] (spT Z (T_law_signs h)) := fun h => by
    induction h with
    | zero => exact fnD_vac fun as Q er h => by obtain ⟨D, rfl, d, _, hh, _⟩ := t1_inv h; exact absurd hh (Nat.not_lt_zero _)
    | succ h ih => exact step_law_signs F T D_law_signs ih
  exact go 125
/-- the same, of lists -/
def itemL : Doc → List PyData
  | .nil => []
  | .tx z r => .list [.str "text", .str z] :: itemL r
  | .el l c r => .list [.str "element", .str l, .list (itemL c)] :: itemL r
def cntD : Doc → Nat
  | .nil => 0
  | .tx _ r => 1 + cntD r
  | .el _ c r => 1 + cntD c + cntD r
theorem hgt_el {l : Str} {c r : Doc} : hgt (.el l c r) = max (hgt c + 1) (hgt r) := rfl
abbrev T_law_listed (n : Nat) : TD := T1 fun D Q _ => ∃ d, D = docD d ∧ hgt d < n ∧ cntD d ≤ 100000 ∧ Q (.list (itemL d))
abbrev T_law_count (n : Nat) : TD := T1 fun D Q _ => ∃ d, D = docD d ∧ hgt d < n ∧ cntD d ≤ 100000 ∧ Q (.int (cntD d : Nat))
abbrev T_law_height (n : Nat) : TD := T1 fun D Q _ => ∃ d, D = docD d ∧ hgt d < n ∧ cntD d ≤ 100000 ∧ Q (.int (hgt d : Nat))
mutual
/-- what _law_bent makes, and how many nodes it passed -/
def bnt (O : PyData) : Doc → Int → List PyData
  | .nil, _ => []
  | .tx z r, k => (if k = 0 then O else .tuple [.str "text", .str z]) :: bnt O r (k - 1)
  | .el l c r, k => if k = 0 then O :: bnt O r (k - 1) else if 0 < k then .list [.str "element", .str l, .list (bnt O c (k - 1))] :: bnt O r (k - mny c (k - 1) - 1) else .tuple [.str "element", .str l, .tuple (items c)] :: bnt O r (k - cntD c - 1)
def mny : Doc → Int → Int
  | .nil, _ => 0
  | .tx _ r, k => 1 + mny r (k - 1)
  | .el _ c r, k => if k = 0 then 1 + mny r (k - 1) else if 0 < k then mny c (k - 1) + 1 + mny r (k - mny c (k - 1) - 1) else cntD c + 1 + mny r (k - cntD c - 1)
end
abbrev T_law_bent (n : Nat) : TD := T3 fun D A O Q _ => ∃ d k, D = docD d ∧ A = .int k ∧ hgt d < n ∧ hgt d < 5 ∧ cntD d ≤ 100000 ∧ Q (.tuple [.list (bnt O d k), .int (mny d k)])
end
end Lw
set_option Elab.async false
set_option linter.all false
set_option maxRecDepth 100000
set_option maxHeartbeats 1000000
set_option pp.deepTerms true
set_option pp.maxSteps 200000
namespace Lw
open PySem PySem.Spec PyProof PyProof.Rows L2 So Da Dl
local macro_rules | `(tactic| walk_at "z") => `(tactic| repeat (first | refine ⟨(by decide), ?_⟩ | refine ⟨(by omega), ?_⟩ | refine ⟨rfl, ?_⟩))
section
variable {Z : Zw}
/-- reads as -/
def Rd : List PyData → Doc → Prop
  | [], .nil => True
  | d :: w, .tx z r => txN d = true ∧ e1D d = .str z ∧ Rd w r
  | d :: w, .el l c r => txN d = false ∧ elN d = true ∧ e1D d = .str l ∧ Rd (itD (e2D d)) c ∧ Rd w r
  | _, _ => False
/-- a row is read whole -/
theorem sg_row : ∀ (d : Doc) (w : List PyData), Rd w d → ∀ (n : Nat) (rs : List (List PyData)) (out : List PyData) (many : Nat), sgW (n + (sigs d).length) (w :: rs) out many = sgW n ([] :: rs) (out ++ (sigs d).map sgD) (many + cntD d) := by
  intro d
  induction d with
  | nil =>
    intro w h n rs out many
    cases w with
    | nil => simp [sigs, cntD]
    | cons x w => exact h.elim
  | tx z r ih =>
    intro w h n rs out many
    cases w with
    | nil => exact h.elim
    | cons x w =>
      obtain ⟨h1, h2, h3⟩ := h
      rw [show n + (sigs (.tx z r)).length = (n + (sigs r).length) + 1 by simp [sigs]; omega]
      rw [sgW, if_pos h1, h2, ih w h3]
      simp only [sigs, cntD, List.map_cons, List.append_assoc, List.singleton_append, sgD, Nat.add_assoc]
  | el l c r ihc ihr =>
    intro w h n rs out many
    cases w with
    | nil => exact h.elim
    | cons x w =>
      obtain ⟨h0, h1, h2, h3, h4⟩ := h
      rw [show n + (sigs (.el l c r)).length = ((n + (sigs r).length + 1) + (sigs c).length) + 1 by simp [sigs]; omega]
      rw [sgW, if_neg (by rw [h0]; decide), if_pos h1, h2, ihc _ h3]
      rw [sgW, ihr w h4]
      simp only [sigs, cntD, List.map_cons, List.map_append, List.append_assoc, List.singleton_append, List.cons_append, List.nil_append, sgD, clG, Nat.add_assoc]
theorem sg_all {d : Doc} {w : List PyData} (h : Rd w d) : sgW ((sigs d).length + 1) [w] [] 0 = some (.inr ((sigs d).map sgD)) := by
  rw [Nat.add_comm, sg_row d w h 1 [] [] 0, sgW]
  rfl
/-- the first value that is no node is number k -/
inductive Bd : Nat → List PyData → Nat → Prop
  | here {n : Nat} {d : PyData} {w : List PyData} : txN d = false → elN d = false → Bd (n + 1) (d :: w) 0
  | tx {n j : Nat} {d : PyData} {w : List PyData} : txN d = true → Bd n w j → Bd (n + 1) (d :: w) (j + 1)
  | inn {n j : Nat} {d : PyData} {w : List PyData} : txN d = false → elN d = true → Bd n (itD (e2D d)) j → Bd (n + 1) (d :: w) (j + 1)
  | past {n j : Nat} {c : Doc} {d : PyData} {w : List PyData} : txN d = false → elN d = true → Rd (itD (e2D d)) c → Bd n w j → Bd (n + 1 + (sigs c).length + 1) (d :: w) (cntD c + 1 + j)
theorem sg_bad {n : Nat} {w : List PyData} {k : Nat} (h : Bd n w k) : ∀ (rs : List (List PyData)) (out : List PyData) (many : Nat), sgW n (w :: rs) out many = some (.inl (many + k)) := by
  induction h with
  | here h1 h2 =>
    intro rs out many
    rw [sgW, if_neg (by rw [h1]; decide), if_neg (by rw [h2]; decide)]
    rfl
  | @tx n j d w h1 h2 ih =>
    intro rs out many
    rw [sgW, if_pos h1, ih, show many + 1 + j = many + (j + 1) by omega]
  | @inn n j d w h0 h1 h2 ih =>
    intro rs out many
    rw [sgW, if_neg (by rw [h0]; decide), if_pos h1, ih, show many + 1 + j = many + (j + 1) by omega]
  | @past n j c d w h0 h1 h2 h3 ih =>
    intro rs out many
    rw [sgW, if_neg (by rw [h0]; decide), if_pos h1, sg_row c _ h2, sgW, ih, show many + 1 + cntD c + j = many + (cntD c + 1 + j) by omega]
end
end Lw
set_option Elab.async false
set_option linter.all false
set_option maxRecDepth 100000
set_option maxHeartbeats 1000000
set_option pp.deepTerms true
set_option pp.maxSteps 200000
namespace Lw
open PySem PySem.Spec PyProof PyProof.Rows L2 So Da Dl
local macro_rules | `(tactic| walk_at "z") => `(tactic| repeat (first | refine ⟨(by decide), ?_⟩ | refine ⟨(by omega), ?_⟩ | refine ⟨rfl, ?_⟩))
section
variable {Z : Zw}
theorem s8 : isS (.str "element") "text" = false := by decide +kernel
theorem lab_law {l : Str} (h : LLb l) : isLab l = true ∧ l.length ≤ 12 ∧ PyData.strOk l = true := by
  rcases h with rfl | rfl | rfl | rfl <;> exact ⟨by decide +kernel, by decide, by decide +kernel⟩
theorem str_law {z : Str} (h : Pc CHR 8 z) : PyData.strOk z = true := by
  have lay : PyData.strOk CHR = true := by decide +kernel
  rw [so_of] at lay ⊢
  rw [List.all_eq_true] at lay ⊢
  exact fun c m => lay c (h.2 c m)
theorem txN_T {z : Str} (h : Pc CHR 8 z) : txN (.tuple [.str "text", .str z]) = true ∧ txN (.list [.str "text", .str z]) = true := by
  have l : txtB (.str z) = true := txt_of (by have := h.1; omega)
  constructor <;> simp [txN, isSq, itD, iS_tt, l]
theorem elN_T {l : Str} (h : LLb l) {x : PyData} (hx : isSq x = true) : (txN (.tuple [.str "element", .str l, x]) = false ∧ elN (.tuple [.str "element", .str l, x]) = true) ∧ txN (.list [.str "element", .str l, x]) = false ∧ elN (.list [.str "element", .str l, x]) = true := by
  have k := lab_of (lab_law h).1
  have e : isS (.str "element") "element" = true := by decide +kernel
  refine ⟨⟨rfl, ?_⟩, rfl, ?_⟩ <;> simp [elN, isSq, itD, e, k] <;> exact hx
theorem rd_items : ∀ (d : Doc) (n : Nat), DocL n d → Rd (items d) d ∧ Rd (itemL d) d := by
  intro d
  induction d with
  | nil => exact fun n _ => ⟨trivial, trivial⟩
  | tx z r ih =>
    intro n h
    obtain ⟨h1, h2⟩ := docL_tx.mp h
    obtain ⟨a, b⟩ := ih n h2
    exact ⟨⟨(txN_T h1).1, rfl, a⟩, ⟨(txN_T h1).2, rfl, b⟩⟩
  | el l c r ihc ihr =>
    intro n h
    cases n with
    | zero => exact h.elim
    | succ n =>
      obtain ⟨h1, h2, h3⟩ := h
      obtain ⟨a, b⟩ := ihc n h2.1
      obtain ⟨a2, b2⟩ := ihr _ h3
      obtain ⟨⟨e1, e2⟩, _⟩ := elN_T h1 (x := .tuple (items c)) rfl
      obtain ⟨_, e3, e4⟩ := elN_T h1 (x := .list (itemL c)) rfl
      exact ⟨⟨e1, e2, rfl, a, a2⟩, ⟨e3, e4, rfl, b, b2⟩⟩
theorem wid_itemL : ∀ d : Doc, (itemL d).length = wid d
  | .nil => rfl
  | .tx _ r => congrArg (· + 1) (wid_itemL r)
  | .el _ _ r => congrArg (· + 1) (wid_itemL r)
theorem wid_bnt {O : PyData} : ∀ (d : Doc) (k : Int), (bnt O d k).length = wid d
  | .nil, _ => rfl
  | .tx _ r, k => by
    simp only [bnt, List.length_cons, wid_bnt r]
    rfl
  | .el _ c r, k => by
    simp only [bnt]
    split
    · rw [List.length_cons, wid_bnt r]
      rfl
    split
    · rw [List.length_cons, wid_bnt r]
      rfl
    · rw [List.length_cons, wid_bnt r]
      rfl
theorem cnt_wid : ∀ (d : Doc) (n m : Nat), DocL n d → (∀ c, ∀ j, n = j + 1 → DocL j c → wid c ≤ 3 → cntD c ≤ m) → cntD d ≤ wid d * (1 + m) := by
  intro d
  induction d with
  | nil => exact fun _ _ _ _ => Nat.zero_le _
  | tx z r ih =>
    intro n m h k
    have := ih n m (docL_tx.mp h).2 k
    simp only [cntD, wid, Nat.succ_mul]
    omega
  | el l c r _ ih =>
    intro n m h k
    cases n with
    | zero => exact h.elim
    | succ n =>
      have := ih _ m h.2.2 k
      have := k c n rfl h.2.1.1 h.2.1.2
      simp only [cntD, wid, Nat.succ_mul]
      omega
theorem cnt_le : ∀ (n m : Nat), (∀ d, DocL n d → wid d ≤ 3 → cntD d ≤ m) → ∀ d, DocL (n + 1) d → wid d ≤ 3 → cntD d ≤ 3 * (1 + m) := fun n m h d hd hw =>
  Nat.le_trans (cnt_wid d (n + 1) m hd fun c j e hc => by cases e; exact h c hc) (Nat.mul_le_mul_right _ hw)
theorem cnt_3 : ∀ d, DocL 3 d → wid d ≤ 3 → cntD d ≤ 120 := by
  have h0 : ∀ d, DocL 0 d → wid d ≤ 3 → cntD d ≤ 3 := fun d hd hw => Nat.le_trans (cnt_wid d 0 0 hd fun c j e => by cases e) (by omega)
  exact cnt_le 2 39 (cnt_le 1 12 (cnt_le 0 3 h0))
theorem sig_len : ∀ d : Doc, (sigs d).length ≤ 2 * cntD d
  | .nil => Nat.le_refl _
  | .tx _ r => by
    have := sig_len r
    simp only [sigs, cntD, List.length_cons]
    omega
  | .el _ c r => by
    have := sig_len c
    have := sig_len r
    simp only [sigs, cntD, List.length_cons, List.length_append, List.cons_append]
    omega
theorem hgt_le : ∀ (d : Doc) (n : Nat), DocL n d → hgt d ≤ n
  | .nil, _, _ => Nat.zero_le _
  | .tx _ r, n, h => hgt_le r n (docL_tx.mp h).2
  | .el _ c r, 0, h => h.elim
  | .el _ c r, n + 1, h => by
    rw [hgt_el]
    have := hgt_le c n h.2.1.1
    have := hgt_le r (n + 1) h.2.2
    omega
theorem gl_str {z : Str} (l : z.length ≤ 12) (h : PyData.strOk z = true) : GL 0 12 (.str z) := by
  refine ⟨⟨rfl, rfl, Nat.le_refl _, ?_, ?_⟩, h⟩
  · exact PyData.leavesShort_of_canLay0 13 _ h rfl
  · simp only [PyData.weight]
    exact l
theorem okn_s {z : Str} (l : z.length ≤ 12) (h : PyData.strOk z = true) : OkN 0 (.str z) := okn_str (Nat.le_trans l (by decide)) h
def wV : Nat → Nat
  | 0 => 26
  | n + 1 => 3 * (3 * (wV n + 1) + 1)
theorem wV_pos : ∀ n, 26 ≤ wV n
  | 0 => Nat.le_refl _
  | n + 1 => by
    have := wV_pos n
    unfold wV
    omega
theorem ok_items : ∀ (d : Doc) (n : Nat), DocL n d → (∀ x ∈ items d, OkN (1 + 2 * n) x ∧ GL (1 + 2 * n) (wV n) x) ∧ (∀ x ∈ itemL d, OkN (1 + 2 * n) x ∧ GL (1 + 2 * n) (wV n) x) ∧ ∀ O, OkN 4 O → ∀ k, ∀ x ∈ bnt O d k, OkN (4 + 2 * n) x := by
  have sT : PyData.strOk "text" = true := by decide +kernel
  intro d
  induction d with
  | nil => exact fun n _ => ⟨(fun _ m => nomatch m), (fun _ m => nomatch m), fun _ _ _ _ m => nomatch m⟩
  | tx z r ih =>
    intro n h
    obtain ⟨h1, h2⟩ := docL_tx.mp h
    obtain ⟨a, b, c⟩ := ih n h2
    have so := str_law h1
    have l8 : z.length ≤ 12 := Nat.le_trans h1.1 (by decide)
    have t1 : OkN 1 (.tuple [.str "text", .str z]) := okn_T (all_c (p := OkN 0) (okn_s (z := "text") (by decide) sT) (all_1 (okn_s l8 so))) (by show 2 ≤ 100000; decide)
    have t2 : OkN 1 (.list [.str "text", .str z]) := okn_L (all_c (p := OkN 0) (okn_s (z := "text") (by decide) sT) (all_1 (okn_s l8 so))) (by show 2 ≤ 100000; decide)
    have g1 : GL 1 26 (.tuple [.str "text", .str z]) := gl_tup (h := 0) (W := 12) 2 (gl_allc (gl_str (z := "text") (by decide) sT) (gl_all1 (gl_str l8 so))) (Nat.le_refl 2)
    have g2 : GL 1 26 (.list [.str "text", .str z]) := gl_lst (h := 0) (W := 12) 2 (gl_allc (gl_str (z := "text") (by decide) sT) (gl_all1 (gl_str l8 so))) (Nat.le_refl 2)
    refine ⟨fun x m => ?_, fun x m => ?_, fun O ho k x m => ?_⟩
    · rcases List.mem_cons.mp m with rfl | m
      · exact ⟨t1.mono (by omega), gl_mono g1 (by omega) (wV_pos n)⟩
      · exact a x m
    · rcases List.mem_cons.mp m with rfl | m
      · exact ⟨t2.mono (by omega), gl_mono g2 (by omega) (wV_pos n)⟩
      · exact b x m
    · simp only [bnt] at m
      rcases List.mem_cons.mp m with e | m
      · rw [e]
        split
        · exact ho.mono (by omega)
        · exact t1.mono (by omega)
      · exact c O ho _ x m
  | el l c r ihc ihr =>
    intro n h
    cases n with
    | zero => exact h.elim
    | succ n =>
      obtain ⟨h1, h2, h3⟩ := h
      obtain ⟨a, b, e⟩ := ihc n h2.1
      obtain ⟨a2, b2, e2⟩ := ihr _ h3
      obtain ⟨_, l12, so⟩ := lab_law h1
      have lc : (items c).length ≤ 3 := by rw [wid_items]; exact h2.2
      have lc2 : (itemL c).length ≤ 3 := by rw [wid_itemL]; exact h2.2
      have el := okn_s (z := "element") (by decide) so_el
      have ls := okn_s l12 so
      have b5 : ∀ {n : Nat}, n ≤ 3 → n ≤ 100000 := fun h => Nat.le_trans h (by decide)
      have t1 : OkN (1 + 2 * (n + 1)) (.tuple [.str "element", .str l, .tuple (items c)]) := okn_T (n := 2 + 2 * n) (all_c (el.mono (by omega)) (all_c (ls.mono (by omega)) (all_1 ((okn_T (fun x m => (a x m).1) (b5 lc)).mono (by omega))))) (by show 3 ≤ 100000; decide) |>.mono (by omega)
      have t2 : OkN (1 + 2 * (n + 1)) (.list [.str "element", .str l, .list (itemL c)]) := okn_L (n := 2 + 2 * n) (all_c (el.mono (by omega)) (all_c (ls.mono (by omega)) (all_1 ((okn_L (fun x m => (b x m).1) (b5 lc2)).mono (by omega))))) (by show 3 ≤ 100000; decide) |>.mono (by omega)
      have w1 := wV_pos n
      have g1 : GL (1 + 2 * (n + 1)) (wV (n + 1)) (.tuple [.str "element", .str l, .tuple (items c)]) := gl_mono (gl_tup (h := 2 + 2 * n) (W := 3 * (wV n + 1)) 3 (gl_allc (gl_mono (gl_str (z := "element") (by decide) so_el) (by omega) (by omega)) (gl_allc (gl_mono (gl_str l12 so) (by omega) (by omega)) (gl_all1 (gl_mono (gl_tup 3 (fun x m => (a x m).2) lc) (by omega) (by omega))))) (Nat.le_refl 3)) (by omega) (Nat.le_refl _)
      have g2 : GL (1 + 2 * (n + 1)) (wV (n + 1)) (.list [.str "element", .str l, .list (itemL c)]) := gl_mono (gl_lst (h := 2 + 2 * n) (W := 3 * (wV n + 1)) 3 (gl_allc (gl_mono (gl_str (z := "element") (by decide) so_el) (by omega) (by omega)) (gl_allc (gl_mono (gl_str l12 so) (by omega) (by omega)) (gl_all1 (gl_mono (gl_lst 3 (fun x m => (b x m).2) lc2) (by omega) (by omega))))) (Nat.le_refl 3)) (by omega) (Nat.le_refl _)
      refine ⟨fun x m => ?_, fun x m => ?_, fun O ho k x m => ?_⟩
      · rcases List.mem_cons.mp m with rfl | m
        · exact ⟨t1, g1⟩
        · exact a2 x m
      · rcases List.mem_cons.mp m with rfl | m
        · exact ⟨t2, g2⟩
        · exact b2 x m
      · simp only [bnt] at m
        split at m
        · rcases List.mem_cons.mp m with e0 | m
          · rw [e0]
            exact ho.mono (by omega)
          · exact e2 O ho _ x m
        split at m
        · rcases List.mem_cons.mp m with e0 | m
          · rw [e0]
            exact (okn_L (n := 5 + 2 * n) (all_c (el.mono (by omega)) (all_c (ls.mono (by omega)) (all_1 ((okn_L (e O ho _) (by rw [wid_bnt]; exact b5 h2.2)).mono (by omega))))) (by show 3 ≤ 100000; decide)).mono (by omega)
          · exact e2 O ho _ x m
        · rcases List.mem_cons.mp m with e0 | m
          · rw [e0]
            exact t1.mono (by omega)
          · exact e2 O ho _ x m
end
end Lw
set_option Elab.async false
set_option linter.all false
set_option maxRecDepth 100000
set_option maxHeartbeats 1000000
set_option pp.deepTerms true
set_option pp.maxSteps 200000
namespace Lw
open PySem PySem.Spec PyProof PyProof.Rows L2 So Da Dl
local macro_rules | `(tactic| walk_at "z") => `(tactic| repeat (first | refine ⟨(by decide), ?_⟩ | refine ⟨(by omega), ?_⟩ | refine ⟨rfl, ?_⟩))
section
variable {Z : Zw}
def Lv : List Sg → Int → Int → Prop
  | [], a, b => a = b
  | s :: ss, a, b => 0 ≤ a + stpS s ∧ Lv ss (a + stpS s) b
theorem stp_sg (s : Sg) : stpD (sgD s) = stpS s := by
  unfold stpD
  rw [(sgOf_D s).1]
  cases s <;> rfl
theorem lvl_lvG : ∀ {xs : List PyData} {a b : Int} {i : Nat} {r : List PyData}, Lv (xs.map sgOf) a b → (∀ x ∈ xs, sgnB x = true) → lvl (xs ++ r) i a = lvl r (i + xs.length) b
  | [], a, b, i, r, h, _ => by
    cases (show a = b from h)
    rfl
  | x :: xs, a, b, i, r, h, ok => by
    have e : stpD x = stpS (sgOf x) := by
      unfold stpD
      cases sgOf x <;> rfl
    have h : 0 ≤ a + stpS (sgOf x) ∧ Lv (xs.map sgOf) (a + stpS (sgOf x)) b := h
    rw [List.cons_append, lvl, if_neg (by rw [ok x List.mem_cons_self]; decide), e, if_neg (by have := h.1; omega), lvl_lvG h.2 fun x m => ok x (List.mem_cons_of_mem _ m), List.length_cons, show i + 1 + xs.length = i + (xs.length + 1) by omega]
theorem lv_app : ∀ {s1 s2 : List Sg} {a b : Int}, Lv (s1 ++ s2) a b ↔ ∃ m, Lv s1 a m ∧ Lv s2 m b
  | [], s2, a, b => ⟨fun h => ⟨a, rfl, h⟩, fun ⟨m, e, h⟩ => by cases (show a = m from e); exact h⟩
  | s :: s1, s2, a, b => ⟨fun ⟨h1, h2⟩ => by
    obtain ⟨m, h3, h4⟩ := lv_app.mp h2
    exact ⟨m, ⟨h1, h3⟩, h4⟩, fun ⟨m, ⟨h1, h3⟩, h4⟩ => ⟨h1, lv_app.mpr ⟨m, h3, h4⟩⟩⟩
theorem lv_sigs : ∀ (d : Doc) (a : Int), 0 ≤ a → Lv (sigs d) a a
  | .nil, a, _ => rfl
  | .tx z r, a, h => ⟨by show 0 ≤ a + 0; omega, by show Lv (sigs r) (a + 0) a; rw [Int.add_zero]; exact lv_sigs r a h⟩
  | .el l c r, a, h => ⟨by show 0 ≤ a + 1; omega, lv_app.mpr ⟨a + 1, lv_sigs c (a + 1) (by omega), by show 0 ≤ a + 1 + -1; omega, by show Lv (sigs r) (a + 1 + -1) a; rw [show a + 1 + -1 = a by omega]; exact lv_sigs r a h⟩⟩
/-- what ends at the outmost level is read as a document -/
theorem lv_rst : ∀ {ss : List Sg} {k : Nat}, Lv ss k 0 → ∃ ds : List Doc, ds.length = k + 1 ∧ ss = rstS ds
  | [], k, h => by
    have : (k : Int) = 0 := h
    have : k = 0 := by omega
    subst this
    exact ⟨[.nil], rfl, rfl⟩
  | .tx z :: ss, k, h => by
    have h2 : Lv ss (k + 0) 0 := h.2
    rw [Int.add_zero] at h2
    obtain ⟨ds, e, rfl⟩ := lv_rst h2
    cases ds with
    | nil => cases e
    | cons d ds => exact ⟨.tx z d :: ds, e, rst_tx.symm⟩
  | .op l :: ss, k, h => by
    have h2 : Lv ss ((k + 1 : Nat) : Int) 0 := h.2
    obtain ⟨ds, e, rfl⟩ := lv_rst h2
    cases ds with
    | nil => cases e
    | cons c ds =>
      cases ds with
      | nil => simp at e
      | cons r ds => exact ⟨.el l c r :: ds, by simpa using e, rst_el.symm⟩
  | .cl :: ss, k, h => by
    have h1 : 0 ≤ (k : Int) + -1 := h.1
    cases k with
    | zero => exact absurd h1 (by decide)
    | succ k =>
      have h2 : Lv ss (((k + 1 : Nat) : Int) + -1) 0 := h.2
      rw [show ((k + 1 : Nat) : Int) + -1 = (k : Nat) by omega] at h2
      obtain ⟨ds, e, rfl⟩ := lv_rst h2
      cases ds with
      | nil => cases e
      | cons d ds => exact ⟨.nil :: d :: ds, by rw [List.length_cons, e], rfl⟩
theorem lv_doc {ss : List Sg} (h : Lv ss 0 0) : ∃ d, ss = sigs d := by
  obtain ⟨ds, e, rfl⟩ := lv_rst (k := 0) h
  cases ds with
  | nil => cases e
  | cons d ds =>
    cases ds with
    | nil => exact ⟨d, rfl⟩
    | cons _ _ => simp at e
def isOp : Sg → Bool
  | .op _ => true
  | _ => false
def isCs : Sg → Bool
  | .cl => true
  | _ => false
theorem lv_cnt : ∀ {ss : List Sg} {a b : Int}, Lv ss a b → b = a + (ss.filter isOp).length - (ss.filter isCs).length
  | [], a, b, h => by
    cases (show a = b from h)
    simp
  | .op l :: ss, a, b, h => by
    have := lv_cnt h.2
    have e1 : ((Sg.op l :: ss).filter isOp).length = (ss.filter isOp).length + 1 := rfl
    have e2 : ((Sg.op l :: ss).filter isCs).length = (ss.filter isCs).length := rfl
    rw [e1, e2, this]
    show a + 1 + _ - _ = _
    omega
  | .cl :: ss, a, b, h => by
    have := lv_cnt h.2
    have e1 : ((Sg.cl :: ss).filter isOp).length = (ss.filter isOp).length := rfl
    have e2 : ((Sg.cl :: ss).filter isCs).length = (ss.filter isCs).length + 1 := rfl
    rw [e1, e2, this]
    show a + -1 + _ - _ = _
    omega
  | .tx l :: ss, a, b, h => by
    have := lv_cnt h.2
    have e1 : ((Sg.tx l :: ss).filter isOp).length = (ss.filter isOp).length := rfl
    have e2 : ((Sg.tx l :: ss).filter isCs).length = (ss.filter isCs).length := rfl
    rw [e1, e2, this]
    show a + 0 + _ - _ = _
    omega
theorem sgIn_of {F : Addr} {V : PyData} {d : Doc} {k : List PyData → Prop} {er : EK} (hs : isSq V = true) (rd : Rd (itD V) d) (l : (sigs d).length ≤ 1000) (h : k ((sigs d).map sgD)) : SgIn F V k er := .inr ⟨hs, _, _, by omega, sg_all rd, (fun _ z => nomatch z), fun ss e => by cases e; exact h⟩
theorem sgIn_bad {F : Addr} {V : PyData} {n k : Nat} {q : List PyData → Prop} {er : EK} (hs : isSq V = true) (b : Bd n (itD V) k) (l : n ≤ 1000) (h : er (F, .int (k : Nat))) : SgIn F V q er := .inr ⟨hs, _, _, by omega, sg_bad b [] [] 0, (fun i e => by
  cases e
  rw [Nat.zero_add]
  exact h), fun ss e => nomatch e⟩
theorem lvIn_of {W : Addr} {V : PyData} {b : Int} {k : Int → Prop} {er : EK} (hs : isSq V = true) (ok : ∀ x ∈ itD V, sgnB x = true) (lv : Lv ((itD V).map sgOf) 0 b) (h : k b) : LvIn W V 0 k er := .inr ⟨hs, .inr ⟨b, by
  have := lvl_lvG (i := 0) (r := []) lv ok
  rw [List.append_nil] at this
  rw [this]
  rfl, h⟩⟩
theorem map_sgD {ss : List Sg} : (ss.map sgD).map sgOf = ss := by
  rw [List.map_map]
  exact (List.map_congr_left fun s _ => (sgOf_D s).1).trans (List.map_id' ss)
theorem map_sgL {ss : List Sg} : (ss.map sgL).map sgOf = ss := by
  rw [List.map_map]
  exact (List.map_congr_left fun s _ => (sgOf_D s).2).trans (List.map_id' ss)
theorem ok_sigs : ∀ (d : Doc) (n : Nat), DocL n d → ∀ s ∈ sigs d, s.ok ∧ OkN 1 (sgD s) ∧ OkN 1 (sgL s) ∧ GL 1 26 (sgD s) := by
  have sT : PyData.strOk "text" = true := by decide +kernel
  have sO : PyData.strOk "open" = true := by decide +kernel
  have sC : PyData.strOk "close" = true := by decide +kernel
  have k2 : ∀ {x y : Str}, x.length ≤ 12 → y.length ≤ 12 → PyData.strOk x = true → PyData.strOk y = true → OkN 1 (.tuple [.str x, .str y]) ∧ OkN 1 (.list [.str x, .str y]) ∧ GL 1 26 (.tuple [.str x, .str y]) := fun a b c e => ⟨okn_T (all_c (p := OkN 0) (okn_s a c) (all_1 (okn_s b e))) (by show 2 ≤ 100000; decide), okn_L (all_c (p := OkN 0) (okn_s a c) (all_1 (okn_s b e))) (by show 2 ≤ 100000; decide), gl_tup (h := 0) (W := 12) 2 (gl_allc (gl_str a c) (gl_all1 (gl_str b e))) (Nat.le_refl 2)⟩
  intro d
  induction d with
  | nil => exact fun _ _ _ m => nomatch m
  | tx z r ih =>
    intro n h s m
    obtain ⟨h1, h2⟩ := docL_tx.mp h
    rcases List.mem_cons.mp m with rfl | m
    · exact ⟨by show z.length ≤ 65535; have := h1.1; omega, k2 (x := "text") (by decide) (Nat.le_trans h1.1 (by decide)) sT (str_law h1)⟩
    · exact ih n h2 s m
  | el l c r ihc ihr =>
    intro n h s m
    cases n with
    | zero => exact h.elim
    | succ n =>
      obtain ⟨h1, h2, h3⟩ := h
      obtain ⟨q1, q2, q3⟩ := lab_law h1
      rcases List.mem_cons.mp m with rfl | m
      · exact ⟨q1, k2 (x := "open") (by decide) q2 sO q3⟩
      rcases List.mem_append.mp m with m | m
      · exact ihc n h2.1 s m
      rcases List.mem_cons.mp m with rfl | m
      · exact ⟨trivial, okn_T (all_1 (p := OkN 0) (okn_s (z := "close") (by decide) sC)) (by show 1 ≤ 100000; decide), okn_L (all_1 (p := OkN 0) (okn_s (z := "close") (by decide) sC)) (by show 1 ≤ 100000; decide), gl_mono (gl_tup (h := 0) (W := 12) 1 (gl_all1 (gl_str (z := "close") (by decide) sC)) (Nat.le_refl 1)) (by decide) (by decide)⟩
      · exact ihr _ h3 s m
end
end Lw
set_option Elab.async false
set_option linter.all false
set_option maxRecDepth 100000
set_option maxHeartbeats 1000000
set_option pp.deepTerms true
set_option pp.maxSteps 200000
namespace Lw
open PySem PySem.Spec PyProof PyProof.Rows L2 So Da Dl
local macro_rules | `(tactic| walk_at "z") => `(tactic| repeat (first | refine ⟨(by decide), ?_⟩ | refine ⟨(by omega), ?_⟩ | refine ⟨rfl, ?_⟩))
section
variable {Z : Zw}
def lB (c : Nat) : Bool := decide (c ∈ lets.cps.toList)
def S (l : List Nat) : Str := ⟨l.toArray⟩
theorem S_cps {l : List Nat} : (S l).cps.toList = l := rfl
theorem S_of {z : Str} : S z.cps.toList = z := rfl
theorem S_len {l : List Nat} : (S l).length = l.length := rfl
theorem cps_app {a b : Str} : (a ++ b).cps.toList = a.cps.toList ++ b.cps.toList := Array.toList_append
theorem len_app {a b : Str} : (a ++ b).length = a.length + b.length := by
  show (a ++ b).cps.toList.length = a.cps.toList.length + b.cps.toList.length
  rw [cps_app, List.length_append]
theorem str_ext {a b : Str} (h : a.cps.toList = b.cps.toList) : a = b := by
  rw [← S_of (z := a), h]
  rfl
theorem S_app {a b : List Nat} : S a ++ S b = S (a ++ b) := str_ext (by rw [cps_app]; rfl)
/-- how many letters from here, told to twelve -/
def lrun : List Nat → Nat → Nat
  | [], k => k
  | c :: r, k => if lB c = true ∧ k < 12 then lrun r (k + 1) else k
theorem lrun_le : ∀ (l : List Nat) (k : Nat), k ≤ lrun l k ∧ lrun l k ≤ k + l.length
  | [], k => ⟨Nat.le_refl _, Nat.le_refl _⟩
  | c :: r, k => by
    have := lrun_le r (k + 1)
    unfold lrun
    rw [List.length_cons]
    split <;> omega
theorem ix_ch {z : Str} {j : Nat} {c : Nat} {r : List Nat} {Q : PyData → Prop} (e : z.cps.toList.drop j = c :: r) (l : z.length ≤ 100000) (h : Q (.str ⟨#[c]⟩)) : ixD (.str z) (.int (j : Nat)) Q := by
  have e2 : atI z.cps.toList ((j : Nat) : Int) = some c := atI_nat (by rw [← List.head?_drop, e]; rfl)
  unfold ixD
  simp only [e2]
  exact ⟨Nat.le_trans l (by decide), h⟩
theorem drop_nx {l : List Nat} {j : Nat} {c : Nat} {r : List Nat} (e : l.drop j = c :: r) : j < l.length ∧ l.drop (j + 1) = r := by
  constructor
  · rcases Nat.lt_or_ge j l.length with h | h
    · exact h
    · rw [List.drop_of_length_le h] at e
      cases e
  · rw [← List.drop_drop, e]
    rfl
theorem drop_nil {l : List Nat} {j : Nat} (h : j ≤ l.length) (e : l.drop j = []) : j = l.length := by
  have := congrArg List.length e
  rw [List.length_drop, List.length_nil] at this
  omega
abbrev T_behind_letters : TD := T2 fun D n Q _ => ∃ (z : Str) (a : Nat), D = .str z ∧ n = .int (a : Nat) ∧ a ≤ z.length ∧ z.length ≤ 60000 ∧ Q (.int ((a + lrun (z.cps.toList.drop a) 0 : Nat) : Int))
abbrev s_behind_letters : Stmt := top 12
theorem sc_behind_letters : FnScope ["text", "first", "behind"] ["text", "first"] (defScope s_behind_letters) := ⟨rfl, rfl, rfl, by decide +kernel, rfl, by decide +kernel, by decide +kernel⟩
local macro_rules | `(tactic| walk_at "d") => `(tactic| simp only [↓dSeq, ↓dFor, ↓reprD, ↓dCallK, ↓dIfS, ↓dAndV, ↓dOrV, ↓dUn, ↓dOp, ↓dC, ↓dVar, ↓derefW, ↓deref, ↓known, ↓noOb, ↓nbO, ↓start0, ↓endsOf, ↓outA, ↓toB, ↓dAnd, ↓dOr, ↓dNot, ↓ofB, ↓dIf, ↓dChain, ↓dgName, ↓dgSeq, ↓dgCons, ↓dgNil, ↓dLc, ↓popW, ↓atOl, ↓isOl, ↓ownS, ↓frzD, ↓dCall, argsOf, argLc, obSlots, upS, upO, ↓noObs, ↓wipeD, List.map_cons, List.map_nil, List.length_cons, List.length_nil, Nat.sub_self, Nat.zero_add, Nat.reduceAdd, Nat.reduceSub, List.replicate, List.append_nil, List.cons_append, List.nil_append, List.getElem?_cons_zero, List.getElem?_cons_succ, List.getElem?_nil, List.set, List.head?, List.tail, Option.getD_some, Option.getD_none, List.nodup_nil, List.nodup_cons, List.not_mem_nil, List.mem_cons, List.mem_singleton, or_false, Nat.reduceEqDiff, true_and, and_true, Bool.not_true, Bool.not_false, if_true, Bool.false_eq_true, if_false, ite_true, ite_false, not_false_eq_true, reduceCtorEq, eqD_int, eqD_str, eqD_bl, eqD_tuple, eqD_list, eqD_tupleR, eqD_listR, eqD_non, neD_int, neD_str, neD_bl, neD_tuple, neD_list, neD_tupleR, neD_listR, neD_non, ↓isD, ↓notD, ix_0, ix_1, ix_2, ix_3, ix_4, ix_L0, ix_L1, ix_L2, itemsD_L, itemsD_T, tupleD_L, tupleD_T, listD_L, listD_T, lenD_L, lenD_T, lenD_S, slD_L, slD_T, addD_I, addD_S, addD_T, addD_L, subD_I, mulD_I, ltD_I, ltD_S, leD_I, gtD_I, geD_I, modD_I, fdivD_I, powD_I, intD_I, intD_B, negD_I, isND_N, isND_I, isND_S, isND_B, isND_T, isND_L, sq_T, sq_L, sq_N, sq_I, sq_S, sq_B, at_0, at_1, at_2, at_3, at_4, ↓isiD, pick, List.filterMap_cons_some, List.filterMap_nil, List.filterMap_cons, ↓ownC, ↓T1, ↓T2, ↓T3, ↓T4, ↓dHeard, ↓capsD, ↓slotsD, ↓lamW, lamSto, cpLc, ↓dHeardS, ↓dAsks, ↓asksW, ↓heardT, ↓Tbox, ↓Ttake, dForN, forNW, fnW, slSD, repD2, ↓intW, ix_ma0, ix_ma1, ix_ma2, ix_ma3, ix_inn0, ix_inn1, ix_inn2, ix_inn3, ix_top0, ix_top1, ix_top2, ix_top3, ix_top4, ↓T_law_pick, ↓T_law_text, ↓T_law_document])
theorem ok_behind_letters {f : Addr} {fd : FuncData} (F : Fun Z.K "behind_letters" "behind_letters" s_behind_letters f fd) (T : Tz Z.K Z.mg) : FnD Z.Pg Z.w Z.K Z.mg Z.base CX0 1 f fd ["text", "first"] (spT Z (T_behind_letters)) := by
  refine okD F sc_behind_letters (fun as Q er h => ?_) (fun cdv A outer s H E G0 ca hr hgd hca => (dss_cons (ds_set (i := 2) sc_behind_letters.nd rfl (Or.inl rfl) (de_var 1))
      (dss_cons (ds_while PassesOwn.never (DW.dt (dw_and (dt_cmp op_ltA od_lt (dr_var 2) (dr_of (de_callB call_lenA cd_len (by rfl) T.len (by decide +kernel) (dr_var 0))) (nomark _)) (dw_and (dt_cmp op_in_sign od_inS (dr_of (de_ix (dr_var 0) (dr_var 2))) (dr_of (de_gStr (i := "abcdefghijklmnopqrstuvwxyz") (by rfl) T.c_LETTERS)) rfl) (dw_and1 (dt_cmp op_ltA od_lt (dr_of (de_op op_sub od_sub (dr_var 2) (dr_var 1))) (dr_of (de_gInt (i := 12) (by rfl) T.c_LABEL_MOST)) (nomark _))))))
        (dss_one (ds_aug (ps_aug (i := 2) sc_behind_letters.nd rfl (Or.inl rfl) de_int ip_add))))
      (dss_one (ds_ret (de_var 2)))))) (fun ca as Q er h => ?_)
  · obtain ⟨_, _, rfl, _⟩ := t2_inv h
    rfl
  · obtain ⟨a, b, rfl, q⟩ := t2_inv h
    obtain ⟨z, a, rfl, rfl, ha, hz, q⟩ := q
    walk_at "d"
    refine ⟨fun m ρ => ∃ j : Nat, lrun (z.cps.toList.drop j) (j - a) = lrun (z.cps.toList.drop a) 0 ∧ a ≤ j ∧ j ≤ z.length ∧ m = z.length - j ∧ ρ = [.sh (.str z), .sh (.int (a : Nat)), .sh (.int (j : Nat))], ⟨_, a, by rw [Nat.sub_self], Nat.le_refl _, ha, rfl, rfl⟩, ?_⟩
    rintro m ρ ⟨j, e1, h1, h2, e2, rfl⟩
    walk_at "d"
    refine ⟨Nat.le_trans hz (by decide), ?_⟩
    have out : lrun (z.cps.toList.drop j) (j - a) = j - a → Q (.int ((j : Nat) : Int)) [.sh (.str z), .sh (.int (a : Nat))] := fun e => by
      rw [← e1, e, show a + (j - a) = j by omega] at q
      exact q
    cases e : z.cps.toList.drop j with
    | nil =>
      have := drop_nil h2 e
      rw [if_neg (by rw [str_len, ← this]; simp)]
      exact out (by rw [e]; rfl)
    | cons c r =>
      obtain ⟨hj, er⟩ := drop_nx e
      have hj : j < z.length := hj
      rw [if_pos (by rw [decide_eq_true_iff]; omega)]
      refine ix_ch e (by omega) ⟨c, rfl, ?_⟩
      simp only [Bool.false_eq_true, if_false]
      have eB : decide (c ∈ (Str.ofString "abcdefghijklmnopqrstuvwxyz").cps.toList) = lB c := rfl
      rw [eB]
      by_cases hb : lB c = true
      · rw [if_pos hb]
        by_cases hk : j - a < 12
        · rw [if_pos (by rw [decide_eq_true_iff]; omega)]
          refine ⟨z.length - (j + 1), by omega, j + 1, ?_, by omega, by omega, rfl, rfl⟩
          rw [← e1, e, er]
          conv => rhs; unfold lrun
          rw [if_pos ⟨hb, hk⟩, show j + 1 - a = j - a + 1 by omega]
        · rw [if_neg (by rw [decide_eq_true_iff]; omega)]
          exact out (by rw [e]; unfold lrun; rw [if_neg (fun h => hk h.2)])
      · rw [if_neg hb]
        exact out (by rw [e]; unfold lrun; rw [if_neg (fun h => hb h.1)])
/-- quoted -/
def esc (l : List Nat) : List Nat := l.flatMap fun c => if c = 92 ∨ c = 34 then [92, c] else [c]
def quo (z : Str) : Str := S (34 :: esc z.cps.toList ++ [34])
theorem rep1 {z : Str} {c : Nat} {y : List Nat} : (Txt.replace z (S [c]) (S y)).cps.toList = z.cps.toList.flatMap fun d => if d = c then y else [d] := by
  rw [PySem.StrLaws.replace_list (show 1 ≤ (S [c]).length from Nat.le_refl 1)]
  show PySem.StrLaws.replL [c] y z.cps.toList = _
  generalize z.cps.toList = l
  induction l with
  | nil => rfl
  | cons d r ih =>
    rw [List.flatMap_cons, ← ih]
    by_cases e : d = c
    · rw [if_pos e, PySem.StrLaws.replL_hit (by simp) (by simp [e])]
      rfl
    · rw [if_neg e, PySem.StrLaws.replL_miss (by simpa using e)]
      rfl
theorem esc_rep : ∀ l : List Nat, ((l.flatMap fun d => if d = 92 then [92, 92] else [d]).flatMap fun d => if d = 34 then [92, 34] else [d]) = esc l
  | [] => rfl
  | c :: r => by
    rw [List.flatMap_cons, List.flatMap_append, esc_rep r]
    unfold esc
    rw [List.flatMap_cons]
    congr 1
    by_cases e : c = 92
    · subst e
      rfl
    · by_cases e2 : c = 34
      · subst e2
        rfl
      · simp [e, e2]
theorem quo_rep (z : Str) : Str.ofString "\"" ++ Txt.replace (Txt.replace z (Str.ofString "\\") (Str.ofString "\\\\")) (Str.ofString "\"") (Str.ofString "\\\"") ++ Str.ofString "\"" = quo z := by
  apply str_ext
  rw [cps_app, cps_app, show Str.ofString "\"" = S [34] from by decide +kernel, show Str.ofString "\\\"" = S [92, 34] from by decide +kernel, show Str.ofString "\\" = S [92] from by decide +kernel, show Str.ofString "\\\\" = S [92, 92] from by decide +kernel, rep1, rep1, esc_rep]
  rfl
abbrev T_quoted : TD := T1 fun D Q _ => ∃ z : Str, D = .str z ∧ z.length ≤ 60000 ∧ Q (.str (quo z))
abbrev s_quoted : Stmt := top 29
theorem sc_quoted : FnScope ["text"] ["text"] (defScope s_quoted) := ⟨rfl, rfl, rfl, by decide +kernel, rfl, by decide +kernel, by decide +kernel⟩
theorem ok_quoted {f : Addr} {fd : FuncData} (F : Fun Z.K "_quoted" "_quoted" s_quoted f fd) (T : Tz Z.K Z.mg) : FnD Z.Pg Z.w Z.K Z.mg Z.base CX0 1 f fd ["text"] (spT Z (T_quoted)) := by
  refine okD F sc_quoted (fun as Q er h => ?_) (fun cdv A outer s H E G0 ca hr hgd hca => (dss_one (ds_ret (de_op op_addA od_add (dr_of (de_rep2 (de_var 0))) (dr_of de_str))))) (fun ca as Q er h => ?_)
  · obtain ⟨_, rfl, _⟩ := t1_inv h
    rfl
  · obtain ⟨a, rfl, q⟩ := t1_inv h
    obtain ⟨z, rfl, hz, q⟩ := q
    walk_at "d"
    have e := quo_rep z
    have b3 := TK.replace_len z (Str.ofString "\\") (Str.ofString "\\\\")
    have b4 := TK.replace_len (Txt.replace z (Str.ofString "\\") (Str.ofString "\\\\")) (Str.ofString "\"") (Str.ofString "\\\"")
    rw [show (Str.ofString "\\\\").length = 2 from rfl] at *
    rw [show (Str.ofString "\\\"").length = 2 from rfl] at *
    have sl : 16777216 ≤ sizeLine := by decide
    refine ⟨⟨by decide, by omega⟩, ⟨by decide, by omega⟩, ?_, ?_, ?_⟩
    · show 1 + _ ≤ _
      omega
    · rw [len_app]
      show 1 + _ + 1 ≤ _
      omega
    · rw [e]
      exact q
end
end Lw
set_option Elab.async false
set_option linter.all false
set_option maxRecDepth 100000
set_option maxHeartbeats 1000000
set_option pp.deepTerms true
set_option pp.maxSteps 200000
namespace Lw
open PySem PySem.Spec PyProof PyProof.Rows L2 So Da Dl
local macro_rules | `(tactic| walk_at "z") => `(tactic| repeat (first | refine ⟨(by decide), ?_⟩ | refine ⟨(by omega), ?_⟩ | refine ⟨rfl, ?_⟩))
section
variable {Z : Zw}
def mkS : List Str → List Sg → List Nat
  | _, [] => []
  | ls, .op l :: r => 60 :: (l.cps.toList ++ 62 :: mkS (l :: ls) r)
  | ls, .tx z :: r => (quo z).cps.toList ++ mkS ls r
  | l :: ls, .cl :: r => 60 :: 47 :: (l.cps.toList ++ 62 :: mkS ls r)
  | [], .cl :: r => mkS [] r
def sgLen : Sg → Nat
  | .op l => l.length
  | .tx z => z.length
  | .cl => 0
theorem esc_len : ∀ l : List Nat, (esc l).length ≤ 2 * l.length
  | [] => Nat.le_refl _
  | c :: r => by
    have := esc_len r
    unfold esc at this ⊢
    rw [List.flatMap_cons, List.length_append, List.length_cons]
    split
    · show 2 + _ ≤ _
      omega
    · show 1 + _ ≤ _
      omega
theorem quo_len (z : Str) : (quo z).length ≤ 2 * z.length + 2 := by
  have := esc_len z.cps.toList
  unfold quo
  rw [S_len, List.length_append, List.length_cons, List.length_singleton]
  have e : z.length = z.cps.toList.length := rfl
  omega
abbrev T_marked : TD := T1 fun D Q _ => ∃ ss : List Sg, D = .tuple (ss.map sgD) ∧ ss.length ≤ 2000 ∧ (∃ m, Lv ss 0 m) ∧ (∀ s ∈ ss, sgLen s ≤ 100) ∧ Q (.str (S (mkS [] ss)))
abbrev s_marked : Stmt := top 30
theorem sc_marked : FnScope ["signs", "parts", "labels", "sign"] ["signs"] (defScope s_marked) := ⟨rfl, rfl, rfl, by decide +kernel, rfl, by decide +kernel, by decide +kernel⟩
local macro_rules | `(tactic| walk_at "d") => `(tactic| simp only [↓dSeq, ↓dFor, ↓reprD, ↓dCallK, ↓dIfS, ↓dAndV, ↓dOrV, ↓dUn, ↓dOp, ↓dC, ↓dVar, ↓derefW, ↓deref, ↓known, ↓noOb, ↓nbO, ↓start0, ↓endsOf, ↓outA, ↓toB, ↓dAnd, ↓dOr, ↓dNot, ↓ofB, ↓dIf, ↓dChain, ↓dgName, ↓dgSeq, ↓dgCons, ↓dgNil, ↓dLc, ↓popW, ↓atOl, ↓isOl, ↓ownS, ↓frzD, ↓dCall, argsOf, argLc, obSlots, upS, upO, ↓noObs, ↓wipeD, List.map_cons, List.map_nil, List.length_cons, List.length_nil, Nat.sub_self, Nat.zero_add, Nat.reduceAdd, Nat.reduceSub, List.replicate, List.append_nil, List.cons_append, List.nil_append, List.getElem?_cons_zero, List.getElem?_cons_succ, List.getElem?_nil, List.set, List.head?, List.tail, Option.getD_some, Option.getD_none, List.nodup_nil, List.nodup_cons, List.not_mem_nil, List.mem_cons, List.mem_singleton, or_false, Nat.reduceEqDiff, true_and, and_true, Bool.not_true, Bool.not_false, if_true, Bool.false_eq_true, if_false, ite_true, ite_false, not_false_eq_true, reduceCtorEq, eqD_int, eqD_str, eqD_bl, eqD_tuple, eqD_list, eqD_tupleR, eqD_listR, eqD_non, neD_int, neD_str, neD_bl, neD_tuple, neD_list, neD_tupleR, neD_listR, neD_non, ↓isD, ↓notD, ix_0, ix_1, ix_2, ix_3, ix_4, ix_L0, ix_L1, ix_L2, itemsD_L, itemsD_T, tupleD_L, tupleD_T, listD_L, listD_T, lenD_L, lenD_T, lenD_S, slD_L, slD_T, addD_I, addD_S, addD_T, addD_L, subD_I, mulD_I, ltD_I, ltD_S, leD_I, gtD_I, geD_I, modD_I, fdivD_I, powD_I, intD_I, intD_B, negD_I, isND_N, isND_I, isND_S, isND_B, isND_T, isND_L, sq_T, sq_L, sq_N, sq_I, sq_S, sq_B, at_0, at_1, at_2, at_3, at_4, ↓isiD, pick, List.filterMap_cons_some, List.filterMap_nil, List.filterMap_cons, ↓ownC, ↓T1, ↓T2, ↓T3, ↓T4, ↓dHeard, ↓capsD, ↓slotsD, ↓lamW, lamSto, cpLc, ↓dHeardS, ↓dAsks, ↓asksW, ↓heardT, ↓Tbox, ↓Ttake, dForN, forNW, fnW, slSD, repD2, ↓intW, ix_ma0, ix_ma1, ix_ma2, ix_ma3, ix_inn0, ix_inn1, ix_inn2, ix_inn3, ix_top0, ix_top1, ix_top2, ix_top3, ix_top4, ↓T_law_pick, ↓T_law_text, ↓T_law_document])
theorem ok_marked {f : Addr} {fd : FuncData} (F : Fun Z.K "_marked" "_marked" s_marked f fd) (T : Tz Z.K Z.mg)
    {f_quoted : Addr} {fd_quoted : FuncData} (D_quoted : Df Z.K Z.mg "_quoted" s_quoted ["text"] f_quoted fd_quoted) (G_quoted : FnD Z.Pg Z.w Z.K Z.mg Z.base CX0 1 f_quoted fd_quoted ["text"] (spT Z (T_quoted))) : FnD Z.Pg Z.w Z.K Z.mg Z.base CX0 2 f fd ["signs"] (spT Z (T_marked)) := by
  refine okD F sc_marked (fun as Q er h => ?_) (fun cdv A outer s H E G0 ca hr hgd hca => (dss_cons (ds_own (i := 1) sc_marked.nd rfl (Or.inl rfl) (df_lst da_nil))
      (dss_cons (ds_own (i := 2) sc_marked.nd rfl (Or.inl rfl) (df_lst da_nil))
      (dss_cons (ds_for PassesOwn.never rfl (di_seq (de_var 0)) (dg_name (i := 3) sc_marked.nd rfl (Or.inl rfl))
        (dss_one (ds_if (dt_cmp (op_eqA hr.units) od_eq (dr_of (de_ix (dr_var 3) (dr_of de_int))) (dr_of de_str) (nomark _))
          (dss_one (ds_app (ps_expr (pe_bm PySem.F.plainAttrs_list PySem.F.slot_list_append PySem.F.type_list_append mt_append (pv 1) (pa_cons (de_call G_quoted hr hgd (by rfl) D_quoted.g D_quoted.F.kp D_quoted.b (drs_cons (dr_of (de_ix (dr_var 3) (dr_of de_int))) drs_nil)) pa_nil)))))
          (dss_one (ds_if (dt_cmp (op_eqA hr.units) od_eq (dr_of (de_ix (dr_var 3) (dr_of de_int))) (dr_of de_str) (nomark _))
            (dss_cons (ds_app (ps_expr (pe_bm PySem.F.plainAttrs_list PySem.F.slot_list_append PySem.F.type_list_append mt_append (pv 2) (pa_cons (de_ix (dr_var 3) (dr_of de_int)) pa_nil))))
            (dss_one (ds_app (ps_expr (pe_bm PySem.F.plainAttrs_list PySem.F.slot_list_append PySem.F.type_list_append mt_append (pv 1) (pa_cons (de_op op_addA od_add (dr_of (de_op op_addA od_add (dr_of de_str) (dr_of (de_ix (dr_var 3) (dr_of de_int))))) (dr_of de_str)) pa_nil))))))
            (dss_one (ds_app (ps_expr (pe_bm PySem.F.plainAttrs_list PySem.F.slot_list_append PySem.F.type_list_append mt_append (pv 1) (pa_cons (de_op op_addA od_add (dr_of (de_op op_addA od_add (dr_of de_str) (dr_of (de_pop (pe_bm0 PySem.F.plainAttrs_list PySem.F.slot_list_pop PySem.F.type_list_pop mt_pop (pv 2)))))) (dr_of de_str)) pa_nil))))))))))
      (dss_one (ds_frz 1 (by decide) (ds_ret (de_join de_str (de_var 1))))))))) (fun ca as Q er h => ?_)
  · obtain ⟨_, rfl, _⟩ := t1_inv h
    rfl
  · obtain ⟨a, rfl, q⟩ := t1_inv h
    obtain ⟨ss, rfl, hl, ⟨m, lv⟩, hs, q⟩ := q
    walk_at "d"
    refine ⟨by decide, by decide, fun p1 => ⟨by decide, by decide, fun p2 => ?_⟩⟩
    refine forW_go (fun ds ρ => ∃ (ps : List Str) (ls : List Str) (r : List Sg) (s3 : Lc), ds = r.map sgD ∧ (ps.flatMap fun y => y.cps.toList) ++ mkS ls r = mkS [] ss ∧ Lv r ls.length m ∧ ps.length + r.length ≤ 2000 ∧ (∀ y ∈ ps, y.length ≤ 1000) ∧ (∀ l ∈ ls, l.length ≤ 100) ∧ ls.length + r.length ≤ 2000 ∧ (∀ s ∈ r, sgLen s ≤ 100) ∧ nbO (some s3) ∧ ρ = [.sh (.tuple (ss.map sgD)), .ob p1 (.lst (ps.map .str)), .ob p2 (.lst (ls.map .str).reverse), s3]) ?_ ?_ _ _ ⟨[], [], ss, .un, rfl, rfl, lv, by show 0 + _ ≤ _; omega, (fun _ h => nomatch h), (fun _ h => nomatch h), by show 0 + _ ≤ _; omega, hs, trivial, rfl⟩
    · rintro ρ ⟨ps, ls, r, s3, e1, e2, lv, h1, h2, h3, h4, h5, n3, rfl⟩
      cases r with
      | cons a b => cases e1
      | nil =>
        have e2 : (ps.flatMap fun y => y.cps.toList) ++ [] = mkS [] ss := e2
        rw [List.append_nil] at e2
        walk_at "d"
        have hsum := join_sum h2
        refine ⟨_, rfl, ps, rfl, ?_, ?_⟩
        · show _ + _ * 0 ≤ _
          have : ps.length ≤ 2000 := by have := h1; simpa using h1
          omega
        · rw [show Txt.join (Str.ofString "") ps = S (mkS [] ss) from str_ext (by rw [show Str.ofString "" = ("" : Str) from rfl, join0, S_cps, ← e2, List.flatMap])]
          exact q
    · rintro K x ds ρ ⟨ps, ls, r, s3, e1, e2, lv, h1, h2, h3, h4, h5, n3, rfl⟩ ih
      cases r with
      | nil => cases e1
      | cons g r =>
        obtain ⟨rfl, rfl⟩ := List.cons.inj e1
        have h5r : ∀ s ∈ r, sgLen s ≤ 100 := fun s m => h5 s (List.mem_cons_of_mem _ m)
        have h5g := h5 g List.mem_cons_self
        rw [List.length_cons] at h1 h4
        have lp : (ps.map PyData.str).length < sizeLine := Nat.lt_of_le_of_lt (by rw [List.length_map]; omega : _ ≤ 2000) (by decide)
        have ll : (ls.map PyData.str).reverse.length < sizeLine := Nat.lt_of_le_of_lt (by rw [List.length_reverse, List.length_map]; omega : _ ≤ 2000) (by decide)
        have sl : 1000 ≤ sizeLine := by decide
        cases g with
        | op l =>
          have hl : l.length ≤ 100 := h5g
          have nx := ih _ ⟨ps ++ [S (60 :: (l.cps.toList ++ [62]))], l :: ls, r, .sh (sgD (.op l)), rfl, by
            rw [← e2, List.flatMap_append]
            simp [mkS, S], by have := lv.2; exact this, by rw [List.length_append, List.length_singleton]; omega, fun y my => by
              rcases List.mem_append.mp my with my | my
              · exact h2 y my
              · rw [List.mem_singleton.mp my, S_len, List.length_cons, List.length_append, ← str_len, List.length_singleton]
                omega, fun y my => by
              rcases List.mem_cons.mp my with rfl | my
              · exact hl
              · exact h3 y my, by rw [List.length_cons]; omega, h5r, trivial, rfl⟩
          rw [List.map_append, List.map_cons (l := ls), List.reverse_cons, List.map_singleton] at nx
          simp only [sgD] at nx ⊢
          walk_at "d"
          rw [if_neg (by decide +kernel), if_pos (by decide +kernel)]
          refine ⟨n3, ll, ?_, ?_, lp, ?_⟩
          · show 1 + _ ≤ _
            omega
          · rw [len_app]
            show 1 + _ + 1 ≤ _
            omega
          · rw [show Str.ofString "<" ++ l ++ Str.ofString ">" = S (60 :: (l.cps.toList ++ [62])) from str_ext (by rw [cps_app, cps_app]; rfl)]
            exact nx
        | tx z =>
          have hl : z.length ≤ 100 := h5g
          have nx := ih _ ⟨ps ++ [quo z], ls, r, .sh (sgD (.tx z)), rfl, by
            rw [← e2, List.flatMap_append]
            simp [mkS], by have := lv.2; rw [show ((ls.length : Nat) : Int) + stpS (.tx z) = ls.length from Int.add_zero _] at this; exact this, by rw [List.length_append, List.length_singleton]; omega, fun y my => by
              rcases List.mem_append.mp my with my | my
              · exact h2 y my
              · rw [List.mem_singleton.mp my]
                have := quo_len z
                omega, h3, by omega, h5r, trivial, rfl⟩
          rw [List.map_append, List.map_singleton] at nx
          simp only [sgD] at nx ⊢
          walk_at "d"
          rw [if_pos (by decide +kernel)]
          exact ⟨n3, z, rfl, by omega, lp, nx⟩
        | cl =>
          cases ls with
          | nil => exact absurd lv.1 (by decide)
          | cons l ls =>
            have hl : l.length ≤ 100 := h3 l List.mem_cons_self
            rw [List.length_cons] at h4
            have nx := ih _ ⟨ps ++ [S (60 :: 47 :: (l.cps.toList ++ [62]))], ls, r, .sh (sgD .cl), rfl, by
              rw [← e2, List.flatMap_append]
              simp [mkS, S], by have := lv.2; rw [show (((l :: ls).length : Nat) : Int) + stpS .cl = ls.length from by show ((ls.length + 1 : Nat) : Int) + -1 = _; omega] at this; exact this, by rw [List.length_append, List.length_singleton]; omega, fun y my => by
                rcases List.mem_append.mp my with my | my
                · exact h2 y my
                · rw [List.mem_singleton.mp my, S_len, List.length_cons, List.length_cons, List.length_append, ← str_len, List.length_singleton]
                  omega, fun y my => h3 y (List.mem_cons_of_mem _ my), by omega, h5r, trivial, rfl⟩
            rw [List.map_append, List.map_singleton] at nx
            simp only [sgD] at nx ⊢
            rw [List.map_cons, List.reverse_cons]
            walk_at "d"
            rw [if_neg (by decide +kernel), if_neg (by decide +kernel), List.getLast?_concat, List.dropLast_concat]
            refine ⟨n3, ?_⟩
            dsimp only
            walk_at "d"
            refine ⟨?_, ?_, lp, ?_⟩
            · show 2 + _ ≤ _
              omega
            · rw [len_app]
              show 2 + _ + 1 ≤ _
              omega
            · rw [show Str.ofString "</" ++ l ++ Str.ofString ">" = S (60 :: 47 :: (l.cps.toList ++ [62])) from str_ext (by rw [cps_app, cps_app]; rfl)]
              exact nx
end
end Lw
set_option Elab.async false
set_option linter.all false
set_option maxRecDepth 100000
set_option maxHeartbeats 1000000
set_option pp.deepTerms true
set_option pp.maxSteps 200000
namespace Lw
open PySem PySem.Spec PyProof PyProof.Rows L2 So Da Dl
local macro_rules | `(tactic| walk_at "z") => `(tactic| repeat (first | refine ⟨(by decide), ?_⟩ | refine ⟨(by omega), ?_⟩ | refine ⟨rfl, ?_⟩))
section
variable {Z : Zw}
def MkOk (gs : List Sg) : Prop := (∃ m, Lv gs 0 m) ∧ gs.length ≤ 2000 ∧ ∀ s ∈ gs, sgLen s ≤ 100
abbrev T_markup (W : Addr) : TD := T1 fun V Q er => OkD V ∧ LvIn W V 0 (fun _ => MkOk (sgsOf V) ∧ Q (.str (S (mkS [] (sgsOf V))))) er
abbrev s_markup : Stmt := top 31
theorem sc_markup : FnScope ["prefix"] ["prefix"] (defScope s_markup) := ⟨rfl, rfl, rfl, by decide +kernel, rfl, by decide +kernel, by decide +kernel⟩
local macro_rules | `(tactic| walk_at "d") => `(tactic| simp only [↓dSeq, ↓dFor, ↓reprD, ↓dCallK, ↓dIfS, ↓dAndV, ↓dOrV, ↓dUn, ↓dOp, ↓dC, ↓dVar, ↓derefW, ↓deref, ↓known, ↓noOb, ↓nbO, ↓start0, ↓endsOf, ↓outA, ↓toB, ↓dAnd, ↓dOr, ↓dNot, ↓ofB, ↓dIf, ↓dChain, ↓dgName, ↓dgSeq, ↓dgCons, ↓dgNil, ↓dLc, ↓popW, ↓atOl, ↓isOl, ↓ownS, ↓frzD, ↓dCall, argsOf, argLc, obSlots, upS, upO, ↓noObs, ↓wipeD, List.map_cons, List.map_nil, List.length_cons, List.length_nil, Nat.sub_self, Nat.zero_add, Nat.reduceAdd, Nat.reduceSub, List.replicate, List.append_nil, List.cons_append, List.nil_append, List.getElem?_cons_zero, List.getElem?_cons_succ, List.getElem?_nil, List.set, List.head?, List.tail, Option.getD_some, Option.getD_none, List.nodup_nil, List.nodup_cons, List.not_mem_nil, List.mem_cons, List.mem_singleton, or_false, Nat.reduceEqDiff, true_and, and_true, Bool.not_true, Bool.not_false, if_true, Bool.false_eq_true, if_false, ite_true, ite_false, not_false_eq_true, reduceCtorEq, eqD_int, eqD_str, eqD_bl, eqD_tuple, eqD_list, eqD_tupleR, eqD_listR, eqD_non, neD_int, neD_str, neD_bl, neD_tuple, neD_list, neD_tupleR, neD_listR, neD_non, ↓isD, ↓notD, ix_0, ix_1, ix_2, ix_3, ix_4, ix_L0, ix_L1, ix_L2, itemsD_L, itemsD_T, tupleD_L, tupleD_T, listD_L, listD_T, lenD_L, lenD_T, lenD_S, slD_L, slD_T, addD_I, addD_S, addD_T, addD_L, subD_I, mulD_I, ltD_I, ltD_S, leD_I, gtD_I, geD_I, modD_I, fdivD_I, powD_I, intD_I, intD_B, negD_I, isND_N, isND_I, isND_S, isND_B, isND_T, isND_L, sq_T, sq_L, sq_N, sq_I, sq_S, sq_B, at_0, at_1, at_2, at_3, at_4, ↓isiD, pick, List.filterMap_cons_some, List.filterMap_nil, List.filterMap_cons, ↓ownC, ↓T1, ↓T2, ↓T3, ↓T4, ↓dHeard, ↓capsD, ↓slotsD, ↓lamW, lamSto, cpLc, ↓dHeardS, ↓dAsks, ↓asksW, ↓heardT, ↓Tbox, ↓Ttake, dForN, forNW, fnW, slSD, repD2, ↓intW, ix_ma0, ix_ma1, ix_ma2, ix_ma3, ix_inn0, ix_inn1, ix_inn2, ix_inn3, ix_top0, ix_top1, ix_top2, ix_top3, ix_top4, ↓T_law_pick, ↓T_law_text, ↓T_law_document])
theorem ok_markup {f : Addr} {fd : FuncData} (F : Fun Z.K "markup" "markup" s_markup f fd) (T : Tz Z.K Z.mg) {C_BadStream : Addr}
    {f_marked : Addr} {fd_marked : FuncData} (D_marked : Df Z.K Z.mg "_marked" s_marked ["signs"] f_marked fd_marked) (G_marked : FnD Z.Pg Z.w Z.K Z.mg Z.base CX0 5 f_marked fd_marked ["signs"] (spT Z (T_marked)))
    {f_check_prefix : Addr} {fd_check_prefix : FuncData} (D_check_prefix : Df Z.K Z.mg "check_prefix" s_check_prefix ["value"] f_check_prefix fd_check_prefix) (G_check_prefix : FnD Z.Pg Z.w Z.K Z.mg Z.base (L2.CX Z.Pg Z.w) 5 f_check_prefix fd_check_prefix ["value"] (spT Z (T_check_prefix C_BadStream))) : FnD Z.Pg Z.w Z.K Z.mg Z.base (L2.CX Z.Pg Z.w) 6 f fd ["prefix"] (spT Z (T_markup C_BadStream)) := by
  refine okDX F sc_markup (fun as Q er h => ?_) (fun cdv A outer s H E G0 er ca hE hr hgd hca => (dss_one (ds_ret (de_call G_marked hr hgd (by rfl) D_marked.g D_marked.F.kp D_marked.b (drs_cons (dr_of (de_callX hE (passes_call (takes_of rfl rfl rfl rfl) fun _ _ _ _ h => h) G_check_prefix hr hgd (by rfl) D_check_prefix.g D_check_prefix.F.kp D_check_prefix.b (drs_cons (dr_var 0) drs_nil))) drs_nil))))) (fun ca as Q er h => ?_)
  · obtain ⟨_, rfl, _⟩ := t1_inv h
    rfl
  · obtain ⟨a, rfl, q⟩ := t1_inv h
    obtain ⟨ok, q⟩ := q
    walk_at "d"
    exact ⟨ok, lv_imp q fun hs l e ⟨⟨h1, h2, h3⟩, q⟩ => ⟨sgsOf a, rfl, h2, h1, h3, q⟩⟩
abbrev T_markup_of (F : Addr) : TD := T1 fun D Q er => OkD D ∧ SgIn F D (fun xs => ∃ gs : List Sg, xs = gs.map sgD ∧ MkOk gs ∧ Q (.str (S (mkS [] gs)))) er
abbrev s_markup_of : Stmt := top 32
theorem sc_markup_of : FnScope ["document"] ["document"] (defScope s_markup_of) := ⟨rfl, rfl, rfl, by decide +kernel, rfl, by decide +kernel, by decide +kernel⟩
theorem ok_markup_of {f : Addr} {fd : FuncData} (F : Fun Z.K "markup_of" "markup_of" s_markup_of f fd) (T : Tz Z.K Z.mg) {C_BadForm : Addr}
    {f_marked : Addr} {fd_marked : FuncData} (D_marked : Df Z.K Z.mg "_marked" s_marked ["signs"] f_marked fd_marked) (G_marked : FnD Z.Pg Z.w Z.K Z.mg Z.base CX0 4 f_marked fd_marked ["signs"] (spT Z (T_marked)))
    {f_signs_of : Addr} {fd_signs_of : FuncData} (D_signs_of : Df Z.K Z.mg "signs_of" s_signs_of ["document"] f_signs_of fd_signs_of) (G_signs_of : FnD Z.Pg Z.w Z.K Z.mg Z.base (L2.CX Z.Pg Z.w) 4 f_signs_of fd_signs_of ["document"] (spT Z (T_signs_of C_BadForm))) : FnD Z.Pg Z.w Z.K Z.mg Z.base (L2.CX Z.Pg Z.w) 5 f fd ["document"] (spT Z (T_markup_of C_BadForm)) := by
  refine okDX F sc_markup_of (fun as Q er h => ?_) (fun cdv A outer s H E G0 er ca hE hr hgd hca => (dss_one (ds_ret (de_call G_marked hr hgd (by rfl) D_marked.g D_marked.F.kp D_marked.b (drs_cons (dr_of (de_callX hE (passes_call (takes_of rfl rfl rfl rfl) fun _ _ _ _ h => h) G_signs_of hr hgd (by rfl) D_signs_of.g D_signs_of.F.kp D_signs_of.b (drs_cons (dr_var 0) drs_nil))) drs_nil))))) (fun ca as Q er h => ?_)
  · obtain ⟨_, rfl, _⟩ := t1_inv h
    rfl
  · obtain ⟨a, rfl, q⟩ := t1_inv h
    obtain ⟨ok, q⟩ := q
    walk_at "d"
    exact ⟨ok, sgIn_imp q fun ss ⟨gs, e, ⟨h1, h2, h3⟩, q⟩ => ⟨gs, by rw [e], h2, h1, h3, q⟩⟩
inductive Stt
  | tx (h : List Nat)
  | sk (h : List Nat)
  | bg
  | nm (h : List Nat)
  | en (k : Nat)
inductive Rs
  | cut
  | bad (p : Nat)
  | got (s : Sg) (b : Nat)
def one (tp : Option Str) : Stt → Nat → List Nat → Rs
  | _, _, [] => .cut
  | .tx h, a, c :: r => if c = 34 then .got (.tx (S h)) (a + 1) else if c = 92 then one tp (.sk h) (a + 1) r else one tp (.tx (h ++ [c])) (a + 1) r
  | .sk h, a, c :: r => if c = 92 ∨ c = 34 then one tp (.tx (h ++ [c])) (a + 1) r else .bad a
  | .bg, a, c :: r => if c = 47 then (match tp with
    | none => .bad a
    | some _ => one tp (.en 0) (a + 1) r) else if lB c = true then one tp (.nm [c]) (a + 1) r else .bad a
  | .nm h, a, c :: r => if c = 62 then .got (.op (S h)) (a + 1) else if lB c = true ∧ h.length < 12 then one tp (.nm (h ++ [c])) (a + 1) r else .bad a
  | .en k, a, c :: r => match tp with
    | none => .bad a
    | some l => if (l.cps.toList ++ [62])[k]? = some c then (if k = l.length then .got .cl (a + 1) else one tp (.en (k + 1)) (a + 1) r) else .bad a
section
variable {tp : Option Str} {h r : List Nat} {a c k : Nat} {l : Str} {t : Stt}
theorem one_nil : one tp t a [] = .cut := by cases t <;> rfl
theorem one_tx : one tp (.tx h) a (c :: r) = if c = 34 then .got (.tx (S h)) (a + 1) else if c = 92 then one tp (.sk h) (a + 1) r else one tp (.tx (h ++ [c])) (a + 1) r := rfl
theorem one_sk : one tp (.sk h) a (c :: r) = if c = 92 ∨ c = 34 then one tp (.tx (h ++ [c])) (a + 1) r else .bad a := rfl
theorem one_bgN : one none .bg a (c :: r) = if c = 47 then .bad a else if lB c = true then one none (.nm [c]) (a + 1) r else .bad a := rfl
theorem one_bgS : one (some l) .bg a (c :: r) = if c = 47 then one (some l) (.en 0) (a + 1) r else if lB c = true then one (some l) (.nm [c]) (a + 1) r else .bad a := rfl
theorem one_nm : one tp (.nm h) a (c :: r) = if c = 62 then .got (.op (S h)) (a + 1) else if lB c = true ∧ h.length < 12 then one tp (.nm (h ++ [c])) (a + 1) r else .bad a := rfl
theorem one_en : one (some l) (.en k) a (c :: r) = if (l.cps.toList ++ [62])[k]? = some c then (if k = l.length then .got .cl (a + 1) else one (some l) (.en (k + 1)) (a + 1) r) else .bad a := rfl
end
def start (tp : Option Str) (a : Nat) : List Nat → Rs
  | [] => .cut
  | c :: r => if c = 34 then one tp (.tx []) (a + 1) r else if c = 60 then one tp .bg (a + 1) r else .bad a
/-- what a reader of one sign tells -/
def RsQ (X : Addr) (b : Nat) (Q : PyData → Prop) (er : EK) : Rs → Prop
  | .cut => Q (.tuple [.none, .int (b : Nat)])
  | .bad p => er (X, .int (p : Nat))
  | .got s b => Q (.tuple [sgD s, .int (b : Nat)])
theorem ch_eq {c n : Nat} : (⟨#[c]⟩ : Str) = S [n] ↔ c = n := ⟨fun h => by
  have := congrArg (fun z : Str => z.cps.toList) h
  exact (List.cons.inj this).1, fun h => by rw [h]; rfl⟩
theorem s34 : Str.ofString "\"" = S [34] := by decide +kernel
theorem s92 : Str.ofString "\\" = S [92] := by decide +kernel
theorem s60 : Str.ofString "<" = S [60] := by decide +kernel
theorem s62 : Str.ofString ">" = S [62] := by decide +kernel
theorem s47 : Str.ofString "/" = S [47] := by decide +kernel
theorem in_esc {c : Nat} {Q : PyData → Prop} (h : Q (.bool (!decide (c = 92 ∨ c = 34)))) : inD true (.str ⟨#[c]⟩) (.tuple [.str (Str.ofString "\\"), .str (Str.ofString "\"")]) Q := by
  unfold inD
  refine ⟨rfl, rfl, ?_⟩
  have e : ([PyData.str (Str.ofString "\\"), .str (Str.ofString "\"")].any fun z => PyData.eqv z (.str ⟨#[c]⟩)) = decide (c = 92 ∨ c = 34) := by
    rw [s34, s92]
    rw [Bool.eq_iff_iff, decide_eq_true_iff]
    simp only [List.any_cons, List.any_nil, Bool.or_false, Bool.or_eq_true, PyData.eqv]
    have k : ∀ n : Nat, ((S [n] == (⟨#[c]⟩ : Str)) = true) ↔ c = n := fun n => by
      rw [beq_iff_eq]
      exact ⟨fun h => (ch_eq.mp h.symm), fun h => (ch_eq.mpr h).symm⟩
    rw [k, k]
  rw [e]
  exact h
theorem map_ch {h : List Nat} : (h.map fun c => PyData.str (S [c])) = (h.map fun c => S [c]).map .str := by rw [List.map_map]; rfl
theorem join_ch {h : List Nat} : Txt.join (Str.ofString "") (h.map fun c => S [c]) = S h := str_ext (by
  rw [show Str.ofString "" = ("" : Str) from rfl, join0, S_cps]
  induction h with
  | nil => rfl
  | cons c r ih => rw [List.map_cons, List.map_cons, List.flatten_cons, ih]; rfl)
abbrev T_read_text (X : Addr) : TD := T2 fun D n Q er => ∃ (z : Str) (a : Nat), D = .str z ∧ n = .int (a : Nat) ∧ a ≤ z.length ∧ z.length ≤ 60000 ∧ RsQ X a Q er (one none (.tx []) a (z.cps.toList.drop a))
abbrev s_read_text : Stmt := top 33
theorem sc_read_text : FnScope ["text", "first", "characters", "at", "character"] ["text", "first"] (defScope s_read_text) := ⟨rfl, rfl, rfl, by decide +kernel, rfl, by decide +kernel, by decide +kernel⟩
theorem ok_read_text {f : Addr} {fd : FuncData} (F : Fun Z.K "_read_text" "_read_text" s_read_text f fd) (T : Tz Z.K Z.mg) {C_BadText : Addr}
    (A_BadText : Z.T.an C_BadText = "at") {fI_BadText : Addr} {fdI_BadText : FuncData} (B_BadText : Er Z.K Z.mg "BadText" "BadText.__init__" "at" c_BadText C_BadText fI_BadText fdI_BadText) (I_BadText : FnOk Z.Pg Z.w Z.K Z.mg Z.base CX0 1 fI_BadText fdI_BadText ["self", "at"] (spIni C_BadText "at")) : FnD Z.Pg Z.w Z.K Z.mg Z.base (L2.CX Z.Pg Z.w) 3 f fd ["text", "first"] (spT Z (T_read_text C_BadText)) := by
  refine okDX F sc_read_text (fun as Q er h => ?_) (fun cdv A outer s H E G0 er ca hE hr hgd hca => (dss_cons (ds_own (i := 2) sc_read_text.nd rfl (Or.inl rfl) (df_lst da_nil))
      (dss_cons (ds_set (i := 3) sc_read_text.nd rfl (Or.inl rfl) (de_var 1))
      (dss_cons (ds_while (passes_of rfl) (dt_cmp op_ltA od_lt (dr_var 3) (dr_of (de_callB call_lenA cd_len (by rfl) T.len (by decide +kernel) (dr_var 0))) (nomark _))
        (dss_cons (ds_set (i := 4) sc_read_text.nd rfl (Or.inl rfl) (de_ix (dr_var 0) (dr_var 3)))
        (dss_cons (ds_if (dt_cmp (op_eqA hr.units) od_eq (dr_var 4) (dr_of de_str) (nomark _))
          (dss_one (ds_frz 2 (by decide) (ds_ret (de_tup (da_cons (de_tup (da_cons de_str (da_cons (de_join de_str (de_var 2)) da_nil))) (da_cons (de_op op_addA od_add (dr_var 3) (dr_of de_int)) da_nil))))))
          dss_nil)
        (dss_cons (ds_if (dt_cmp (op_eqA hr.units) od_eq (dr_of (de_callB call_lenA cd_len (by rfl) T.len (by decide +kernel) (dr_var 2))) (dr_of (de_gInt (i := 65535) (by rfl) T.c_TEXT_MOST)) (nomark _))
          (dss_one (ds_raise A_BadText hE (ps_raise rfl (takes_of rfl rfl rfl rfl) (pmk_oex B_BadText.T B_BadText.ini B_BadText.ty I_BadText hr B_BadText.b .nil pass0 (by rfl) B_BadText.g (pa_cons (de_var 3) pa_nil)))))
          dss_nil)
        (dss_cons (ds_if (dt_cmp (op_eqA hr.units) od_eq (dr_var 4) (dr_of de_str) (nomark _))
          (dss_cons (ds_aug (ps_aug (i := 3) sc_read_text.nd rfl (Or.inl rfl) de_int ip_add))
          (dss_cons (ds_if (dt_cmp (op_eqA hr.units) od_eq (dr_var 3) (dr_of (de_callB call_lenA cd_len (by rfl) T.len (by decide +kernel) (dr_var 0))) (nomark _))
            (dss_one ds_break)
            dss_nil)
          (dss_cons (ds_set (i := 4) sc_read_text.nd rfl (Or.inl rfl) (de_ix (dr_var 0) (dr_var 3)))
          (dss_one (ds_if (dt_cmp (op_notInA (hu1_of hr)) od_notin (dr_var 4) (dr_of (de_tup (da_cons de_str (da_cons de_str da_nil)))) rfl)
            (dss_one (ds_raise A_BadText hE (ps_raise rfl (takes_of rfl rfl rfl rfl) (pmk_oex B_BadText.T B_BadText.ini B_BadText.ty I_BadText hr B_BadText.b .nil pass0 (by rfl) B_BadText.g (pa_cons (de_var 3) pa_nil)))))
            dss_nil)))))
          dss_nil)
        (dss_cons (ds_app (ps_expr (pe_bm PySem.F.plainAttrs_list PySem.F.slot_list_append PySem.F.type_list_append mt_append (pv 2) (pa_cons (de_var 4) pa_nil))))
        (dss_one (ds_aug (ps_aug (i := 3) sc_read_text.nd rfl (Or.inl rfl) de_int ip_add)))))))))
      (dss_one (ds_ret (de_tup (da_cons de_non (da_cons (de_var 1) da_nil))))))))) (fun ca as Q er h => ?_)
  · obtain ⟨_, _, rfl, _⟩ := t2_inv h
    rfl
  · obtain ⟨a, b, rfl, q⟩ := t2_inv h
    obtain ⟨z, i, rfl, rfl, hi, hz, q⟩ := q
    walk_at "d"
    refine ⟨by decide, by decide, fun p => ⟨fun m ρ => ∃ (h : List Nat) (j : Nat) (s4 : Lc), one none (.tx []) i (z.cps.toList.drop i) = one none (.tx h) j (z.cps.toList.drop j) ∧ i ≤ j ∧ j ≤ z.length ∧ h.length ≤ j ∧ m = z.length - j ∧ nbO (some s4) ∧ ρ = [.sh (.str z), .sh (.int (i : Nat)), .ob p (.lst (h.map fun c => .str (S [c]))), .sh (.int (j : Nat)), s4], ⟨_, [], i, .un, rfl, Nat.le_refl _, hi, Nat.zero_le _, rfl, trivial, rfl⟩, ?_⟩⟩
    rintro m ρ ⟨h, j, s4, e1, h1, h2, h3, e2, n4, rfl⟩
    have l4 : nbO (some s4) := n4
    have lh : (h.map fun c => PyData.str (S [c])).length < sizeLine := Nat.lt_of_le_of_lt (by rw [List.length_map]; omega : _ ≤ 60000) (by decide)
    have b2 : 2 ≤ sizeLine := by decide
    have zs : z.length ≤ sizeLine := Nat.le_trans hz (by decide)
    walk_at "d"
    refine ⟨zs, ?_⟩
    cases e : z.cps.toList.drop j with
    | nil =>
      have := drop_nil h2 e
      rw [if_neg (by rw [str_len, ← this]; simp)]
      rw [e1, e, one_nil] at q
      exact ⟨b2, q⟩
    | cons c r =>
      obtain ⟨hj, er⟩ := drop_nx e
      have hj : j < z.length := hj
      rw [if_pos (by rw [decide_eq_true_iff]; omega)]
      refine ix_ch e (by omega) ⟨l4, ?_⟩
      walk_at "d"
      rw [e] at e1
      rw [one_tx] at e1
      by_cases c34 : c = 34
      · rw [if_pos (by rw [decide_eq_true_iff, s34, ch_eq]; exact c34)]
        rw [if_pos c34] at e1
        rw [e1] at q
        refine ⟨_, rfl, h.map fun c => S [c], by rw [map_ch], ?_, b2, b2, ?_⟩
        · show _ + _ * 0 ≤ _
          have : ((h.map fun c => S [c]).map fun x => x.length).sum ≤ (h.map fun c => S [c]).length * 1 := join_sum fun y m => by
            obtain ⟨d, _, rfl⟩ := List.mem_map.mp m
            exact Nat.le_refl _
          rw [List.length_map] at this
          omega
        · rw [join_ch]
          exact q
      · rw [if_neg (by rw [decide_eq_true_iff, s34, ch_eq]; exact c34)]
        rw [if_neg c34] at e1
        rw [if_neg (by rw [decide_eq_true_iff, List.length_map]; omega)]
        by_cases c92 : c = 92
        · rw [if_pos (by rw [decide_eq_true_iff, s92, ch_eq]; exact c92)]
          rw [if_pos c92] at e1
          refine ⟨zs, ?_⟩
          cases e3 : z.cps.toList.drop (j + 1) with
          | nil =>
            have := drop_nil (by exact hj) e3
            rw [if_pos (by rw [decide_eq_true_iff]; rw [str_len, ← this]; omega)]
            rw [← er, e3, one_nil] at e1
            rw [e1] at q
            exact ⟨b2, q⟩
          | cons d r2 =>
            obtain ⟨hj2, er2⟩ := drop_nx e3
            have hj2 : j + 1 < z.length := hj2
            rw [if_neg (by rw [decide_eq_true_iff]; omega)]
            rw [← er, e3] at e1
            rw [one_sk] at e1
            refine ix_ch (j := j + 1) e3 (by omega) ⟨b2, in_esc ?_⟩
            dsimp only
            by_cases hd : d = 92 ∨ d = 34
            · rw [if_pos hd] at e1
              rw [if_neg (by rw [decide_eq_true hd]; decide)]
              refine ⟨lh, z.length - (j + 2), by omega, h ++ [d], j + 2, .sh (.str ⟨#[d]⟩), by rw [e1, er2], by omega, by omega, by rw [List.length_append, List.length_singleton]; omega, rfl, trivial, ?_⟩
              rw [List.map_append]
              rfl
            · rw [if_neg hd] at e1
              rw [e1] at q
              rw [if_pos (by rw [decide_eq_false hd]; rfl)]
              exact q
        · rw [if_neg (by rw [decide_eq_true_iff, s92, ch_eq]; exact c92)]
          rw [if_neg c92] at e1
          refine ⟨lh, z.length - (j + 1), by omega, h ++ [c], j + 1, .sh (.str ⟨#[c]⟩), by rw [e1, er], by omega, by omega, by rw [List.length_append, List.length_singleton]; omega, rfl, trivial, ?_⟩
          rw [List.map_append]
          rfl
end
end Lw
set_option Elab.async false
set_option linter.all false
set_option maxRecDepth 100000
set_option maxHeartbeats 1000000
set_option pp.deepTerms true
set_option pp.maxSteps 200000
namespace Lw
open PySem PySem.Spec PyProof PyProof.Rows L2 So Da Dl
local macro_rules | `(tactic| walk_at "z") => `(tactic| repeat (first | refine ⟨(by decide), ?_⟩ | refine ⟨(by omega), ?_⟩ | refine ⟨rfl, ?_⟩))
section
variable {Z : Zw}
theorem cutS_nn (z : Str) (a b : Nat) (h : a ≤ z.length) : cutS z (some (a : Int)) (some (b : Int)) = S ((z.cps.toList.drop a).take (b - a)) := by
  unfold cutS S
  rw [HT.sIx_nat, HT.sIx_nat, Nat.min_eq_left h]
  by_cases h2 : b ≤ z.length
  · rw [Nat.min_eq_left h2]
  · rw [Nat.min_eq_right (a := b) (by omega), List.take_of_length_le (by rw [List.length_drop, ← str_len]; omega), List.take_of_length_le (by rw [List.length_drop, ← str_len]; omega)]
theorem l62 : lB 62 = false := by decide +kernel
/-- a name read whole -/
def nmR (l : List Nat) (h : List Nat) (a k : Nat) : List Nat → Rs
  | [] => .cut
  | c :: _ => if c = 62 then .got (.op (S (h ++ l.take k))) (a + k + 1) else .bad (a + k)
theorem one_nmR {tp : Option Str} : ∀ (l h : List Nat) (a : Nat), one tp (.nm h) a l = nmR l h a (lrun l h.length - h.length) (l.drop (lrun l h.length - h.length))
  | [], h, a => by rw [one_nil, List.drop_nil]; rfl
  | c :: r, h, a => by
    rw [one_nm]
    unfold lrun
    by_cases hc : lB c = true ∧ h.length < 12
    · rw [if_pos hc, if_pos hc, if_neg (fun e => by rw [e, l62] at hc; exact absurd hc.1 (by decide)), one_nmR r (h ++ [c]) (a + 1)]
      have hk := (lrun_le r (h.length + 1)).1
      rw [List.length_append, List.length_singleton]
      obtain ⟨k, e⟩ : ∃ k, lrun r (h.length + 1) = h.length + 1 + k := ⟨_, (Nat.add_sub_cancel' hk).symm⟩
      rw [e, show h.length + 1 + k - (h.length + 1) = k by omega, show h.length + 1 + k - h.length = k + 1 by omega, List.drop_succ_cons]
      unfold nmR
      cases r.drop k with
      | nil => rfl
      | cons d _ =>
        dsimp only
        rw [List.append_assoc, List.take_succ_cons, show a + 1 + k = a + (k + 1) by omega]
        rfl
    · rw [if_neg hc, if_neg hc, Nat.sub_self, List.drop_zero]
      unfold nmR
      rw [List.take_zero, List.append_nil]
      rfl
def bgN (a : Nat) : List Nat → Rs
  | [] => .cut
  | _ :: _ => .bad a
theorem one_bgR {tp : Option Str} {l : List Nat} {a : Nat} (h : l.head? ≠ some 47) : one tp .bg a l = if lrun l 0 = 0 then bgN a l else nmR l [] a (lrun l 0) (l.drop (lrun l 0)) := by
  cases l with
  | nil => rw [one_nil]; rfl
  | cons c r =>
    have hc : c ≠ 47 := fun e => h (by rw [e]; rfl)
    have e : one tp .bg a (c :: r) = if lB c = true then one tp (.nm [c]) (a + 1) r else .bad a := by
      cases tp with
      | none => rw [one_bgN, if_neg hc]
      | some l => rw [one_bgS, if_neg hc]
    rw [e]
    by_cases hl : lB c = true
    · have e0 : lrun (c :: r) 0 = lrun r 1 := by
        show (if lB c = true ∧ 0 < 12 then lrun r 1 else 0) = _
        rw [if_pos ⟨hl, by decide⟩]
      rw [if_pos hl, e0, one_nmR]
      have hk := (lrun_le r 1).1
      show nmR r [c] (a + 1) (lrun r 1 - 1) (r.drop (lrun r 1 - 1)) = _
      obtain ⟨k, e⟩ : ∃ k, lrun r 1 = k + 1 := ⟨lrun r 1 - 1, by omega⟩
      rw [e, if_neg (by omega), Nat.add_sub_cancel, List.drop_succ_cons]
      unfold nmR
      cases r.drop k with
      | nil => rfl
      | cons d _ =>
        dsimp only
        rw [List.take_succ_cons, show a + 1 + k = a + (k + 1) by omega]
        rfl
    · have e0 : lrun (c :: r) 0 = 0 := by
        show (if lB c = true ∧ 0 < 12 then lrun r 1 else 0) = _
        rw [if_neg (fun x => hl x.1)]
      rw [if_neg hl, e0, if_pos rfl]
      rfl
abbrev T_read_opening (X : Addr) : TD := T2 fun D n Q er => ∃ (z : Str) (a : Nat), D = .str z ∧ n = .int (a : Nat) ∧ a ≤ z.length ∧ z.length ≤ 60000 ∧ (z.cps.toList.drop a).head? ≠ some 47 ∧ RsQ X a Q er (one none .bg a (z.cps.toList.drop a))
abbrev s_read_opening : Stmt := top 34
theorem sc_read_opening : FnScope ["text", "first", "at"] ["text", "first"] (defScope s_read_opening) := ⟨rfl, rfl, rfl, by decide +kernel, rfl, by decide +kernel, by decide +kernel⟩
local macro_rules | `(tactic| walk_at "d") => `(tactic| simp only [↓dSeq, ↓dFor, ↓reprD, ↓dCallK, ↓dIfS, ↓dAndV, ↓dOrV, ↓dUn, ↓dOp, ↓dC, ↓dVar, ↓derefW, ↓deref, ↓known, ↓noOb, ↓nbO, ↓start0, ↓endsOf, ↓outA, ↓toB, ↓dAnd, ↓dOr, ↓dNot, ↓ofB, ↓dIf, ↓dChain, ↓dgName, ↓dgSeq, ↓dgCons, ↓dgNil, ↓dLc, ↓popW, ↓atOl, ↓isOl, ↓ownS, ↓frzD, ↓dCall, argsOf, argLc, obSlots, upS, upO, ↓noObs, ↓wipeD, List.map_cons, List.map_nil, List.length_cons, List.length_nil, Nat.sub_self, Nat.zero_add, Nat.reduceAdd, Nat.reduceSub, List.replicate, List.append_nil, List.cons_append, List.nil_append, List.getElem?_cons_zero, List.getElem?_cons_succ, List.getElem?_nil, List.set, List.head?, List.tail, Option.getD_some, Option.getD_none, List.nodup_nil, List.nodup_cons, List.not_mem_nil, List.mem_cons, List.mem_singleton, or_false, Nat.reduceEqDiff, true_and, and_true, Bool.not_true, Bool.not_false, if_true, Bool.false_eq_true, if_false, ite_true, ite_false, not_false_eq_true, reduceCtorEq, eqD_int, eqD_str, eqD_bl, eqD_tuple, eqD_list, eqD_tupleR, eqD_listR, eqD_non, neD_int, neD_str, neD_bl, neD_tuple, neD_list, neD_tupleR, neD_listR, neD_non, ↓isD, ↓notD, ix_0, ix_1, ix_2, ix_3, ix_4, ix_L0, ix_L1, ix_L2, itemsD_L, itemsD_T, tupleD_L, tupleD_T, listD_L, listD_T, lenD_L, lenD_T, lenD_S, slD_L, slD_T, addD_I, addD_S, addD_T, addD_L, subD_I, mulD_I, ltD_I, ltD_S, leD_I, gtD_I, geD_I, modD_I, fdivD_I, powD_I, intD_I, intD_B, negD_I, isND_N, isND_I, isND_S, isND_B, isND_T, isND_L, sq_T, sq_L, sq_N, sq_I, sq_S, sq_B, at_0, at_1, at_2, at_3, at_4, ↓isiD, pick, List.filterMap_cons_some, List.filterMap_nil, List.filterMap_cons, ↓ownC, ↓T1, ↓T2, ↓T3, ↓T4, ↓dHeard, ↓capsD, ↓slotsD, ↓lamW, lamSto, cpLc, ↓dHeardS, ↓dAsks, ↓asksW, ↓heardT, ↓Tbox, ↓Ttake, dForN, forNW, fnW, slSD, repD2, ↓intW, ix_ma0, ix_ma1, ix_ma2, ix_ma3, ix_inn0, ix_inn1, ix_inn2, ix_inn3, ix_top0, ix_top1, ix_top2, ix_top3, ix_top4, ↓T_law_pick, ↓T_law_text, ↓T_law_document])
theorem ok_read_opening {f : Addr} {fd : FuncData} (F : Fun Z.K "_read_opening" "_read_opening" s_read_opening f fd) (T : Tz Z.K Z.mg) {C_BadText : Addr}
    {f_behind_letters : Addr} {fd_behind_letters : FuncData} (D_behind_letters : Df Z.K Z.mg "behind_letters" s_behind_letters ["text", "first"] f_behind_letters fd_behind_letters) (G_behind_letters : FnD Z.Pg Z.w Z.K Z.mg Z.base CX0 2 f_behind_letters fd_behind_letters ["text", "first"] (spT Z (T_behind_letters)))
    (A_BadText : Z.T.an C_BadText = "at") {fI_BadText : Addr} {fdI_BadText : FuncData} (B_BadText : Er Z.K Z.mg "BadText" "BadText.__init__" "at" c_BadText C_BadText fI_BadText fdI_BadText) (I_BadText : FnOk Z.Pg Z.w Z.K Z.mg Z.base CX0 1 fI_BadText fdI_BadText ["self", "at"] (spIni C_BadText "at")) : FnD Z.Pg Z.w Z.K Z.mg Z.base (L2.CX Z.Pg Z.w) 3 f fd ["text", "first"] (spT Z (T_read_opening C_BadText)) := by
  refine okDX F sc_read_opening (fun as Q er h => ?_) (fun cdv A outer s H E G0 er ca hE hr hgd hca => (dss_cons (ds_set (i := 2) sc_read_opening.nd rfl (Or.inl rfl) (de_call G_behind_letters hr hgd (by rfl) D_behind_letters.g D_behind_letters.F.kp D_behind_letters.b (drs_cons (dr_var 0) (drs_cons (dr_var 1) drs_nil))))
      (dss_cons (ds_if (dt_cmp (op_eqA hr.units) od_eq (dr_var 2) (dr_of (de_callB call_lenA cd_len (by rfl) T.len (by decide +kernel) (dr_var 0))) (nomark _))
        (dss_one (ds_ret (de_tup (da_cons de_non (da_cons (de_var 1) da_nil)))))
        dss_nil)
      (dss_cons (ds_if (DW.dt (dw_or (dt_cmp (op_neA hr.units) od_ne (dr_of (de_ix (dr_var 0) (dr_var 2))) (dr_of de_str) (nomark _)) (dw_or1 (dt_cmp (op_eqA hr.units) od_eq (dr_var 2) (dr_var 1) (nomark _)))))
        (dss_one (ds_raise A_BadText hE (ps_raise rfl (takes_of rfl rfl rfl rfl) (pmk_oex B_BadText.T B_BadText.ini B_BadText.ty I_BadText hr B_BadText.b .nil pass0 (by rfl) B_BadText.g (pa_cons (de_var 2) pa_nil)))))
        dss_nil)
      (dss_one (ds_ret (de_tup (da_cons (de_tup (da_cons de_str (da_cons (de_sliceS (de_var 0) (do_some (de_var 1)) (do_some (de_var 2))) da_nil))) (da_cons (de_op op_addA od_add (dr_var 2) (dr_of de_int)) da_nil))))))))) (fun ca as Q er h => ?_)
  · obtain ⟨_, _, rfl, _⟩ := t2_inv h
    rfl
  · obtain ⟨a, b, rfl, q⟩ := t2_inv h
    obtain ⟨z, i, rfl, rfl, hi, hz, h47, q⟩ := q
    have b2 : 2 ≤ sizeLine := by decide
    have zs : z.length ≤ sizeLine := Nat.le_trans hz (by decide)
    rw [one_bgR h47] at q
    walk_at "d"
    refine ⟨z, i, rfl, rfl, hi, hz, ?_⟩
    have hk := lrun_le (z.cps.toList.drop i) 0
    rw [List.length_drop, ← str_len] at hk
    generalize hK : lrun (z.cps.toList.drop i) 0 = k at *
    refine ⟨zs, ?_⟩
    rw [List.drop_drop] at q
    cases e : z.cps.toList.drop (i + k) with
    | nil =>
      have := drop_nil (by rw [← str_len]; omega) e
      rw [if_pos (by rw [decide_eq_true_iff, str_len, ← this])]
      refine ⟨b2, ?_⟩
      by_cases k0 : k = 0
      · subst k0
        rw [if_pos rfl, show z.cps.toList.drop i = [] from e] at q
        exact q
      · rw [if_neg k0, e] at q
        exact q
    | cons c r =>
      obtain ⟨hj, _⟩ := drop_nx e
      have hj : i + k < z.length := hj
      rw [if_neg (by rw [decide_eq_true_iff]; omega)]
      refine ix_ch e (by omega) ?_
      walk_at "d"
      by_cases k0 : k = 0
      · subst k0
        rw [if_pos rfl, show z.cps.toList.drop i = c :: r from e] at q
        rw [if_pos (show decide (((i + 0 : Nat) : Int) = ((i : Nat) : Int)) = true from by rw [decide_eq_true_iff]; omega)]
        split <;> exact q
      · rw [if_neg k0, e] at q
        have q : RsQ C_BadText i (fun r => Q r [.sh (.str z), .sh (.int (i : Nat))]) er (if c = 62 then .got (.op (S ([] ++ (z.cps.toList.drop i).take k))) (i + k + 1) else .bad (i + k)) := q
        by_cases c62 : c = 62
        · rw [if_pos c62] at q
          rw [if_neg (by rw [s62, decide_eq_true (ch_eq.mpr c62)]; decide), if_neg (by rw [decide_eq_true_iff]; omega), cutS_nn z i (i + k) hi, show i + k - i = k by omega]
          exact ⟨zs, b2, b2, q⟩
        · rw [if_neg c62] at q
          rw [if_pos (by rw [s62, decide_eq_false (fun x => c62 (ch_eq.mp x))]; rfl)]
          exact q
theorem enum_len {l : List Nat} : (enumD (chD (S l))).length = l.length := by
  unfold enumD chD
  rw [List.length_mapIdx, List.length_map]
  rfl
theorem enum_nx {l : List Nat} {k : Nat} {x : PyData} {ds : List PyData} (e : x :: ds = (enumD (chD (S l))).drop k) : ∃ c, l[k]? = some c ∧ x = .tuple [.int (k : Nat), .str ⟨#[c]⟩] ∧ ds = (enumD (chD (S l))).drop (k + 1) := by
  have hk : k < (enumD (chD (S l))).length := by
    rcases Nat.lt_or_ge k (enumD (chD (S l))).length with h | h
    · exact h
    · rw [List.drop_of_length_le h] at e
      cases e
  have e2 : (enumD (chD (S l)))[k]? = some x := by rw [← List.head?_drop, ← e]; rfl
  have e3 : ds = (enumD (chD (S l))).drop (k + 1) := by rw [← List.drop_drop, ← e]; rfl
  have e4 : ((l.map fun c => PyData.str ⟨#[c]⟩).mapIdx fun i d => PyData.tuple [.int (i : Nat), d])[k]? = some x := e2
  rw [List.getElem?_mapIdx, List.getElem?_map] at e4
  cases h : l[k]? with
  | none => rw [h] at e4; cases e4
  | some c =>
    rw [h] at e4
    exact ⟨c, rfl, (Option.some.inj e4).symm, e3⟩
abbrev T_read_closing (X : Addr) : TD := T3 fun D n L Q er => ∃ (z : Str) (a : Nat) (l : Str), D = .str z ∧ n = .int (a : Nat) ∧ L = .str l ∧ a ≤ z.length ∧ z.length ≤ 60000 ∧ l.length ≤ 60000 ∧ RsQ X a Q er (one (some l) (.en 0) a (z.cps.toList.drop a))
abbrev s_read_closing : Stmt := top 35
theorem sc_read_closing : FnScope ["text", "first", "label", "rest", "place", "character"] ["text", "first", "label"] (defScope s_read_closing) := ⟨rfl, rfl, rfl, by decide +kernel, rfl, by decide +kernel, by decide +kernel⟩
theorem ok_read_closing {f : Addr} {fd : FuncData} (F : Fun Z.K "_read_closing" "_read_closing" s_read_closing f fd) (T : Tz Z.K Z.mg) {C_BadText : Addr}
    (A_BadText : Z.T.an C_BadText = "at") {fI_BadText : Addr} {fdI_BadText : FuncData} (B_BadText : Er Z.K Z.mg "BadText" "BadText.__init__" "at" c_BadText C_BadText fI_BadText fdI_BadText) (I_BadText : FnOk Z.Pg Z.w Z.K Z.mg Z.base CX0 1 fI_BadText fdI_BadText ["self", "at"] (spIni C_BadText "at")) : FnD Z.Pg Z.w Z.K Z.mg Z.base (L2.CX Z.Pg Z.w) 3 f fd ["text", "first", "label"] (spT Z (T_read_closing C_BadText)) := by
  refine okDX F sc_read_closing (fun as Q er h => ?_) (fun cdv A outer s H E G0 er ca hE hr hgd hca => (dss_cons (ds_set (i := 3) sc_read_closing.nd rfl (Or.inl rfl) (de_op op_addA od_add (dr_var 2) (dr_of de_str)))
      (dss_cons (ds_for (passes_of rfl) rfl (di_enumS (by rfl) T.enumerate (de_var 3)) (dg_seq (m := 2) rfl (dgs_cons (dg_name (i := 4) sc_read_closing.nd rfl (Or.inl rfl)) (dgs_cons (dg_name (i := 5) sc_read_closing.nd rfl (Or.inl rfl)) dgs_nil)))
        (dss_cons (ds_if (dt_cmp (op_eqA hr.units) od_eq (dr_of (de_op op_addA od_add (dr_var 1) (dr_var 4))) (dr_of (de_callB call_lenA cd_len (by rfl) T.len (by decide +kernel) (dr_var 0))) (nomark _))
          (dss_one (ds_ret (de_tup (da_cons de_non (da_cons (de_var 1) da_nil)))))
          dss_nil)
        (dss_one (ds_if (dt_cmp (op_neA hr.units) od_ne (dr_of (de_ix (dr_var 0) (dr_of (de_op op_addA od_add (dr_var 1) (dr_var 4))))) (dr_var 5) (nomark _))
          (dss_one (ds_raise A_BadText hE (ps_raise rfl (takes_of rfl rfl rfl rfl) (pmk_oex B_BadText.T B_BadText.ini B_BadText.ty I_BadText hr B_BadText.b .nil pass0 (by rfl) B_BadText.g (pa_cons (de_op op_addA od_add (dr_var 1) (dr_var 4)) pa_nil)))))
          dss_nil))))
      (dss_one (ds_ret (de_tup (da_cons (de_tup (da_cons de_str da_nil)) (da_cons (de_op op_addA od_add (dr_var 1) (dr_of (de_callB call_lenA cd_len (by rfl) T.len (by decide +kernel) (dr_var 3)))) da_nil)))))))) (fun ca as Q er h => ?_)
  · obtain ⟨_, _, _, rfl, _⟩ := t3_inv h
    rfl
  · obtain ⟨a, b, c, rfl, q⟩ := t3_inv h
    obtain ⟨z, i, l, rfl, rfl, rfl, hi, hz, hl, q⟩ := q
    have b2 : 2 ≤ sizeLine := by decide
    have b1 : 1 ≤ sizeLine := by decide
    have zs : z.length ≤ sizeLine := Nat.le_trans hz (by decide)
    have ls : l.length + 1 ≤ sizeLine := Nat.le_trans (show _ ≤ 60001 by omega) (by decide)
    walk_at "d"
    have er : l ++ Str.ofString ">" = S (l.cps.toList ++ [62]) := str_ext (by rw [cps_app, s62]; rfl)
    rw [er]
    refine ⟨ls, _, rfl, ?_⟩
    have el : l.length = l.cps.toList.length := rfl
    refine forW_go (fun ds ρ => ∃ (k : Nat) (s4 s5 : Lc), ds = (enumD (chD (S (l.cps.toList ++ [62])))).drop k ∧ ((k ≤ l.length ∧ one (some l) (.en 0) i (z.cps.toList.drop i) = one (some l) (.en k) (i + k) (z.cps.toList.drop (i + k))) ∨ (k = l.length + 1 ∧ one (some l) (.en 0) i (z.cps.toList.drop i) = .got .cl (i + k))) ∧ i + k ≤ z.length ∧ nbO (some s4) ∧ nbO (some s5) ∧ ρ = [.sh (.str z), .sh (.int (i : Nat)), .sh (.str l), .sh (.str (S (l.cps.toList ++ [62]))), s4, s5]) ?_ ?_ _ _ ⟨0, .un, .un, rfl, .inl ⟨Nat.zero_le _, rfl⟩, hi, trivial, trivial, rfl⟩
    · rintro ρ ⟨k, s4, s5, e1, h1, h2, n4, n5, rfl⟩
      have lk : l.length + 1 ≤ k := by
        have := congrArg List.length e1
        rw [List.length_drop, enum_len, List.length_append] at this
        simp only [List.length_nil, List.length_singleton] at this
        omega
      rcases h1 with ⟨h1, _⟩ | ⟨rfl, h1⟩
      · omega
      · rw [h1] at q
        have q : Q (.tuple [.tuple [.str "close"], .int ((i + (l.length + 1) : Nat) : Int)]) [.sh (.str z), .sh (.int (i : Nat)), .sh (.str l)] := q
        walk_at "d"
        have e : (S (l.cps.toList ++ [62])).length = l.length + 1 := by rw [S_len, List.length_append, ← str_len]; rfl
        rw [e]
        refine ⟨b1, ls, b2, ?_⟩
        rw [show ((i : Nat) : Int) + ((l.length + 1 : Nat) : Int) = ((i + (l.length + 1) : Nat) : Int) by omega]
        exact q
    · rintro K x ds ρ ⟨k, s4, s5, e1, h1, h2, n4, n5, rfl⟩ ih
      obtain ⟨c, ek, ex, ed⟩ := enum_nx e1
      subst ex ed
      have hk : k < l.length + 1 := by
        have := (List.getElem?_eq_some_iff.mp ek).1
        rw [List.length_append, ← str_len] at this
        exact this
      have n4 : nbO (some s4) := n4
      have n5 : nbO (some s5) := n5
      rcases h1 with ⟨h1, e1'⟩ | ⟨h1, _⟩
      · walk_at "d"
        refine ⟨n4, n5, zs, ?_⟩
        rw [show ((i : Nat) : Int) + (k : Nat) = ((i + k : Nat) : Int) by omega]
        cases e : z.cps.toList.drop (i + k) with
        | nil =>
          have := drop_nil (by rw [← str_len]; omega) e
          rw [if_pos (by rw [decide_eq_true_iff, str_len, ← this])]
          rw [e1', e, one_nil] at q
          exact ⟨b2, q⟩
        | cons d r =>
          obtain ⟨hj, er2⟩ := drop_nx e
          have hj : i + k < z.length := hj
          rw [if_neg (by rw [decide_eq_true_iff]; omega)]
          refine ix_ch e (by omega) ?_
          walk_at "d"
          rw [e, one_en, ek] at e1'
          by_cases hd : d = c
          · subst hd
            rw [if_neg (by rw [decide_eq_true rfl]; decide)]
            rw [if_pos rfl] at e1'
            refine ih _ ⟨k + 1, .sh (.int (k : Nat)), .sh (.str ⟨#[d]⟩), rfl, ?_, by omega, trivial, trivial, rfl⟩
            by_cases hk2 : k = l.length
            · rw [if_pos hk2] at e1'
              exact .inr ⟨by omega, e1'⟩
            · rw [if_neg hk2] at e1'
              refine .inl ⟨by omega, ?_⟩
              rw [e1', show i + (k + 1) = i + k + 1 by omega, er2]
          · rw [if_neg (fun x => hd (Option.some.inj x).symm)] at e1'
            rw [e1'] at q
            rw [if_pos (by rw [decide_eq_false (show ¬ (({ cps := #[d] } : Str) = { cps := #[c] }) from fun x => hd (ch_eq (n := c).mp x))]; rfl)]
            exact q
      · omega
end
end Lw
set_option Elab.async false
set_option linter.all false
set_option maxRecDepth 100000
set_option maxHeartbeats 1000000
set_option pp.deepTerms true
set_option pp.maxSteps 200000
namespace Lw
open PySem PySem.Spec PyProof PyProof.Rows L2 So Da Dl
local macro_rules | `(tactic| walk_at "z") => `(tactic| repeat (first | refine ⟨(by decide), ?_⟩ | refine ⟨(by omega), ?_⟩ | refine ⟨rfl, ?_⟩))
section
variable {Z : Zw}
/-- what stands in front of anything but / is read alike whatever is open -/
def noT : Stt → Bool
  | .en _ => false
  | .bg => false
  | _ => true
theorem one_irr {tp : Option Str} : ∀ (l : List Nat) (t : Stt) (a : Nat), noT t = true → one tp t a l = one none t a l
  | [], t, a, _ => by rw [one_nil, one_nil]
  | c :: r, .tx h, a, _ => by rw [one_tx, one_tx, one_irr r (.sk h) (a + 1) rfl, one_irr r (.tx (h ++ [c])) (a + 1) rfl]
  | c :: r, .sk h, a, _ => by rw [one_sk, one_sk, one_irr r (.tx (h ++ [c])) (a + 1) rfl]
  | c :: r, .nm h, a, _ => by rw [one_nm, one_nm, one_irr r (.nm (h ++ [c])) (a + 1) rfl]
theorem bg_irr {tp : Option Str} {l : List Nat} {a : Nat} (h : l.head? ≠ some 47) : one tp .bg a l = one none .bg a l := by rw [one_bgR h, one_bgR h]
def RsA (X : Addr) (Q : PyData → Prop) (er : EK) : Rs → Prop
  | .cut => ∀ b : Nat, Q (.tuple [.none, .int (b : Nat)])
  | .bad p => er (X, .int (p : Nat))
  | .got s b => Q (.tuple [sgD s, .int (b : Nat)])
theorem rsQ_A {X : Addr} {b : Nat} {Q : PyData → Prop} {er : EK} {r : Rs} (h : RsA X Q er r) : RsQ X b Q er r := by
  cases r with
  | cut => exact h b
  | bad p => exact h
  | got s b => exact h
theorem ix_last {xs : List PyData} {x : PyData} {Q : PyData → Prop} (h : Q x) : ixD (.list (xs ++ [x])) (.int (-1)) Q := by
  unfold ixD
  simp only [atI_last]
  exact h
def T_read_sign (X : Addr) : TD := fun as Q er => match as with
  | [.sh (.str z), .sh (.int i), .ob p (.lst ds)] => ∃ (a : Nat) (ls : List Str), i = (a : Nat) ∧ ds = (ls.map .str).reverse ∧ a < z.length ∧ z.length ≤ 60000 ∧ (∀ l ∈ ls, l.length ≤ 60000) ∧ ls.length ≤ 60000 ∧ RsA X (fun D => Q D [.sh (.str z), .sh (.int i), .ob p (.lst ds)]) er (start ls.head? a (z.cps.toList.drop a))
  | _ => False
abbrev s_read_sign : Stmt := top 36
theorem sc_read_sign : FnScope ["text", "at", "labels"] ["text", "at", "labels"] (defScope s_read_sign) := ⟨rfl, rfl, rfl, by decide +kernel, rfl, by decide +kernel, by decide +kernel⟩
local macro_rules | `(tactic| walk_at "d") => `(tactic| simp only [↓dSeq, ↓dFor, ↓reprD, ↓dCallK, ↓dIfS, ↓dAndV, ↓dOrV, ↓dUn, ↓dOp, ↓dC, ↓dVar, ↓derefW, ↓deref, ↓known, ↓noOb, ↓nbO, ↓start0, ↓endsOf, ↓outA, ↓toB, ↓dAnd, ↓dOr, ↓dNot, ↓ofB, ↓dIf, ↓dChain, ↓dgName, ↓dgSeq, ↓dgCons, ↓dgNil, ↓dLc, ↓popW, ↓atOl, ↓isOl, ↓ownS, ↓frzD, ↓dCall, argsOf, argLc, obSlots, upS, upO, ↓noObs, ↓wipeD, List.map_cons, List.map_nil, List.length_cons, List.length_nil, Nat.sub_self, Nat.zero_add, Nat.reduceAdd, Nat.reduceSub, List.replicate, List.append_nil, List.cons_append, List.nil_append, List.getElem?_cons_zero, List.getElem?_cons_succ, List.getElem?_nil, List.set, List.head?, List.tail, Option.getD_some, Option.getD_none, List.nodup_nil, List.nodup_cons, List.not_mem_nil, List.mem_cons, List.mem_singleton, or_false, Nat.reduceEqDiff, true_and, and_true, Bool.not_true, Bool.not_false, if_true, Bool.false_eq_true, if_false, ite_true, ite_false, not_false_eq_true, reduceCtorEq, eqD_int, eqD_str, eqD_bl, eqD_tuple, eqD_list, eqD_tupleR, eqD_listR, eqD_non, neD_int, neD_str, neD_bl, neD_tuple, neD_list, neD_tupleR, neD_listR, neD_non, ↓isD, ↓notD, ix_0, ix_1, ix_2, ix_3, ix_4, ix_L0, ix_L1, ix_L2, itemsD_L, itemsD_T, tupleD_L, tupleD_T, listD_L, listD_T, lenD_L, lenD_T, lenD_S, slD_L, slD_T, addD_I, addD_S, addD_T, addD_L, subD_I, mulD_I, ltD_I, ltD_S, leD_I, gtD_I, geD_I, modD_I, fdivD_I, powD_I, intD_I, intD_B, negD_I, isND_N, isND_I, isND_S, isND_B, isND_T, isND_L, sq_T, sq_L, sq_N, sq_I, sq_S, sq_B, at_0, at_1, at_2, at_3, at_4, ↓isiD, pick, List.filterMap_cons_some, List.filterMap_nil, List.filterMap_cons, ↓ownC, ↓T1, ↓T2, ↓T3, ↓T4, ↓dHeard, ↓capsD, ↓slotsD, ↓lamW, lamSto, cpLc, ↓dHeardS, ↓dAsks, ↓asksW, ↓heardT, ↓Tbox, ↓Ttake, dForN, forNW, fnW, slSD, repD2, ↓intW, ix_ma0, ix_ma1, ix_ma2, ix_ma3, ix_inn0, ix_inn1, ix_inn2, ix_inn3, ix_top0, ix_top1, ix_top2, ix_top3, ix_top4, ↓T_law_pick, ↓T_law_text, ↓T_law_document, ↓T_read_sign])
theorem ok_read_sign {f : Addr} {fd : FuncData} (F : Fun Z.K "_read_sign" "_read_sign" s_read_sign f fd) (T : Tz Z.K Z.mg) {C_BadText : Addr}
    {f_read_text : Addr} {fd_read_text : FuncData} (D_read_text : Df Z.K Z.mg "_read_text" s_read_text ["text", "first"] f_read_text fd_read_text) (G_read_text : FnD Z.Pg Z.w Z.K Z.mg Z.base (L2.CX Z.Pg Z.w) 3 f_read_text fd_read_text ["text", "first"] (spT Z (T_read_text C_BadText)))
    {f_read_closing : Addr} {fd_read_closing : FuncData} (D_read_closing : Df Z.K Z.mg "_read_closing" s_read_closing ["text", "first", "label"] f_read_closing fd_read_closing) (G_read_closing : FnD Z.Pg Z.w Z.K Z.mg Z.base (L2.CX Z.Pg Z.w) 3 f_read_closing fd_read_closing ["text", "first", "label"] (spT Z (T_read_closing C_BadText)))
    {f_read_opening : Addr} {fd_read_opening : FuncData} (D_read_opening : Df Z.K Z.mg "_read_opening" s_read_opening ["text", "first"] f_read_opening fd_read_opening) (G_read_opening : FnD Z.Pg Z.w Z.K Z.mg Z.base (L2.CX Z.Pg Z.w) 3 f_read_opening fd_read_opening ["text", "first"] (spT Z (T_read_opening C_BadText)))
    (A_BadText : Z.T.an C_BadText = "at") {fI_BadText : Addr} {fdI_BadText : FuncData} (B_BadText : Er Z.K Z.mg "BadText" "BadText.__init__" "at" c_BadText C_BadText fI_BadText fdI_BadText) (I_BadText : FnOk Z.Pg Z.w Z.K Z.mg Z.base CX0 2 fI_BadText fdI_BadText ["self", "at"] (spIni C_BadText "at")) : FnD Z.Pg Z.w Z.K Z.mg Z.base (L2.CX Z.Pg Z.w) 4 f fd ["text", "at", "labels"] (spT Z (T_read_sign C_BadText)) := by
  refine okDX F sc_read_sign (fun as Q er h => ?_) (fun cdv A outer s H E G0 er ca hE hr hgd hca => (dss_cons (ds_if (dt_cmp (op_eqA hr.units) od_eq (dr_of (de_ix (dr_var 0) (dr_var 1))) (dr_of de_str) (nomark _))
        (dss_one (ds_ret (de_callX hE (passes_call (takes_of rfl rfl rfl rfl) fun _ _ _ _ h => h) G_read_text hr hgd (by rfl) D_read_text.g D_read_text.F.kp D_read_text.b (drs_cons (dr_var 0) (drs_cons (dr_of (de_op op_addA od_add (dr_var 1) (dr_of de_int))) drs_nil)))))
        dss_nil)
      (dss_cons (ds_if (dt_cmp (op_neA hr.units) od_ne (dr_of (de_ix (dr_var 0) (dr_var 1))) (dr_of de_str) (nomark _))
        (dss_one (ds_raise A_BadText hE (ps_raise rfl (takes_of rfl rfl rfl rfl) (pmk_oex B_BadText.T B_BadText.ini B_BadText.ty I_BadText hr B_BadText.b .nil pass0 (by rfl) B_BadText.g (pa_cons (de_var 1) pa_nil)))))
        dss_nil)
      (dss_cons (ds_if (DW.dt (dw_and (dt_cmp op_ltA od_lt (dr_of (de_op op_addA od_add (dr_var 1) (dr_of de_int))) (dr_of (de_callB call_lenA cd_len (by rfl) T.len (by decide +kernel) (dr_var 0))) (nomark _)) (dw_and1 (dt_cmp (op_eqA hr.units) od_eq (dr_of (de_ix (dr_var 0) (dr_of (de_op op_addA od_add (dr_var 1) (dr_of de_int))))) (dr_of de_str) (nomark _)))))
        (dss_cons (ds_if (dt_cmp (op_eqA hr.units) od_eq (dr_of (de_callB call_lenA cd_len (by rfl) T.len (by decide +kernel) (dr_var 2))) (dr_of de_int) (nomark _))
          (dss_one (ds_raise A_BadText hE (ps_raise rfl (takes_of rfl rfl rfl rfl) (pmk_oex B_BadText.T B_BadText.ini B_BadText.ty I_BadText hr B_BadText.b .nil pass0 (by rfl) B_BadText.g (pa_cons (de_op op_addA od_add (dr_var 1) (dr_of de_int)) pa_nil)))))
          dss_nil)
        (dss_one (ds_ret (de_callX hE (passes_call (takes_of rfl rfl rfl rfl) fun _ _ _ _ h => h) G_read_closing hr hgd (by rfl) D_read_closing.g D_read_closing.F.kp D_read_closing.b (drs_cons (dr_var 0) (drs_cons (dr_of (de_op op_addA od_add (dr_var 1) (dr_of de_int))) (drs_cons (dr_of (de_ix (dr_var 2) (dr_of (de_neg de_int)))) drs_nil)))))))
        dss_nil)
      (dss_one (ds_ret (de_callX hE (passes_call (takes_of rfl rfl rfl rfl) fun _ _ _ _ h => h) G_read_opening hr hgd (by rfl) D_read_opening.g D_read_opening.F.kp D_read_opening.b (drs_cons (dr_var 0) (drs_cons (dr_of (de_op op_addA od_add (dr_var 1) (dr_of de_int))) drs_nil))))))))) (fun ca as Q er h => ?_)
  · unfold T_read_sign at h
    split at h
    · rfl
    · exact h.elim
  · unfold T_read_sign at h
    split at h
    · rename_i z i p ds
      obtain ⟨a, ls, rfl, rfl, ha, hz, hls, hln, q⟩ := h
      have zs : z.length ≤ sizeLine := Nat.le_trans hz (by decide)
      have az : (a : Int) + 1 = ((a + 1 : Nat) : Int) := by omega
      have az2 : (a : Int) + 2 = ((a + 2 : Nat) : Int) := by omega
      walk_at "d"
      rw [az, az2]
      cases e : z.cps.toList.drop a with
      | nil => exact absurd (drop_nil (by rw [← str_len]; omega) e) (by rw [← str_len]; omega)
      | cons c r =>
        obtain ⟨hj, er'⟩ := drop_nx e
        rw [e] at q
        have q : RsA C_BadText _ er (if c = 34 then one ls.head? (.tx []) (a + 1) r else if c = 60 then one ls.head? .bg (a + 1) r else .bad a) := q
        refine ix_ch e (by omega) ?_
        walk_at "d"
        by_cases c34 : c = 34
        · rw [if_pos c34] at q
          rw [if_pos (by rw [decide_eq_true_iff, s34, ch_eq]; exact c34)]
          refine ⟨z, a + 1, rfl, rfl, by omega, hz, rsQ_A ?_⟩
          rw [er', ← one_irr (tp := ls.head?) r (.tx []) (a + 1) rfl]
          exact q
        · rw [if_neg c34] at q
          rw [if_neg (by rw [decide_eq_true_iff, s34, ch_eq]; exact c34)]
          refine ix_ch e (by omega) ?_
          walk_at "d"
          by_cases c60 : c = 60
          · rw [if_pos c60] at q
            rw [if_neg (by rw [s60, decide_eq_true (ch_eq.mpr c60)]; decide)]
            refine ⟨zs, ?_⟩
            have opening : r.head? ≠ some 47 → ∃ (z_5 : Str) (a_1 : Nat), PyData.str z = .str z_5 ∧ PyData.int ((a + 1 : Nat) : Int) = .int (a_1 : Nat) ∧ a_1 ≤ z_5.length ∧ z_5.length ≤ 60000 ∧ (z_5.cps.toList.drop a_1).head? ≠ some 47 ∧ RsQ C_BadText a_1 (fun r => Q r [.sh (.str z), .sh (.int (a : Nat)), .ob p (.lst (ls.map PyData.str).reverse)]) er (one none .bg a_1 (z_5.cps.toList.drop a_1)) := fun h => by
              refine ⟨z, a + 1, rfl, rfl, by omega, hz, by rw [er']; exact h, rsQ_A ?_⟩
              rw [er', ← bg_irr (tp := ls.head?) h]
              exact q
            cases e2 : r with
            | nil =>
              rw [e2] at er'
              have := drop_nil (by rw [← str_len]; omega) er'
              rw [if_neg (by rw [decide_eq_true_iff, str_len, ← this]; omega)]
              exact opening (by rw [e2]; exact fun x => nomatch x)
            | cons d r2 =>
              rw [e2] at er'
              obtain ⟨hj2, er2⟩ := drop_nx er'
              have hj2 : a + 1 < z.length := hj2
              rw [if_pos (by rw [decide_eq_true_iff]; omega)]
              refine ix_ch er' (by omega) ?_
              walk_at "d"
              by_cases c47 : d = 47
              · rw [if_pos (by rw [decide_eq_true_iff, s47, ch_eq]; exact c47)]
                rw [e2] at q
                cases ls with
                | nil =>
                  have q : RsA C_BadText _ er (one none .bg (a + 1) (d :: r2)) := q
                  rw [one_bgN, if_pos c47] at q
                  rw [if_pos (by decide)]
                  exact q
                | cons l ls =>
                  have q : RsA C_BadText _ er (one (some l) .bg (a + 1) (d :: r2)) := q
                  rw [one_bgS, if_pos c47] at q
                  rw [List.map_cons, List.reverse_cons] at q ⊢
                  rw [if_neg (by rw [decide_eq_true_iff, List.length_append, List.length_singleton]; omega)]
                  refine ix_last ⟨z, a + 2, l, rfl, rfl, rfl, by omega, hz, hls l List.mem_cons_self, rsQ_A ?_⟩
                  rw [show a + 2 = a + 1 + 1 from rfl, er2]
                  exact q
              · rw [if_neg (by rw [decide_eq_true_iff, s47, ch_eq]; exact c47)]
                exact opening (by rw [e2]; exact fun x => c47 (Option.some.inj x))
          · rw [if_neg c60] at q
            rw [if_pos (by rw [s60, decide_eq_false (fun x => c60 (ch_eq.mp x))]; rfl)]
            exact q
    · exact h.elim
end
end Lw
set_option Elab.async false
set_option linter.all false
set_option maxRecDepth 100000
set_option maxHeartbeats 1000000
set_option pp.deepTerms true
set_option pp.maxSteps 200000
namespace Lw
open PySem PySem.Spec PyProof PyProof.Rows L2 So Da Dl
local macro_rules | `(tactic| walk_at "z") => `(tactic| repeat (first | refine ⟨(by decide), ?_⟩ | refine ⟨(by omega), ?_⟩ | refine ⟨rfl, ?_⟩))
section
variable {Z : Zw}
theorem one_got {tp : Option Str} : ∀ (l : List Nat) (t : Stt) (a : Nat) {s : Sg} {b : Nat}, one tp t a l = .got s b → a < b ∧ b ≤ a + l.length
  | [], t, a, s, b, h => by rw [one_nil] at h; cases h
  | c :: r, .tx x, a, s, b, h => by
    rw [one_tx] at h
    rw [List.length_cons]
    split at h
    · cases h; omega
    · split at h
      · have := one_got r _ _ h; omega
      · have := one_got r _ _ h; omega
  | c :: r, .sk x, a, s, b, h => by
    rw [one_sk] at h
    rw [List.length_cons]
    split at h
    · have := one_got r _ _ h; omega
    · cases h
  | c :: r, .nm x, a, s, b, h => by
    rw [one_nm] at h
    rw [List.length_cons]
    split at h
    · cases h; omega
    · split at h
      · have := one_got r _ _ h; omega
      · cases h
  | c :: r, .bg, a, s, b, h => by
    rw [List.length_cons]
    cases tp with
    | none =>
      rw [one_bgN] at h
      split at h
      · cases h
      · split at h
        · have := one_got r _ _ h; omega
        · cases h
    | some l =>
      rw [one_bgS] at h
      split at h
      · have := one_got r _ _ h; omega
      · split at h
        · have := one_got r _ _ h; omega
        · cases h
  | c :: r, .en k, a, s, b, h => by
    rw [List.length_cons]
    cases tp with
    | none => cases h
    | some l =>
      rw [one_en] at h
      split at h
      · split at h
        · cases h; omega
        · have := one_got r _ _ h; omega
      · cases h
theorem start_got {tp : Option Str} {l : List Nat} {a b : Nat} {s : Sg} (h : start tp a l = .got s b) : a < b ∧ b ≤ a + l.length := by
  cases l with
  | nil => cases h
  | cons c r =>
    have h : (if c = 34 then one tp (.tx []) (a + 1) r else if c = 60 then one tp .bg (a + 1) r else .bad a) = .got s b := h
    rw [List.length_cons]
    split at h
    · have := one_got r _ _ h; omega
    · split at h
      · have := one_got r _ _ h; omega
      · cases h
/-- what is held, and what is asked of the held -/
def hel : Stt → List Nat
  | .tx h => h
  | .sk h => h
  | .nm h => h
  | _ => []
def sgC : Sg → List Nat
  | .op l => l.cps.toList
  | .tx z => z.cps.toList
  | .cl => []
theorem sgC_len {s : Sg} : (sgC s).length = sgLen s := by cases s <;> rfl
/-- what is told was held, or stands in the text; nothing is closed where nothing is open -/
theorem one_in {tp : Option Str} : ∀ (l : List Nat) (t : Stt) (a : Nat) {s : Sg} {b : Nat}, one tp t a l = .got s b → ((sgC s).length ≤ (hel t).length + l.length ∧ ∀ c ∈ sgC s, c ∈ hel t ∨ c ∈ l) ∧ (s = .cl → tp ≠ none)
  | [], t, a, s, b, h => by rw [one_nil] at h; cases h
  | c :: r, .tx x, a, s, b, h => by
    rw [one_tx] at h
    rw [List.length_cons]
    split at h
    · cases h; exact ⟨⟨by show x.length ≤ x.length + _; omega, fun d m => .inl m⟩, fun e => nomatch e⟩
    · split at h
      · obtain ⟨⟨h1, h2⟩, h3⟩ := one_in r _ _ h
        refine ⟨⟨?_, fun d m => ?_⟩, h3⟩
        · simp only [hel] at h1 ⊢; omega
        · rcases h2 d m with q | q
          · exact .inl q
          · exact .inr (List.mem_cons_of_mem _ q)
      · obtain ⟨⟨h1, h2⟩, h3⟩ := one_in r _ _ h
        refine ⟨⟨?_, fun d m => ?_⟩, h3⟩
        · simp only [hel, List.length_append, List.length_singleton] at h1 ⊢; omega
        · rcases h2 d m with q | q
          · rcases List.mem_append.mp q with q | q
            · exact .inl q
            · exact .inr (by rw [List.mem_singleton.mp q]; exact List.mem_cons_self)
          · exact .inr (List.mem_cons_of_mem _ q)
  | c :: r, .sk x, a, s, b, h => by
    rw [one_sk] at h
    rw [List.length_cons]
    split at h
    · obtain ⟨⟨h1, h2⟩, h3⟩ := one_in r _ _ h
      refine ⟨⟨?_, fun d m => ?_⟩, h3⟩
      · simp only [hel, List.length_append, List.length_singleton] at h1 ⊢; omega
      · rcases h2 d m with q | q
        · rcases List.mem_append.mp q with q | q
          · exact .inl q
          · exact .inr (by rw [List.mem_singleton.mp q]; exact List.mem_cons_self)
        · exact .inr (List.mem_cons_of_mem _ q)
    · cases h
  | c :: r, .nm x, a, s, b, h => by
    rw [one_nm] at h
    rw [List.length_cons]
    split at h
    · cases h; exact ⟨⟨by show x.length ≤ x.length + _; omega, fun d m => .inl m⟩, fun e => nomatch e⟩
    · split at h
      · obtain ⟨⟨h1, h2⟩, h3⟩ := one_in r _ _ h
        refine ⟨⟨?_, fun d m => ?_⟩, h3⟩
        · simp only [hel, List.length_append, List.length_singleton] at h1 ⊢; omega
        · rcases h2 d m with q | q
          · rcases List.mem_append.mp q with q | q
            · exact .inl q
            · exact .inr (by rw [List.mem_singleton.mp q]; exact List.mem_cons_self)
          · exact .inr (List.mem_cons_of_mem _ q)
      · cases h
  | c :: r, .bg, a, s, b, h => by
    rw [List.length_cons]
    have key : one tp (.nm [c]) (a + 1) r = .got s b → ((sgC s).length ≤ (hel .bg).length + (r.length + 1) ∧ ∀ d ∈ sgC s, d ∈ hel .bg ∨ d ∈ c :: r) ∧ (s = .cl → tp ≠ none) := fun h => by
      obtain ⟨⟨h1, h2⟩, h3⟩ := one_in r _ _ h
      refine ⟨⟨?_, fun d m => ?_⟩, h3⟩
      · simp only [hel, List.length_singleton, List.length_nil] at h1 ⊢; omega
      · rcases h2 d m with q | q
        · exact .inr (by rw [List.mem_singleton.mp q]; exact List.mem_cons_self)
        · exact .inr (List.mem_cons_of_mem _ q)
    cases tp with
    | none =>
      rw [one_bgN] at h
      split at h
      · cases h
      · split at h
        · exact key h
        · cases h
    | some l =>
      rw [one_bgS] at h
      split at h
      · obtain ⟨⟨h1, h2⟩, h3⟩ := one_in r _ _ h
        refine ⟨⟨?_, fun d m => ?_⟩, h3⟩
        · simp only [hel, List.length_nil] at h1 ⊢; omega
        · rcases h2 d m with q | q
          · exact .inl q
          · exact .inr (List.mem_cons_of_mem _ q)
      · split at h
        · exact key h
        · cases h
  | c :: r, .en k, a, s, b, h => by
    rw [List.length_cons]
    cases tp with
    | none => cases h
    | some l =>
      rw [one_en] at h
      split at h
      · split at h
        · cases h; exact ⟨⟨Nat.zero_le _, fun d m => nomatch m⟩, fun _ e => nomatch e⟩
        · obtain ⟨⟨h1, h2⟩, h3⟩ := one_in r _ _ h
          refine ⟨⟨?_, fun d m => ?_⟩, h3⟩
          · simp only [hel, List.length_nil] at h1 ⊢; omega
          · rcases h2 d m with q | q
            · exact .inl q
            · exact .inr (List.mem_cons_of_mem _ q)
      · cases h
theorem start_in {tp : Option Str} {l : List Nat} {a b : Nat} {s : Sg} (h : start tp a l = .got s b) : ((sgC s).length ≤ l.length ∧ ∀ c ∈ sgC s, c ∈ l) ∧ (s = .cl → tp ≠ none) := by
  cases l with
  | nil => cases h
  | cons c r =>
    have h : (if c = 34 then one tp (.tx []) (a + 1) r else if c = 60 then one tp .bg (a + 1) r else .bad a) = .got s b := h
    rw [List.length_cons]
    have key : ∀ {t : Stt}, hel t = [] → one tp t (a + 1) r = .got s b → ((sgC s).length ≤ r.length + 1 ∧ ∀ d ∈ sgC s, d ∈ c :: r) ∧ (s = .cl → tp ≠ none) := fun {t} e h => by
      obtain ⟨⟨h1, h2⟩, h3⟩ := one_in r _ _ h
      rw [e] at h1 h2
      refine ⟨⟨?_, fun d m => ?_⟩, h3⟩
      · simp only [List.length_nil] at h1; omega
      · rcases h2 d m with q | q
        · cases q
        · exact List.mem_cons_of_mem _ q
    split at h
    · exact key rfl h
    · split at h
      · exact key rfl h
      · cases h
def nxt : Sg → List Str → List Str
  | .op l, ls => l :: ls
  | .cl, ls => ls.tail
  | .tx _, ls => ls
abbrev Rdd := List Sg × Nat × Option Nat × List Str
def pre (acc : List Sg) (r : Rdd) : Rdd := (acc ++ r.1, r.2)
def rd : Nat → List Nat → Nat → List Str → Rdd
  | 0, _, a, ls => ([], a, none, ls)
  | n + 1, L, a, ls => match start ls.head? a (L.drop a) with
    | .cut => ([], a, none, ls)
    | .bad p => ([], a, some p, ls)
    | .got s b => pre [s] (rd n L b (nxt s ls))
theorem rd_cut {n a : Nat} {L : List Nat} {ls : List Str} (h : start ls.head? a (L.drop a) = .cut) : rd (n + 1) L a ls = ([], a, none, ls) := by
  unfold rd
  rw [h]
theorem rd_bad {n a p : Nat} {L : List Nat} {ls : List Str} (h : start ls.head? a (L.drop a) = .bad p) : rd (n + 1) L a ls = ([], a, some p, ls) := by
  unfold rd
  rw [h]
theorem rd_got {n a b : Nat} {s : Sg} {L : List Nat} {ls : List Str} (h : start ls.head? a (L.drop a) = .got s b) : rd (n + 1) L a ls = pre [s] (rd n L b (nxt s ls)) := by
  conv => lhs; unfold rd
  rw [h]
theorem pre_pre {x y : List Sg} {r : Rdd} : pre x (pre y r) = pre (x ++ y) r := by
  unfold pre
  rw [List.append_assoc]
def rdA (z : Str) : Rdd := rd (z.length + 1) z.cps.toList 0 []
def BhQ (X : Addr) (Q : List Sg → Nat → List Str → Prop) (er : EK) (r : Rdd) : Prop := match r.2.2.1 with
  | some p => er (X, .int (p : Nat))
  | none => Q r.1 r.2.1 r.2.2.2
theorem bhq_imp {X : Addr} {Q Q' : List Sg → Nat → List Str → Prop} {er : EK} {r : Rdd} (h : BhQ X Q er r) (i : ∀ ss w ls, r = (ss, w, none, ls) → Q ss w ls → Q' ss w ls) : BhQ X Q' er r := by
  obtain ⟨ss, w, bad, ls⟩ := r
  cases bad with
  | none => exact i _ _ _ rfl h
  | some p => exact h
abbrev T_markup_behind (X : Addr) : TD := T2 fun D O Q er => O = .tuple [] ∧ ((isStr D = false ∧ er (X, .int (-1))) ∨ ∃ z : Str, D = .str z ∧ z.length ≤ 60000 ∧ BhQ X (fun ss w ls => Q (.tuple [.tuple (ss.map sgD), .int (w : Nat), .list (ls.map .str).reverse])) er (rdA z))
abbrev s_markup_behind : Stmt := top 37
theorem sc_markup_behind : FnScope ["text", "outer", "signs", "labels", "at", "sign", "behind"] ["text", "outer"] (defScope s_markup_behind) := ⟨rfl, rfl, rfl, by decide +kernel, rfl, by decide +kernel, by decide +kernel⟩
local macro_rules | `(tactic| walk_at "d") => `(tactic| simp only [↓dSeq, ↓dFor, ↓reprD, ↓dCallK, ↓dIfS, ↓dAndV, ↓dOrV, ↓dUn, ↓dOp, ↓dC, ↓dVar, ↓derefW, ↓deref, ↓known, ↓noOb, ↓nbO, ↓start0, ↓endsOf, ↓outA, ↓toB, ↓dAnd, ↓dOr, ↓dNot, ↓ofB, ↓dIf, ↓dChain, ↓dgName, ↓dgSeq, ↓dgCons, ↓dgNil, ↓dLc, ↓popW, ↓atOl, ↓isOl, ↓ownS, ↓frzD, ↓dCall, argsOf, argLc, obSlots, upS, upO, ↓noObs, ↓wipeD, List.map_cons, List.map_nil, List.length_cons, List.length_nil, Nat.sub_self, Nat.zero_add, Nat.reduceAdd, Nat.reduceSub, List.replicate, List.append_nil, List.cons_append, List.nil_append, List.getElem?_cons_zero, List.getElem?_cons_succ, List.getElem?_nil, List.set, List.head?, List.tail, Option.getD_some, Option.getD_none, List.nodup_nil, List.nodup_cons, List.not_mem_nil, List.mem_cons, List.mem_singleton, or_false, Nat.reduceEqDiff, true_and, and_true, Bool.not_true, Bool.not_false, if_true, Bool.false_eq_true, if_false, ite_true, ite_false, not_false_eq_true, reduceCtorEq, eqD_int, eqD_str, eqD_bl, eqD_tuple, eqD_list, eqD_tupleR, eqD_listR, eqD_non, neD_int, neD_str, neD_bl, neD_tuple, neD_list, neD_tupleR, neD_listR, neD_non, ↓isD, ↓notD, ix_0, ix_1, ix_2, ix_3, ix_4, ix_L0, ix_L1, ix_L2, itemsD_L, itemsD_T, tupleD_L, tupleD_T, listD_L, listD_T, lenD_L, lenD_T, lenD_S, slD_L, slD_T, addD_I, addD_S, addD_T, addD_L, subD_I, mulD_I, ltD_I, ltD_S, leD_I, gtD_I, geD_I, modD_I, fdivD_I, powD_I, intD_I, intD_B, negD_I, isND_N, isND_I, isND_S, isND_B, isND_T, isND_L, sq_T, sq_L, sq_N, sq_I, sq_S, sq_B, at_0, at_1, at_2, at_3, at_4, ↓isiD, pick, List.filterMap_cons_some, List.filterMap_nil, List.filterMap_cons, ↓ownC, ↓T1, ↓T2, ↓T3, ↓T4, ↓dHeard, ↓capsD, ↓slotsD, ↓lamW, lamSto, cpLc, ↓dHeardS, ↓dAsks, ↓asksW, ↓heardT, ↓Tbox, ↓Ttake, dForN, forNW, fnW, slSD, repD2, ↓intW, ix_ma0, ix_ma1, ix_ma2, ix_ma3, ix_inn0, ix_inn1, ix_inn2, ix_inn3, ix_top0, ix_top1, ix_top2, ix_top3, ix_top4, ↓T_law_pick, ↓T_law_text, ↓T_law_document, ↓T_read_sign])
theorem ok_markup_behind {f : Addr} {fd : FuncData} (F : Fun Z.K "markup_behind" "markup_behind" s_markup_behind f fd) (T : Tz Z.K Z.mg) {C_BadText : Addr}
    {f_read_sign : Addr} {fd_read_sign : FuncData} (D_read_sign : Df Z.K Z.mg "_read_sign" s_read_sign ["text", "at", "labels"] f_read_sign fd_read_sign) (G_read_sign : FnD Z.Pg Z.w Z.K Z.mg Z.base (L2.CX Z.Pg Z.w) 4 f_read_sign fd_read_sign ["text", "at", "labels"] (spT Z (T_read_sign C_BadText)))
    (A_BadText : Z.T.an C_BadText = "at") {fI_BadText : Addr} {fdI_BadText : FuncData} (B_BadText : Er Z.K Z.mg "BadText" "BadText.__init__" "at" c_BadText C_BadText fI_BadText fdI_BadText) (I_BadText : FnOk Z.Pg Z.w Z.K Z.mg Z.base CX0 3 fI_BadText fdI_BadText ["self", "at"] (spIni C_BadText "at")) : FnD Z.Pg Z.w Z.K Z.mg Z.base (L2.CX Z.Pg Z.w) 5 f fd ["text", "outer"] (spT Z (T_markup_behind C_BadText)) := by
  refine okDX F sc_markup_behind (fun as Q er h => ?_) (fun cdv A outer s H E G0 er ca hE hr hgd hca => (dss_cons (ds_if (dt_not (dt_val (de_isi (T := "str") (kf := isStr) kitf_str (by rfl) T.isi (by rfl) T.str (by decide +kernel) (by decide) (by decide) (dr_var 0))))
        (dss_one (ds_raise A_BadText hE (ps_raise rfl (takes_of rfl rfl rfl rfl) (pmk_oex B_BadText.T B_BadText.ini B_BadText.ty I_BadText hr B_BadText.b .nil pass0 (by rfl) B_BadText.g (pa_cons (de_neg de_int) pa_nil)))))
        dss_nil)
      (dss_cons (ds_own (i := 2) sc_markup_behind.nd rfl (Or.inl rfl) (df_lst da_nil))
      (dss_cons (ds_own (i := 3) sc_markup_behind.nd rfl (Or.inl rfl) (df_list (by rfl) T.list (dr_var 1)))
      (dss_cons (ds_set (i := 4) sc_markup_behind.nd rfl (Or.inl rfl) de_int)
      (dss_cons (ds_while (passes_of rfl) (dt_cmp op_ltA od_lt (dr_var 4) (dr_of (de_callB call_lenA cd_len (by rfl) T.len (by decide +kernel) (dr_var 0))) (nomark _))
        (dss_cons (ds_asg (de_callX hE (passes_call (takes_of rfl rfl rfl rfl) fun _ _ _ _ h => h) G_read_sign hr hgd (by rfl) D_read_sign.g D_read_sign.F.kp D_read_sign.b (drs_cons (dr_var 0) (drs_cons (dr_var 4) (drs_cons (dr_var 3) drs_nil)))) (dg_seq (m := 2) rfl (dgs_cons (dg_name (i := 5) sc_markup_behind.nd rfl (Or.inl rfl)) (dgs_cons (dg_name (i := 6) sc_markup_behind.nd rfl (Or.inl rfl)) dgs_nil))))
        (dss_cons (ds_if (dt_cmp op_isN od_is (dr_var 5) (dr_of de_non) (nomark _))
          (dss_one ds_break)
          dss_nil)
        (dss_cons (ds_if (dt_cmp (op_eqA hr.units) od_eq (dr_of (de_ix (dr_var 5) (dr_of de_int))) (dr_of de_str) (nomark _))
          (dss_one (ds_app (ps_expr (pe_bm PySem.F.plainAttrs_list PySem.F.slot_list_append PySem.F.type_list_append mt_append (pv 3) (pa_cons (de_ix (dr_var 5) (dr_of de_int)) pa_nil)))))
          (dss_one (ds_if (dt_cmp (op_eqA hr.units) od_eq (dr_of (de_ix (dr_var 5) (dr_of de_int))) (dr_of de_str) (nomark _))
            (dss_one (ds_pop (ps_expr (pe_bm0 PySem.F.plainAttrs_list PySem.F.slot_list_pop PySem.F.type_list_pop mt_pop (pv 3)))))
            dss_nil)))
        (dss_cons (ds_app (ps_expr (pe_bm PySem.F.plainAttrs_list PySem.F.slot_list_append PySem.F.type_list_append mt_append (pv 2) (pa_cons (de_var 5) pa_nil))))
        (dss_one (ds_set (i := 4) sc_markup_behind.nd rfl (Or.inl rfl) (de_var 6))))))))
      (dss_one (ds_frz 3 (by decide) (ds_ret (de_tup (da_cons (de_callTy call_tupleF cd_tuple (by rfl) T.tuple (by decide +kernel) (dr_var 2)) (da_cons (de_var 4) (da_cons (de_var 3) da_nil))))))))))))) (fun ca as Q er h => ?_)
  · obtain ⟨_, _, rfl, _⟩ := t2_inv h
    rfl
  · obtain ⟨a, b, rfl, q⟩ := t2_inv h
    obtain ⟨rfl, q⟩ := q
    rcases q with ⟨hs, q⟩ | ⟨z, rfl, hz, q⟩
    · walk_at "d"
      rw [if_pos (show (!isStr a) = true from by rw [hs]; rfl)]
      exact q
    have zs : z.length ≤ sizeLine := Nat.le_trans hz (by decide)
    have b3 : 3 ≤ sizeLine := by decide
    walk_at "d"
    rw [if_neg (show ¬ (!isStr (.str z)) = true from Bool.false_ne_true)]
    refine ⟨Nat.zero_le _, by decide, fun p1 => ⟨by decide, fun p2 => ?_⟩⟩
    refine ⟨fun m ρ => ∃ (n a : Nat) (acc : List Sg) (ls : List Str) (s5 s6 : Lc), rdA z = pre acc (rd n z.cps.toList a ls) ∧ z.length < a + n ∧ a ≤ z.length ∧ (∀ l ∈ ls, l.length ≤ 60000) ∧ ls.length ≤ a ∧ acc.length ≤ a ∧ m = z.length - a ∧ nbO (some s5) ∧ nbO (some s6) ∧ ρ = [.sh (.str z), .sh (.tuple []), .ob p1 (.lst (acc.map sgD)), .ob p2 (.lst (ls.map .str).reverse), .sh (.int (a : Nat)), s5, s6], ⟨_, z.length + 1, 0, [], [], .un, .un, rfl, by omega, Nat.zero_le _, (fun _ h => nomatch h), Nat.le_refl _, Nat.le_refl _, rfl, trivial, trivial, rfl⟩, ?_⟩
    rintro m ρ ⟨n, a, acc, ls, s5, s6, e1, h1, h2, h3, h4, h5, e2, n5, n6, rfl⟩
    obtain ⟨n, rfl⟩ : ∃ k, n = k + 1 := ⟨n - 1, by omega⟩
    have n5 : nbO (some s5) := n5
    have n6 : nbO (some s6) := n6
    have la : (acc.map sgD).length < sizeLine := Nat.lt_of_le_of_lt (by rw [List.length_map]; omega : _ ≤ 60000) (by decide)
    have ll : (ls.map PyData.str).reverse.length < sizeLine := Nat.lt_of_le_of_lt (by rw [List.length_reverse, List.length_map]; omega : _ ≤ 60000) (by decide)
    walk_at "d"
    refine ⟨zs, ?_⟩
    have fin : rd (n + 1) z.cps.toList a ls = ([], a, none, ls) → Q (.tuple [.tuple (acc.map sgD), .int (a : Nat), .list (ls.map PyData.str).reverse]) [.sh (.str z), .sh (.tuple [])] := fun e => by
      rw [e1, e] at q
      have q : Q (.tuple [.tuple ((acc ++ []).map sgD), .int (a : Nat), .list (ls.map PyData.str).reverse]) [.sh (.str z), .sh (.tuple [])] := q
      rw [List.append_nil] at q
      exact q
    by_cases ha : a < z.length
    · rw [if_pos (by rw [decide_eq_true_iff]; omega)]
      refine ⟨a, ls, rfl, rfl, ha, hz, h3, by omega, ?_⟩
      show RsA C_BadText _ er (start ls.head? a (z.cps.toList.drop a))
      cases e : start ls.head? a (z.cps.toList.drop a) with
      | cut =>
        refine fun b => ⟨rfl, n5, n6, rfl, ?_⟩
        rw [if_pos (show isND .none = true from rfl)]
        exact ⟨b3, fin (rd_cut e)⟩
      | bad p =>
        rw [e1, rd_bad e] at q
        exact q
      | got s b =>
        obtain ⟨hb1, hb2⟩ := start_got e
        rw [List.length_drop, ← str_len] at hb2
        obtain ⟨⟨hc1, _⟩, hc2⟩ := start_in e
        rw [List.length_drop, ← str_len, sgC_len] at hc1
        rw [rd_got e, pre_pre] at e1
        have nx : ∀ ls', nxt s ls = ls' → ls'.length ≤ ls.length + 1 → (∀ l ∈ ls', l.length ≤ 60000) → ∃ m', m' < m ∧ ∃ (n a : Nat) (acc_1 : List Sg) (ls_2 : List Str) (s5 s6 : Lc), rdA z = pre acc_1 (rd n z.cps.toList a ls_2) ∧ z.length < a + n ∧ a ≤ z.length ∧ (∀ l ∈ ls_2, l.length ≤ 60000) ∧ ls_2.length ≤ a ∧ acc_1.length ≤ a ∧ m' = z.length - a ∧ nbO (some s5) ∧ nbO (some s6) ∧ [Lc.sh (.str z), .sh (.tuple []), .ob p1 (.lst (acc.map sgD ++ [sgD s])), .ob p2 (.lst (ls'.map PyData.str).reverse), .sh (.int (b : Nat)), .sh (sgD s), .sh (.int (b : Nat))] = [Lc.sh (.str z), .sh (.tuple []), .ob p1 (.lst (acc_1.map sgD)), .ob p2 (.lst (ls_2.map PyData.str).reverse), .sh (.int (a : Nat)), s5, s6] := fun ls' el hl hp =>
          ⟨z.length - b, by omega, n, b, acc ++ [s], ls', .sh (sgD s), .sh (.int (b : Nat)), by rw [e1, el], by omega, by omega, hp, by omega, by rw [List.length_append, List.length_singleton]; omega, rfl, trivial, trivial, by rw [List.map_append, List.map_singleton]⟩
        cases s with
        | op l =>
          have nx := nx (l :: ls) rfl (Nat.le_refl _) fun y m => by
            rcases List.mem_cons.mp m with rfl | m
            · show sgLen (.op y) ≤ 60000
              omega
            · exact h3 y m
          rw [List.map_cons, List.reverse_cons] at nx
          refine ⟨rfl, n5, n6, rfl, ?_⟩
          simp only [sgD] at nx ⊢
          walk_at "d"
          rw [if_pos (by decide +kernel)]
          exact ⟨ll, la, nx⟩
        | tx y =>
          have nx := nx ls rfl (by omega) h3
          refine ⟨rfl, n5, n6, rfl, ?_⟩
          simp only [sgD] at nx ⊢
          walk_at "d"
          rw [if_neg (by decide +kernel), if_neg (by decide +kernel)]
          exact ⟨la, nx⟩
        | cl =>
          cases ls with
          | nil => exact absurd rfl (hc2 rfl)
          | cons l ls =>
            have nx := nx ls rfl (by rw [List.length_cons]; omega) fun y m => h3 y (List.mem_cons_of_mem _ m)
            refine ⟨rfl, n5, n6, rfl, ?_⟩
            rw [List.map_cons, List.reverse_cons]
            simp only [sgD] at nx ⊢
            walk_at "d"
            rw [if_neg (by decide +kernel), if_pos (by decide +kernel), List.getLast?_concat, List.dropLast_concat]
            exact ⟨la, nx⟩
    · rw [if_neg (by rw [decide_eq_true_iff]; omega)]
      have ea : a = z.length := by omega
      refine ⟨b3, fin (rd_cut ?_)⟩
      rw [List.drop_of_length_le (by rw [← str_len]; omega)]
      rfl
abbrev T_read_markup (X : Addr) : TD := T1 fun D Q er => (isStr D = false ∧ er (X, .int (-1))) ∨ ∃ z : Str, D = .str z ∧ z.length ≤ 60000 ∧ BhQ X (fun ss w _ => Q (.tuple [.tuple (ss.map sgD), .int (w : Nat)])) er (rdA z)
abbrev s_read_markup : Stmt := top 38
theorem sc_read_markup : FnScope ["text", "signs", "behind", "_"] ["text"] (defScope s_read_markup) := ⟨rfl, rfl, rfl, by decide +kernel, rfl, by decide +kernel, by decide +kernel⟩
theorem ok_read_markup {f : Addr} {fd : FuncData} (F : Fun Z.K "read_markup" "read_markup" s_read_markup f fd) (T : Tz Z.K Z.mg) {C_BadText : Addr}
    {f_markup_behind : Addr} {fd_markup_behind : FuncData} (D_markup_behind : Df Z.K Z.mg "markup_behind" s_markup_behind ["text", "outer"] f_markup_behind fd_markup_behind) (G_markup_behind : FnD Z.Pg Z.w Z.K Z.mg Z.base (L2.CX Z.Pg Z.w) 5 f_markup_behind fd_markup_behind ["text", "outer"] (spT Z (T_markup_behind C_BadText))) : FnD Z.Pg Z.w Z.K Z.mg Z.base (L2.CX Z.Pg Z.w) 6 f fd ["text"] (spT Z (T_read_markup C_BadText)) := by
  refine okDX F sc_read_markup (fun as Q er h => ?_) (fun cdv A outer s H E G0 er ca hE hr hgd hca => (dss_cons (ds_asg (de_callX hE (passes_call (takes_of rfl rfl rfl rfl) fun _ _ _ _ h => h) G_markup_behind hr hgd (by rfl) D_markup_behind.g D_markup_behind.F.kp D_markup_behind.b (drs_cons (dr_var 0) (drs_cons (dr_of (de_tup da_nil)) drs_nil))) (dg_seq (m := 3) rfl (dgs_cons (dg_name (i := 1) sc_read_markup.nd rfl (Or.inl rfl)) (dgs_cons (dg_name (i := 2) sc_read_markup.nd rfl (Or.inl rfl)) (dgs_cons (dg_name (i := 3) sc_read_markup.nd rfl (Or.inl rfl)) dgs_nil)))))
      (dss_one (ds_ret (de_tup (da_cons (de_var 1) (da_cons (de_var 2) da_nil))))))) (fun ca as Q er h => ?_)
  · obtain ⟨_, rfl, _⟩ := t1_inv h
    rfl
  · obtain ⟨a, rfl, q⟩ := t1_inv h
    walk_at "d"
    rcases q with ⟨hs, q⟩ | ⟨z, rfl, hz, q⟩
    · exact ⟨Nat.zero_le _, .inl ⟨hs, q⟩⟩
    · exact ⟨Nat.zero_le _, .inr ⟨z, rfl, hz, bhq_imp q fun ss w ls _ q => ⟨by decide, q⟩⟩⟩
theorem rd_len {L : List Nat} : ∀ (n a : Nat) (ls : List Str), a ≤ L.length → (rd n L a ls).1.length + a ≤ L.length ∧ a ≤ (rd n L a ls).2.1 ∧ (rd n L a ls).2.1 ≤ L.length
  | 0, a, ls, h => ⟨by show 0 + a ≤ _; omega, Nat.le_refl _, h⟩
  | n + 1, a, ls, h => by
    cases e : start ls.head? a (L.drop a) with
    | cut => rw [rd_cut e]; exact ⟨by show 0 + a ≤ _; omega, Nat.le_refl _, h⟩
    | bad p => rw [rd_bad e]; exact ⟨by show 0 + a ≤ _; omega, Nat.le_refl _, h⟩
    | got s b =>
      obtain ⟨h1, h2⟩ := start_got e
      rw [List.length_drop] at h2
      obtain ⟨a1, a2, a3⟩ := rd_len (L := L) n b (nxt s ls) (by omega)
      rw [rd_got e]
      exact ⟨by show (s :: (rd n L b (nxt s ls)).1).length + a ≤ _; rw [List.length_cons]; omega, by show a ≤ (rd n L b (nxt s ls)).2.1; omega, a3⟩
abbrev T_from_text (X : Addr) : TD := T1 fun D Q er => (isStr D = false ∧ er (X, .int (-1))) ∨ ∃ z : Str, D = .str z ∧ z.length ≤ 60000 ∧ BhQ X (fun ss w ls => ((w < z.length ∨ ls ≠ []) ∧ er (X, .int (z.length : Nat))) ∨ (w = z.length ∧ ls = [] ∧ ∃ d, ss = sigs d ∧ Q (docD d))) er (rdA z)
abbrev s_from_text : Stmt := top 39
theorem sc_from_text : FnScope ["text", "signs", "behind", "labels"] ["text"] (defScope s_from_text) := ⟨rfl, rfl, rfl, by decide +kernel, rfl, by decide +kernel, by decide +kernel⟩
theorem ok_from_text {f : Addr} {fd : FuncData} (F : Fun Z.K "from_text" "from_text" s_from_text f fd) (T : Tz Z.K Z.mg) {C_BadText : Addr}
    {f_markup_behind : Addr} {fd_markup_behind : FuncData} (D_markup_behind : Df Z.K Z.mg "markup_behind" s_markup_behind ["text", "outer"] f_markup_behind fd_markup_behind) (G_markup_behind : FnD Z.Pg Z.w Z.K Z.mg Z.base (L2.CX Z.Pg Z.w) 5 f_markup_behind fd_markup_behind ["text", "outer"] (spT Z (T_markup_behind C_BadText)))
    {f_nodes_of : Addr} {fd_nodes_of : FuncData} (D_nodes_of : Df Z.K Z.mg "_nodes_of" s_nodes_of ["signs"] f_nodes_of fd_nodes_of) (G_nodes_of : FnD Z.Pg Z.w Z.K Z.mg Z.base CX0 5 f_nodes_of fd_nodes_of ["signs"] (spT Z (T_nodes_of)))
    (A_BadText : Z.T.an C_BadText = "at") {fI_BadText : Addr} {fdI_BadText : FuncData} (B_BadText : Er Z.K Z.mg "BadText" "BadText.__init__" "at" c_BadText C_BadText fI_BadText fdI_BadText) (I_BadText : FnOk Z.Pg Z.w Z.K Z.mg Z.base CX0 4 fI_BadText fdI_BadText ["self", "at"] (spIni C_BadText "at")) : FnD Z.Pg Z.w Z.K Z.mg Z.base (L2.CX Z.Pg Z.w) 6 f fd ["text"] (spT Z (T_from_text C_BadText)) := by
  refine okDX F sc_from_text (fun as Q er h => ?_) (fun cdv A outer s H E G0 er ca hE hr hgd hca => (dss_cons (ds_asg (de_callX hE (passes_call (takes_of rfl rfl rfl rfl) fun _ _ _ _ h => h) G_markup_behind hr hgd (by rfl) D_markup_behind.g D_markup_behind.F.kp D_markup_behind.b (drs_cons (dr_var 0) (drs_cons (dr_of (de_tup da_nil)) drs_nil))) (dg_seq (m := 3) rfl (dgs_cons (dg_name (i := 1) sc_from_text.nd rfl (Or.inl rfl)) (dgs_cons (dg_name (i := 2) sc_from_text.nd rfl (Or.inl rfl)) (dgs_cons (dg_name (i := 3) sc_from_text.nd rfl (Or.inl rfl)) dgs_nil)))))
      (dss_cons (ds_if (DW.dt (dw_or (dt_cmp op_ltA od_lt (dr_var 2) (dr_of (de_callB call_lenA cd_len (by rfl) T.len (by decide +kernel) (dr_var 0))) (nomark _)) (dw_or1 (dt_cmp op_gt od_gt (dr_of (de_callB call_lenA cd_len (by rfl) T.len (by decide +kernel) (dr_var 3))) (dr_of de_int) (nomark _)))))
        (dss_one (ds_raise A_BadText hE (ps_raise rfl (takes_of rfl rfl rfl rfl) (pmk_oex B_BadText.T B_BadText.ini B_BadText.ty I_BadText hr B_BadText.b .nil pass0 (by rfl) B_BadText.g (pa_cons (de_callB call_lenA cd_len (by rfl) T.len (by decide +kernel) (dr_var 0)) pa_nil)))))
        dss_nil)
      (dss_one (ds_ret (de_call G_nodes_of hr hgd (by rfl) D_nodes_of.g D_nodes_of.F.kp D_nodes_of.b (drs_cons (dr_var 1) drs_nil))))))) (fun ca as Q er h => ?_)
  · obtain ⟨_, rfl, _⟩ := t1_inv h
    rfl
  · obtain ⟨a, rfl, q⟩ := t1_inv h
    walk_at "d"
    rcases q with ⟨hs, q⟩ | ⟨z, rfl, hz, q⟩
    · exact ⟨Nat.zero_le _, .inl ⟨hs, q⟩⟩
    have zs : z.length ≤ sizeLine := Nat.le_trans hz (by decide)
    refine ⟨Nat.zero_le _, .inr ⟨z, rfl, hz, bhq_imp q fun ss w ls e q => ?_⟩⟩
    have hl := (rd_len (L := z.cps.toList) (z.length + 1) 0 [] (Nat.zero_le _)).1
    rw [show rd (z.length + 1) z.cps.toList 0 [] = rdA z from rfl, e, ← str_len] at hl
    have hl : ss.length + 0 ≤ z.length := hl
    walk_at "d"
    refine ⟨zs, ?_⟩
    rcases q with ⟨h, q⟩ | ⟨rfl, rfl, d, rfl, q⟩
    · by_cases hw : w < z.length
      · rw [if_pos (by rw [decide_eq_true_iff]; omega)]
        exact ⟨zs, q⟩
      · rw [if_neg (by rw [decide_eq_true_iff]; omega)]
        have hls : ls ≠ [] := h.resolve_left hw
        have : 0 < ls.length := List.length_pos_iff.mpr hls
        rw [if_pos (by rw [decide_eq_true_iff, List.length_reverse, List.length_map]; omega)]
        exact ⟨zs, q⟩
    · rw [if_neg (by rw [decide_eq_true_iff]; omega), if_neg (by decide)]
      exact ⟨d, rfl, by omega, q⟩
end
end Lw
set_option Elab.async false
set_option linter.all false
set_option maxRecDepth 100000
set_option maxHeartbeats 1000000
set_option pp.deepTerms true
set_option pp.maxSteps 200000
namespace Lw
open PySem PySem.Spec PyProof PyProof.Rows L2 So Da Dl
local macro_rules | `(tactic| walk_at "z") => `(tactic| repeat (first | refine ⟨(by decide), ?_⟩ | refine ⟨(by omega), ?_⟩ | refine ⟨rfl, ?_⟩))
section
variable {Z : Zw}
def TH_heard (F W X : Addr) : Out → (PyData → Prop) → Prop := fun o Q => match o with
  | .told D => Q (.tuple [.str "told", D])
  | .err C D => (C = F ∧ repOk D ∧ Q (.tuple [.str "form", .str (repD D), .bool true])) ∨ (C = W ∧ repOk D ∧ Q (.tuple [.str "stream", .str (repD D), .bool true])) ∨ (C = X ∧ repOk D ∧ Q (.tuple [.str "text", .str (repD D), .bool true]))
abbrev s_law_heard : Stmt := top 47
theorem sc_law_heard : FnScope ["ask", "fault"] ["ask"] (defScope s_law_heard) := ⟨rfl, rfl, rfl, by decide +kernel, rfl, by decide +kernel, by decide +kernel⟩
theorem ok_law_heard {f : Addr} {fd : FuncData} (F : Fun Z.K "_law_heard" "_law_heard" s_law_heard f fd) (T : Tz Z.K Z.mg) {C_BadForm : Addr} {C_BadStream : Addr} {C_BadText : Addr}
    (A_BadForm : Z.T.an C_BadForm = "at") (E_BadForm : ErC Z.K Z.mg "BadForm" "at" C_BadForm)
    (A_BadStream : Z.T.an C_BadStream = "at") (E_BadStream : ErC Z.K Z.mg "BadStream" "at" C_BadStream)
    (A_BadText : Z.T.an C_BadText = "at") (E_BadText : ErC Z.K Z.mg "BadText" "at" C_BadText)
    {C_OpenError : Addr} (g_OpenError : Z.mg "OpenError" = some (.ref C_OpenError)) (op_BadForm_OpenError : PySem.W.kitOne Z.K (.ref C_BadForm) (.ref C_OpenError) = some true) (op_BadStream_OpenError : PySem.W.kitOne Z.K (.ref C_BadStream) (.ref C_OpenError) = some true) (op_BadText_OpenError : PySem.W.kitOne Z.K (.ref C_BadText) (.ref C_OpenError) = some true) (x_BadStream_BadForm : PySem.W.exmOne Z.K (.ref C_BadStream) (.ref C_BadForm) = some false) (x_BadText_BadForm : PySem.W.exmOne Z.K (.ref C_BadText) (.ref C_BadForm) = some false) (x_BadText_BadStream : PySem.W.exmOne Z.K (.ref C_BadText) (.ref C_BadStream) = some false) : FnD Z.Pg Z.w Z.K Z.mg Z.base CX0 63 f fd ["ask"] (spT Z (heardT 62 (TH_heard C_BadForm C_BadStream C_BadText))) := by
  refine okD F sc_law_heard (fun as Q er h => ?_) (fun cdv A outer s H E G0 ca hr hgd hca => (dss_one (ds_try (X := (cxOf CX0 Z.Pg Z.w Z.K Z.mg Z.base ["ask", "fault"] "_law_heard" (defScope s_law_heard) f cdv A outer s H E).nox) (K := Z.K) rfl rfl rfl sc_law_heard.nd (fun W pn xe tk po => (dsw_told (dew_ask tk (j := 62) hr hgd 0))) (.more (i := 1) ⟨by rfl, by decide, Or.inl E_BadForm.g⟩ (by rfl) (by rfl) (fun _ _ _ _ _ hz hf => (dss_one (ds_ret (de_tup (da_cons de_str (da_cons (de_callB (call_reprA hgd hr.units) cd_repr (by rfl) T.repr (by decide +kernel) (dr_of (de_flt A_BadForm E_BadForm.xf E_BadForm.na hz hf 1))) (da_cons (de_fltI E_BadForm.is op_BadForm_OpenError hz hf (by rfl) T.isi (by rfl) g_OpenError 1) da_nil))))))) (.more (i := 1) ⟨by rfl, by decide, Or.inl E_BadStream.g⟩ (by rfl) (by rfl) (fun _ _ _ _ _ hz hf => (dss_one (ds_ret (de_tup (da_cons de_str (da_cons (de_callB (call_reprA hgd hr.units) cd_repr (by rfl) T.repr (by decide +kernel) (dr_of (de_flt A_BadStream E_BadStream.xf E_BadStream.na hz hf 1))) (da_cons (de_fltI E_BadStream.is op_BadStream_OpenError hz hf (by rfl) T.isi (by rfl) g_OpenError 1) da_nil))))))) (.more (i := 1) ⟨by rfl, by decide, Or.inl E_BadText.g⟩ (by rfl) (by rfl) (fun _ _ _ _ _ hz hf => (dss_one (ds_ret (de_tup (da_cons de_str (da_cons (de_callB (call_reprA hgd hr.units) cd_repr (by rfl) T.repr (by decide +kernel) (dr_of (de_flt A_BadText E_BadText.xf E_BadText.na hz hf 1))) (da_cons (de_fltI E_BadText.is op_BadText_OpenError hz hf (by rfl) T.isi (by rfl) g_OpenError 1) da_nil))))))) .none)))))) (fun ca as Q er h => ?_)
  · obtain ⟨k, W, R, rfl, _⟩ := h
    rfl
  · obtain ⟨k, W, R, rfl, hk, hw, hr⟩ := h
    simp only [dSeq, dTry, dAsk, start0, List.replicate, List.cons_append, List.nil_append, List.getElem?_cons_zero, List.length_cons, List.length_nil]
    refine ⟨hk, R, hw, fun o ho => ?_⟩
    have ho := hr o ho
    cases o with
    | told D =>
      exact ho
    | err C D =>
      have b2 : 2 ≤ sizeLine := by decide
      have b3 : 3 ≤ sizeLine := by decide
      rcases ho with ⟨rfl, ok, q⟩ | ⟨rfl, ok, q⟩ | ⟨rfl, ok, q⟩
      · exact ⟨true, E_BadForm.te, fun _ => ⟨trivial, fun a d => ⟨rfl, rfl, rfl, rfl, ok, rfl, rfl, rfl, rfl, b3, q⟩⟩, fun z => nomatch z⟩
      · exact ⟨false, x_BadStream_BadForm, (fun z => nomatch z), fun _ => ⟨true, E_BadStream.te, fun _ => ⟨trivial, fun a d => ⟨rfl, rfl, rfl, rfl, ok, rfl, rfl, rfl, rfl, b3, q⟩⟩, fun z => nomatch z⟩⟩
      · exact ⟨false, x_BadText_BadForm, (fun z => nomatch z), fun _ => ⟨false, x_BadText_BadStream, (fun z => nomatch z), fun _ => ⟨true, E_BadText.te, fun _ => ⟨trivial, fun a d => ⟨rfl, rfl, rfl, rfl, ok, rfl, rfl, rfl, rfl, b3, q⟩⟩, fun z => nomatch z⟩⟩⟩
theorem th_told {F W X : Addr} {D : PyData} {Q : PyData → Prop} : TH_heard F W X (.told D) Q = Q (.tuple [.str "told", D]) := rfl
theorem th_fo {F W X : Addr} {D : PyData} {Q : PyData → Prop} (r : repOk D) (h : Q (.tuple [.str "form", .str (repD D), .bool true])) : TH_heard F W X (.err F D) Q := .inl ⟨rfl, r, h⟩
theorem th_st {F W X : Addr} {D : PyData} {Q : PyData → Prop} (r : repOk D) (h : Q (.tuple [.str "stream", .str (repD D), .bool true])) : TH_heard F W X (.err W D) Q := .inr (.inl ⟨rfl, r, h⟩)
theorem th_tx {F W X : Addr} {D : PyData} {Q : PyData → Prop} (r : repOk D) (h : Q (.tuple [.str "text", .str (repD D), .bool true])) : TH_heard F W X (.err X D) Q := .inr (.inr ⟨rfl, r, h⟩)
theorem esc_app {a b : List Nat} : esc (a ++ b) = esc a ++ esc b := List.flatMap_append
abbrev T_law_quoted : TD := T1 fun D Q _ => ∃ z : Str, D = .str z ∧ z.length ≤ 60000 ∧ Q (.str (quo z))
abbrev s_law_quoted : Stmt := top 48
theorem sc_law_quoted : FnScope ["text", "found", "character"] ["text"] (defScope s_law_quoted) := ⟨rfl, rfl, rfl, by decide +kernel, rfl, by decide +kernel, by decide +kernel⟩
local macro_rules | `(tactic| walk_at "d") => `(tactic| simp only [↓dSeq, ↓dFor, ↓reprD, ↓dCallK, ↓dIfS, ↓dAndV, ↓dOrV, ↓dUn, ↓dOp, ↓dC, ↓dVar, ↓derefW, ↓deref, ↓known, ↓noOb, ↓nbO, ↓start0, ↓endsOf, ↓outA, ↓toB, ↓dAnd, ↓dOr, ↓dNot, ↓ofB, ↓dIf, ↓dChain, ↓dgName, ↓dgSeq, ↓dgCons, ↓dgNil, ↓dLc, ↓popW, ↓atOl, ↓isOl, ↓ownS, ↓frzD, ↓dCall, argsOf, argLc, obSlots, upS, upO, ↓noObs, ↓wipeD, List.map_cons, List.map_nil, List.length_cons, List.length_nil, Nat.sub_self, Nat.zero_add, Nat.reduceAdd, Nat.reduceSub, List.replicate, List.append_nil, List.cons_append, List.nil_append, List.getElem?_cons_zero, List.getElem?_cons_succ, List.getElem?_nil, List.set, List.head?, List.tail, Option.getD_some, Option.getD_none, List.nodup_nil, List.nodup_cons, List.not_mem_nil, List.mem_cons, List.mem_singleton, or_false, Nat.reduceEqDiff, true_and, and_true, Bool.not_true, Bool.not_false, if_true, Bool.false_eq_true, if_false, ite_true, ite_false, not_false_eq_true, reduceCtorEq, eqD_int, eqD_str, eqD_bl, eqD_tuple, eqD_list, eqD_tupleR, eqD_listR, eqD_non, neD_int, neD_str, neD_bl, neD_tuple, neD_list, neD_tupleR, neD_listR, neD_non, ↓isD, ↓notD, ix_0, ix_1, ix_2, ix_3, ix_4, ix_L0, ix_L1, ix_L2, itemsD_L, itemsD_T, tupleD_L, tupleD_T, listD_L, listD_T, lenD_L, lenD_T, lenD_S, slD_L, slD_T, addD_I, addD_S, addD_T, addD_L, subD_I, mulD_I, ltD_I, ltD_S, leD_I, gtD_I, geD_I, modD_I, fdivD_I, powD_I, intD_I, intD_B, negD_I, isND_N, isND_I, isND_S, isND_B, isND_T, isND_L, sq_T, sq_L, sq_N, sq_I, sq_S, sq_B, at_0, at_1, at_2, at_3, at_4, ↓isiD, pick, List.filterMap_cons_some, List.filterMap_nil, List.filterMap_cons, ↓ownC, ↓T1, ↓T2, ↓T3, ↓T4, ↓dHeard, ↓capsD, ↓slotsD, ↓lamW, lamSto, cpLc, ↓dHeardS, ↓dAsks, ↓asksW, ↓heardT, ↓Tbox, ↓Ttake, dForN, forNW, fnW, slSD, repD2, ↓intW, ix_ma0, ix_ma1, ix_ma2, ix_ma3, ix_inn0, ix_inn1, ix_inn2, ix_inn3, ix_top0, ix_top1, ix_top2, ix_top3, ix_top4, ↓T_law_pick, ↓T_law_text, ↓T_law_document, ↓T_read_sign])
theorem ok_law_quoted {f : Addr} {fd : FuncData} (F : Fun Z.K "_law_quoted" "_law_quoted" s_law_quoted f fd) (T : Tz Z.K Z.mg) : FnD Z.Pg Z.w Z.K Z.mg Z.base CX0 1 f fd ["text"] (spT Z (T_law_quoted)) := by
  refine okD F sc_law_quoted (fun as Q er h => ?_) (fun cdv A outer s H E G0 ca hr hgd hca => (dss_cons (ds_set (i := 1) sc_law_quoted.nd rfl (Or.inl rfl) de_str)
      (dss_cons (ds_for PassesOwn.never rfl (di_str (de_var 0)) (dg_name (i := 2) sc_law_quoted.nd rfl (Or.inl rfl))
        (dss_one (ds_set (i := 1) sc_law_quoted.nd rfl (Or.inl rfl) (de_op op_addA od_add (dr_var 1) (dr_of (de_if (dt_cmp op_in_sign od_inS (dr_var 2) (dr_of de_str) rfl) (de_op op_addA od_add (dr_of de_str) (dr_var 2)) (de_var 2)))))))
      (dss_one (ds_ret (de_op op_addA od_add (dr_var 1) (dr_of de_str))))))) (fun ca as Q er h => ?_)
  · obtain ⟨_, rfl, _⟩ := t1_inv h
    rfl
  · obtain ⟨a, rfl, q⟩ := t1_inv h
    obtain ⟨z, rfl, hz, q⟩ := q
    walk_at "d"
    refine ⟨z, rfl, forW_go (fun ds ρ => ∃ (p r : List Nat) (s2 : Lc), ds = r.map (fun c => .str ⟨#[c]⟩) ∧ z.cps.toList = p ++ r ∧ nbO (some s2) ∧ ρ = [.sh (.str z), .sh (.str (S (34 :: esc p))), s2]) ?_ ?_ _ _ ⟨[], z.cps.toList, .un, rfl, rfl, trivial, by rw [s34]; rfl⟩⟩
    · rintro ρ ⟨p, r, s2, e1, e2, n2, rfl⟩
      cases r with
      | cons a b => cases e1
      | nil =>
        rw [List.append_nil] at e2
        have := esc_len p
        have hp : p.length ≤ 60000 := by rw [← e2, ← str_len]; exact hz
        walk_at "d"
        refine ⟨Nat.le_trans (show _ ≤ 200000 by show (esc p).length + 1 + 1 ≤ _; omega) (by decide), ?_⟩
        rw [s34, S_app, ← e2]
        exact q
    · rintro K x ds ρ ⟨p, r, s2, e1, e2, n2, rfl⟩ ih
      cases r with
      | nil => cases e1
      | cons c r =>
        obtain ⟨rfl, rfl⟩ := List.cons.inj e1
        have := esc_len p
        have hp : p.length + 1 ≤ 60000 := by
          have := congrArg List.length e2
          rw [← str_len, List.length_append, List.length_cons] at this
          omega
        have n2 : nbO (some s2) := n2
        have nx := ih _ ⟨p ++ [c], r, .sh (.str ⟨#[c]⟩), rfl, by rw [e2, List.append_assoc]; rfl, trivial, rfl⟩
        have e3 : esc (p ++ [c]) = esc p ++ if c = 92 ∨ c = 34 then [92, c] else [c] := by
          rw [esc_app]
          show _ ++ ([c].flatMap fun c => if c = 92 ∨ c = 34 then [92, c] else [c]) = _
          rw [List.flatMap_singleton]
        have e4 : decide (c ∈ (Str.ofString "\"\\").cps.toList) = decide (c = 92 ∨ c = 34) := by
          have : (Str.ofString "\"\\").cps.toList = [34, 92] := by decide +kernel
          rw [this, decide_eq_decide]
          simp only [List.mem_cons, List.not_mem_nil, or_false]
          exact Or.comm
        have sz : ∀ k, k ≤ 4 → (S (34 :: esc p)).length + k ≤ sizeLine := fun k hk => Nat.le_trans (show _ ≤ 200000 by show (esc p).length + 1 + k ≤ _; omega) (by decide)
        walk_at "d"
        refine ⟨n2, c, rfl, ?_⟩
        rw [if_neg (show ¬ false = true from Bool.false_ne_true), e4]
        rw [e3] at nx
        dsimp only
        by_cases hc : c = 92 ∨ c = 34
        · rw [if_pos hc] at nx
          rw [if_pos (decide_eq_true hc)]
          refine ⟨(show 2 ≤ sizeLine by decide), sz 2 (by decide), ?_⟩
          rw [s92, show (⟨#[c]⟩ : Str) = S [c] from rfl, S_app, S_app]
          exact nx
        · rw [if_neg hc] at nx
          rw [if_neg (fun x => hc (of_decide_eq_true x))]
          refine ⟨sz 1 (by decide), ?_⟩
          rw [show S (34 :: esc p) ++ (⟨#[c]⟩ : Str) = S (34 :: esc p ++ [c]) from S_app]
          exact nx
theorem cut_last {xs : List PyData} {x : PyData} : Dl.cutD (xs ++ [x]) none (some (((xs ++ [x]).length : Nat) - 1 : Int)) = xs := by
  rw [show (((xs ++ [x]).length : Nat) - 1 : Int) = ((xs.length : Nat) : Int) by rw [List.length_append, List.length_singleton]; omega, cut_0n, List.take_left]
abbrev T_law_markup : TD := T1 fun D Q _ => ∃ ss : List Sg, D = .tuple (ss.map sgD) ∧ MkOk ss ∧ Q (.str (S (mkS [] ss)))
abbrev s_law_markup : Stmt := top 49
theorem sc_law_markup : FnScope ["prefix", "found", "labels", "sign"] ["prefix"] (defScope s_law_markup) := ⟨rfl, rfl, rfl, by decide +kernel, rfl, by decide +kernel, by decide +kernel⟩
theorem ok_law_markup {f : Addr} {fd : FuncData} (F : Fun Z.K "_law_markup" "_law_markup" s_law_markup f fd) (T : Tz Z.K Z.mg)
    {f_law_quoted : Addr} {fd_law_quoted : FuncData} (D_law_quoted : Df Z.K Z.mg "_law_quoted" s_law_quoted ["text"] f_law_quoted fd_law_quoted) (G_law_quoted : FnD Z.Pg Z.w Z.K Z.mg Z.base CX0 1 f_law_quoted fd_law_quoted ["text"] (spT Z (T_law_quoted))) : FnD Z.Pg Z.w Z.K Z.mg Z.base CX0 2 f fd ["prefix"] (spT Z (T_law_markup)) := by
  refine okD F sc_law_markup (fun as Q er h => ?_) (fun cdv A outer s H E G0 ca hr hgd hca => (dss_cons (ds_par (by decide) (ps_par (i := 1) (j := 2) rfl sc_law_markup.nd rfl rfl (by decide) rfl rfl (pa_cons de_str (pa_cons (de_of_df (df_lst da_nil)) pa_nil)) (by rfl)))
      (dss_cons (ds_for PassesOwn.never rfl (di_seq (de_var 0)) (dg_name (i := 3) sc_law_markup.nd rfl (Or.inl rfl))
        (dss_one (ds_if (dt_cmp (op_eqA hr.units) od_eq (dr_of (de_ix (dr_var 3) (dr_of de_int))) (dr_of de_str) (nomark _))
          (dss_cons (ds_set (i := 2) sc_law_markup.nd rfl (Or.inl rfl) (de_of_df (df_cat (dr_var 2) (dr_of (de_of_df (df_lst (da_cons (de_ix (dr_var 3) (dr_of de_int)) da_nil)))))))
          (dss_one (ds_set (i := 1) sc_law_markup.nd rfl (Or.inl rfl) (de_op op_addA od_add (dr_of (de_op op_addA od_add (dr_of (de_op op_addA od_add (dr_var 1) (dr_of de_str))) (dr_of (de_ix (dr_var 3) (dr_of de_int))))) (dr_of de_str)))))
          (dss_one (ds_if (dt_cmp (op_eqA hr.units) od_eq (dr_of (de_ix (dr_var 3) (dr_of de_int))) (dr_of de_str) (nomark _))
            (dss_one (ds_set (i := 1) sc_law_markup.nd rfl (Or.inl rfl) (de_op op_addA od_add (dr_var 1) (dr_of (de_call G_law_quoted hr hgd (by rfl) D_law_quoted.g D_law_quoted.F.kp D_law_quoted.b (drs_cons (dr_of (de_ix (dr_var 3) (dr_of de_int))) drs_nil))))))
            (dss_one (ds_par (by decide) (ps_par (i := 1) (j := 2) rfl sc_law_markup.nd rfl rfl (by decide) rfl rfl (pa_cons (de_op op_addA od_add (dr_of (de_op op_addA od_add (dr_of (de_op op_addA od_add (dr_var 1) (dr_of de_str))) (dr_of (de_ix (dr_var 2) (dr_of (de_neg de_int)))))) (dr_of de_str)) (pa_cons (de_slice (dr_var 2) do_none (do_some (de_op op_sub od_sub (dr_of (de_callB call_lenA cd_len (by rfl) T.len (by decide +kernel) (dr_var 2))) (dr_of de_int)))) pa_nil)) (by rfl)))))))))
      (dss_one (ds_ret (de_var 1)))))) (fun ca as Q er h => ?_)
  · obtain ⟨_, rfl, _⟩ := t1_inv h
    rfl
  · obtain ⟨a, rfl, q⟩ := t1_inv h
    obtain ⟨ss, rfl, ⟨⟨m, lv⟩, hl, hs⟩, q⟩ := q
    walk_at "d"
    refine ⟨Nat.zero_le _, ?_⟩
    refine forW_go (fun ds ρ => ∃ (acc : List Nat) (ls : List Str) (r : List Sg) (s3 : Lc), ds = r.map sgD ∧ acc ++ mkS ls r = mkS [] ss ∧ Lv r ls.length m ∧ acc.length + 1000 * r.length ≤ 2000000 ∧ (∀ l ∈ ls, l.length ≤ 100) ∧ ls.length + r.length ≤ 2000 ∧ (∀ s ∈ r, sgLen s ≤ 100) ∧ nbO (some s3) ∧ ρ = [.sh (.tuple (ss.map sgD)), .sh (.str (S acc)), .sh (.list (ls.map .str).reverse), s3]) ?_ ?_ _ _ ⟨[], [], ss, .un, rfl, rfl, lv, by show 0 + _ ≤ _; omega, (fun _ h => nomatch h), by show 0 + _ ≤ _; omega, hs, trivial, rfl⟩
    · rintro ρ ⟨acc, ls, r, s3, e1, e2, lv, h1, h3, h4, h5, n3, rfl⟩
      cases r with
      | cons a b => cases e1
      | nil =>
        have e2 : acc ++ [] = mkS [] ss := e2
        rw [List.append_nil] at e2
        rw [← e2] at q
        walk_at "d"
        exact q
    · rintro K x ds ρ ⟨acc, ls, r, s3, e1, e2, lv, h1, h3, h4, h5, n3, rfl⟩ ih
      cases r with
      | nil => cases e1
      | cons g r =>
        obtain ⟨rfl, rfl⟩ := List.cons.inj e1
        have h5r : ∀ s ∈ r, sgLen s ≤ 100 := fun s m => h5 s (List.mem_cons_of_mem _ m)
        have h5g := h5 g List.mem_cons_self
        rw [List.length_cons] at h1 h4
        have n3 : nbO (some s3) := n3
        have ll : (ls.map PyData.str).reverse.length + 1 ≤ sizeLine := Nat.le_trans (show _ ≤ 3000 by rw [List.length_reverse, List.length_map]; omega) (by decide)
        have sz : ∀ k, k ≤ 400 → acc.length + k ≤ sizeLine := fun k hk => Nat.le_trans (show _ ≤ 3000000 by omega) (by decide)
        have b1 : 1 ≤ sizeLine := by decide
        cases g with
        | op l =>
          have hl : l.length ≤ 100 := h5g
          have nx := ih _ ⟨acc ++ (60 :: (l.cps.toList ++ [62])), l :: ls, r, .sh (sgD (.op l)), rfl, by
            rw [← e2]
            simp [mkS], by have := lv.2; exact this, by rw [List.length_append, List.length_cons, List.length_append, ← str_len, List.length_singleton]; omega, fun y my => by
              rcases List.mem_cons.mp my with rfl | my
              · exact hl
              · exact h3 y my, by rw [List.length_cons]; omega, h5r, trivial, rfl⟩
          rw [List.map_cons (l := ls), List.reverse_cons] at nx
          simp only [sgD] at nx ⊢
          walk_at "d"
          rw [if_pos (by decide +kernel)]
          refine ⟨n3, b1, ll, ?_, ?_, ?_, ?_⟩
          · exact sz 1 (by decide)
          · rw [len_app, S_len, s60]
            show acc.length + 1 + _ ≤ _
            rw [Nat.add_assoc]
            exact sz _ (by omega)
          · rw [len_app, len_app, S_len, s60, s62]
            show acc.length + 1 + _ + 1 ≤ _
            rw [Nat.add_assoc, Nat.add_assoc]
            exact sz _ (by omega)
          · rw [s60, s62, show S acc ++ S [60] ++ l ++ S [62] = S (acc ++ (60 :: (l.cps.toList ++ [62]))) from str_ext (by rw [cps_app, cps_app, cps_app]; simp [S])]
            exact nx
        | tx z =>
          have hl : z.length ≤ 100 := h5g
          have hq := quo_len z
          have nx := ih _ ⟨acc ++ (quo z).cps.toList, ls, r, .sh (sgD (.tx z)), rfl, by
            rw [← e2]
            simp [mkS], by have := lv.2; rw [show ((ls.length : Nat) : Int) + stpS (.tx z) = ls.length from Int.add_zero _] at this; exact this, by rw [List.length_append, ← str_len]; omega, h3, by omega, h5r, trivial, rfl⟩
          simp only [sgD] at nx ⊢
          walk_at "d"
          rw [if_neg (by decide +kernel), if_pos (by decide +kernel)]
          refine ⟨n3, z, rfl, by omega, ?_, ?_⟩
          · rw [S_len]
            exact sz _ (by omega)
          · rw [show S acc ++ quo z = S (acc ++ (quo z).cps.toList) from str_ext (by rw [cps_app]; rfl)]
            exact nx
        | cl =>
          cases ls with
          | nil => exact absurd lv.1 (by decide)
          | cons l ls =>
            have hl : l.length ≤ 100 := h3 l List.mem_cons_self
            rw [List.length_cons] at h4
            have nx := ih _ ⟨acc ++ (60 :: 47 :: (l.cps.toList ++ [62])), ls, r, .sh (sgD .cl), rfl, by
              rw [← e2]
              simp [mkS], by have := lv.2; rw [show (((l :: ls).length : Nat) : Int) + stpS .cl = ls.length from by show ((ls.length + 1 : Nat) : Int) + -1 = _; omega] at this; exact this, by rw [List.length_append, List.length_cons, List.length_cons, List.length_append, ← str_len, List.length_singleton]; omega, fun y my => h3 y (List.mem_cons_of_mem _ my), by omega, h5r, trivial, rfl⟩
            simp only [sgD] at nx ⊢
            rw [List.map_cons, List.reverse_cons]
            walk_at "d"
            rw [if_neg (by decide +kernel), if_neg (by decide +kernel)]
            have s6047 : Str.ofString "</" = S [60, 47] := by decide +kernel
            refine ⟨n3, ?_, ix_last ⟨?_, ?_, ?_⟩⟩
            · rw [S_len]
              exact sz 2 (by decide)
            · rw [len_app, S_len, s6047]
              show acc.length + 2 + _ ≤ _
              rw [Nat.add_assoc]
              exact sz _ (by omega)
            · rw [len_app, len_app, S_len, s6047, s62]
              show acc.length + 2 + _ + 1 ≤ _
              rw [Nat.add_assoc, Nat.add_assoc]
              exact sz _ (by omega)
            · rw [s6047, s62, show S acc ++ S [60, 47] ++ l ++ S [62] = S (acc ++ (60 :: 47 :: (l.cps.toList ++ [62]))) from str_ext (by rw [cps_app, cps_app, cps_app]; simp [S])]
              dsimp only
              rw [cut_last]
              exact nx
end
end Lw
set_option Elab.async false
set_option linter.all false
set_option maxRecDepth 100000
set_option maxHeartbeats 1000000
set_option pp.deepTerms true
set_option pp.maxSteps 200000
namespace Lw
open PySem PySem.Spec PyProof PyProof.Rows L2 So Da Dl
local macro_rules | `(tactic| walk_at "z") => `(tactic| repeat (first | refine ⟨(by decide), ?_⟩ | refine ⟨(by omega), ?_⟩ | refine ⟨rfl, ?_⟩))
section
variable {Z : Zw}
/-- how the law tells a state -/
def tld (tp : Option Str) : Stt → Str → Str → Prop
  | .tx h, s, z => s = "in" ∧ z = S h
  | .sk h, s, z => s = "stroke" ∧ z = S h
  | .bg, s, z => s = "begun" ∧ z = S []
  | .nm h, s, z => s = "name" ∧ z = S h ∧ ∀ c ∈ h, lB c = true
  | .en k, s, z => s = "end" ∧ ∃ l, tp = some l ∧ k ≤ l.length ∧ z = S ((l.cps.toList ++ [62]).take k)
def badD : Option Nat → PyData
  | none => .none
  | some p => .int (p : Nat)
theorem let_ok {h : List Nat} (k : ∀ c ∈ h, lB c = true) : PyData.strOk (S h) = true := by
  rw [so_of, List.all_eq_true]
  intro c m
  have h1 := of_decide_eq_true (k c m)
  have h2 : ∀ c ∈ lets.cps.toList, c < 0x110000 := by decide +kernel
  exact decide_eq_true (h2 c h1)
theorem sh_flatL {ds : List PyData} (h : ∀ d ∈ ds, d.canLay0 = true ∧ flatD d = true) : SeqAt.shaped (.list ds) = true := sh_flat h
theorem ls_sh {ls : List Str} (h : ∀ l ∈ ls, PyData.strOk l = true) : SeqAt.shaped (.list (ls.map PyData.str).reverse) = true := sh_flatL fun y m => by
  rw [List.mem_reverse] at m
  obtain ⟨l, ml, rfl⟩ := List.mem_map.mp m
  exact ⟨h l ml, rfl⟩
theorem eqv_nl {ls : List Str} : PyData.eqv (.list (ls.map PyData.str).reverse) (.list []) = ls.isEmpty := by
  cases ls with
  | nil => rfl
  | cons l ls =>
    rw [List.map_cons, List.reverse_cons]
    cases (ls.map PyData.str).reverse <;> rfl
theorem in_bn {Q : PyData → Prop} {st : Str} {b : Bool} (e : ((Str.ofString "begun" == st) || (Str.ofString "name" == st)) = b) (h : Q (.bool b)) : inD false (.str st) (.tuple [.str (Str.ofString "begun"), .str (Str.ofString "name")]) Q := by
  unfold inD
  refine ⟨rfl, rfl, ?_⟩
  have : ([PyData.str (Str.ofString "begun"), .str (Str.ofString "name")].any fun z => PyData.eqv z (.str st)) = b := by
    rw [← e]
    simp only [List.any_cons, List.any_nil, Bool.or_false, PyData.eqv]
  rw [this]
  exact h
abbrev T_law_read : TD := T1 fun D Q _ => ∃ z : Str, D = .str z ∧ z.length ≤ 60000 ∧ Q (.tuple [.list ((rdA z).1.map sgD), .int ((rdA z).2.1 : Nat), badD (rdA z).2.2.1])
abbrev s_law_read : Stmt := top 50
theorem sc_law_read : FnScope ["text", "signs", "whole", "labels", "state", "held", "at", "character", "good"] ["text"] (defScope s_law_read) := ⟨rfl, rfl, rfl, by decide +kernel, rfl, by decide +kernel, by decide +kernel⟩
local macro_rules | `(tactic| walk_at "d") => `(tactic| simp only [↓dSeq, ↓dFor, ↓reprD, ↓dCallK, ↓dIfS, ↓dAndV, ↓dOrV, ↓dUn, ↓dOp, ↓dC, ↓dVar, ↓derefW, ↓deref, ↓known, ↓noOb, ↓nbO, ↓start0, ↓endsOf, ↓outA, ↓toB, ↓dAnd, ↓dOr, ↓dNot, ↓ofB, ↓dIf, ↓dChain, ↓dgName, ↓dgSeq, ↓dgCons, ↓dgNil, ↓dLc, ↓popW, ↓atOl, ↓isOl, ↓ownS, ↓frzD, ↓dCall, argsOf, argLc, obSlots, upS, upO, ↓noObs, ↓wipeD, List.map_cons, List.map_nil, List.length_cons, List.length_nil, Nat.sub_self, Nat.zero_add, Nat.reduceAdd, Nat.reduceSub, List.replicate, List.append_nil, List.cons_append, List.nil_append, List.getElem?_cons_zero, List.getElem?_cons_succ, List.getElem?_nil, List.set, List.head?, List.tail, Option.getD_some, Option.getD_none, List.nodup_nil, List.nodup_cons, List.not_mem_nil, List.mem_cons, List.mem_singleton, or_false, Nat.reduceEqDiff, true_and, and_true, Bool.not_true, Bool.not_false, if_true, Bool.false_eq_true, if_false, ite_true, ite_false, not_false_eq_true, reduceCtorEq, eqD_int, eqD_str, eqD_bl, eqD_tuple, eqD_list, eqD_tupleR, eqD_listR, eqD_non, neD_int, neD_str, neD_bl, neD_tuple, neD_list, neD_tupleR, neD_listR, neD_non, ↓isD, ↓notD, ix_0, ix_1, ix_2, ix_3, ix_4, ix_L0, ix_L1, ix_L2, itemsD_L, itemsD_T, tupleD_L, tupleD_T, listD_L, listD_T, lenD_L, lenD_T, lenD_S, slD_L, slD_T, addD_I, addD_S, addD_T, addD_L, subD_I, mulD_I, ltD_I, ltD_S, leD_I, gtD_I, geD_I, modD_I, fdivD_I, powD_I, intD_I, intD_B, negD_I, isND_N, isND_I, isND_S, isND_B, isND_T, isND_L, sq_T, sq_L, sq_N, sq_I, sq_S, sq_B, at_0, at_1, at_2, at_3, at_4, ↓isiD, pick, List.filterMap_cons_some, List.filterMap_nil, List.filterMap_cons, ↓ownC, ↓T1, ↓T2, ↓T3, ↓T4, ↓dHeard, ↓capsD, ↓slotsD, ↓lamW, lamSto, cpLc, ↓dHeardS, ↓dAsks, ↓asksW, ↓heardT, ↓Tbox, ↓Ttake, dForN, forNW, fnW, slSD, repD2, ↓intW, ix_ma0, ix_ma1, ix_ma2, ix_ma3, ix_inn0, ix_inn1, ix_inn2, ix_inn3, ix_top0, ix_top1, ix_top2, ix_top3, ix_top4, ↓T_law_pick, ↓T_law_text, ↓T_law_document, ↓T_read_sign])
theorem ok_law_read {f : Addr} {fd : FuncData} (F : Fun Z.K "_law_read" "_law_read" s_law_read f fd) (T : Tz Z.K Z.mg) : FnD Z.Pg Z.w Z.K Z.mg Z.base CX0 1 f fd ["text"] (spT Z (T_law_read)) := by
  refine okD F sc_law_read (fun as Q er h => ?_) (fun cdv A outer s H E G0 ca hr hgd hca => (dss_cons (ds_asg5F (by decide) (by decide) (by decide) (by decide) (by decide) (by decide) (by decide) (by decide) (by decide) (by decide) (ps_asg (pe_tupF (pa_cons (df_lst da_nil) (pa_cons de_int (pa_cons (de_of_df (df_lst da_nil)) (pa_cons de_str (pa_cons de_str pa_nil)))))) (pg_tup rfl (pgs_cons (pg_name (i := 1) sc_law_read.nd rfl (Or.inl rfl)) (pgs_cons (pg_name (i := 2) sc_law_read.nd rfl (Or.inl rfl)) (pgs_cons (pg_name (i := 3) sc_law_read.nd rfl (Or.inl rfl)) (pgs_cons (pg_name (i := 4) sc_law_read.nd rfl (Or.inl rfl)) (pgs_cons (pg_name (i := 5) sc_law_read.nd rfl (Or.inl rfl)) pgs_nil))))))))
      (dss_cons (ds_for PassesOwn.never rfl (di_enumS (by rfl) T.enumerate (de_var 0)) (dg_seq (m := 2) rfl (dgs_cons (dg_name (i := 6) sc_law_read.nd rfl (Or.inl rfl)) (dgs_cons (dg_name (i := 7) sc_law_read.nd rfl (Or.inl rfl)) dgs_nil)))
        (dss_cons (ds_set (i := 8) sc_law_read.nd rfl (Or.inl rfl) de_bl)
        (dss_cons (ds_if (dt_cmp (op_eqA hr.units) od_eq (dr_var 4) (dr_of de_str) (nomark _))
          (dss_cons (ds_par (by decide) (ps_par (i := 8) (j := 5) rfl sc_law_read.nd rfl rfl (by decide) rfl rfl (pa_cons (de_cmp op_in_sign od_inS (dr_var 7) (dr_of de_str) rfl) (pa_cons de_str pa_nil)) (by rfl)))
          (dss_one (ds_set (i := 4) sc_law_read.nd rfl (Or.inl rfl) (de_if (dt_cmp (op_eqA hr.units) od_eq (dr_var 7) (dr_of de_str) (nomark _)) de_str de_str))))
          (dss_one (ds_if (dt_cmp (op_eqA hr.units) od_eq (dr_var 4) (dr_of de_str) (nomark _))
            (dss_one (ds_if (dt_cmp (op_eqA hr.units) od_eq (dr_var 7) (dr_of de_str) (nomark _))
              (dss_cons (ds_app (ps_expr (pe_bm PySem.F.plainAttrs_list PySem.F.slot_list_append PySem.F.type_list_append mt_append (pv 1) (pa_cons (de_tup (da_cons de_str (da_cons (de_var 5) da_nil))) pa_nil))))
              (dss_one (ds_set (i := 4) sc_law_read.nd rfl (Or.inl rfl) de_str)))
              (dss_one (ds_asg (de_if (dt_cmp (op_eqA hr.units) od_eq (dr_var 7) (dr_of de_str) (nomark _)) (de_tup (da_cons de_str (da_cons (de_var 5) da_nil))) (de_tup (da_cons de_str (da_cons (de_op op_addA od_add (dr_var 5) (dr_var 7)) da_nil)))) (dg_seq (m := 2) rfl (dgs_cons (dg_name (i := 4) sc_law_read.nd rfl (Or.inl rfl)) (dgs_cons (dg_name (i := 5) sc_law_read.nd rfl (Or.inl rfl)) dgs_nil)))))))
            (dss_one (ds_if (dt_cmp (op_eqA hr.units) od_eq (dr_var 4) (dr_of de_str) (nomark _))
              (dss_one (ds_par3 (by decide) (by decide) (by decide) (ps_par3 (i := 8) (j := 4) (l := 5) rfl sc_law_read.nd rfl rfl rfl (by decide) (by decide) (by decide) rfl rfl rfl (pa_cons (de_cmp op_in_sign od_inS (dr_var 7) (dr_of de_str) rfl) (pa_cons de_str (pa_cons (de_op op_addA od_add (dr_var 5) (dr_var 7)) pa_nil))) (by rfl))))
              (dss_one (ds_if (DW.dt (dw_and (dt_cmp (op_eqA hr.units) od_eq (dr_var 4) (dr_of de_str) (nomark _)) (dw_and1 (dt_cmp (op_eqA hr.units) od_eq (dr_var 7) (dr_of de_str) (nomark _)))))
                (dss_one (ds_par3 (by decide) (by decide) (by decide) (ps_par3 (i := 8) (j := 4) (l := 5) rfl sc_law_read.nd rfl rfl rfl (by decide) (by decide) (by decide) rfl rfl rfl (pa_cons (de_cmp (op_neA hr.units) od_ne (dr_var 3) (dr_of (de_of_df (df_lst da_nil))) (nomark _)) (pa_cons de_str (pa_cons de_str pa_nil))) (by rfl))))
                (dss_one (ds_if (dt_cmp (op_inA (hu1_of hr)) od_in (dr_var 4) (dr_of (de_tup (da_cons de_str (da_cons de_str da_nil)))) rfl)
                  (dss_one (ds_if (DW.dt (dw_and (dt_cmp (op_eqA hr.units) od_eq (dr_var 7) (dr_of de_str) (nomark _)) (dw_and1 (dt_cmp (op_eqA hr.units) od_eq (dr_var 4) (dr_of de_str) (nomark _)))))
                    (dss_cons (ds_app (ps_expr (pe_bm PySem.F.plainAttrs_list PySem.F.slot_list_append PySem.F.type_list_append mt_append (pv 1) (pa_cons (de_tup (da_cons de_str (da_cons (de_var 5) da_nil))) pa_nil))))
                    (dss_one (ds_par (by decide) (ps_par (i := 3) (j := 4) rfl sc_law_read.nd rfl rfl (by decide) rfl rfl (pa_cons (de_of_df (df_cat (dr_var 3) (dr_of (de_of_df (df_lst (da_cons (de_var 5) da_nil)))))) (pa_cons de_str pa_nil)) (by rfl)))))
                    (dss_one (ds_par3 (by decide) (by decide) (by decide) (ps_par3 (i := 8) (j := 4) (l := 5) rfl sc_law_read.nd rfl rfl rfl (by decide) (by decide) (by decide) rfl rfl rfl (pa_cons (de_and (de_cmp op_in_sign od_inS (dr_var 7) (dr_of de_str) rfl) (de_one (de_cmp op_ltA od_lt (dr_of (de_callB call_lenA cd_len (by rfl) T.len (by decide +kernel) (dr_var 5))) (dr_of de_int) (nomark _)))) (pa_cons de_str (pa_cons (de_op op_addA od_add (dr_var 5) (dr_var 7)) pa_nil))) (by rfl))))))
                  (dss_cons (ds_set (i := 8) sc_law_read.nd rfl (Or.inl rfl) (de_cmp (op_eqA hr.units) od_eq (dr_var 7) (dr_of (de_ix (dr_of (de_op op_addA od_add (dr_of (de_ix (dr_var 3) (dr_of (de_neg de_int)))) (dr_of de_str))) (dr_of (de_callB call_lenA cd_len (by rfl) T.len (by decide +kernel) (dr_var 5))))) (nomark _)))
                  (dss_cons (ds_set (i := 5) sc_law_read.nd rfl (Or.inl rfl) (de_op op_addA od_add (dr_var 5) (dr_var 7)))
                  (dss_one (ds_if (DW.dt (dw_and (dt_val (de_var 8)) (dw_and1 (dt_cmp (op_eqA hr.units) od_eq (dr_var 5) (dr_of (de_op op_addA od_add (dr_of (de_ix (dr_var 3) (dr_of (de_neg de_int)))) (dr_of de_str))) (nomark _)))))
                    (dss_cons (ds_app (ps_expr (pe_bm PySem.F.plainAttrs_list PySem.F.slot_list_append PySem.F.type_list_append mt_append (pv 1) (pa_cons (de_tup (da_cons de_str da_nil)) pa_nil))))
                    (dss_one (ds_par (by decide) (ps_par (i := 3) (j := 4) rfl sc_law_read.nd rfl rfl (by decide) rfl rfl (pa_cons (de_slice (dr_var 3) do_none (do_some (de_op op_sub od_sub (dr_of (de_callB call_lenA cd_len (by rfl) T.len (by decide +kernel) (dr_var 3))) (dr_of de_int)))) (pa_cons de_str pa_nil)) (by rfl)))))
                    dss_nil)))))))))))))
        (dss_cons (ds_if (dt_not (dt_val (de_var 8)))
          (dss_one (ds_frz 1 (by decide) (ds_ret (de_tup (da_cons (de_var 1) (da_cons (de_var 2) (da_cons (de_var 6) da_nil)))))))
          dss_nil)
        (dss_one (ds_if (dt_cmp (op_eqA hr.units) od_eq (dr_var 4) (dr_of de_str) (nomark _))
          (dss_one (ds_set (i := 2) sc_law_read.nd rfl (Or.inl rfl) (de_op op_addA od_add (dr_var 6) (dr_of de_int))))
          dss_nil))))))
      (dss_one (ds_frz 1 (by decide) (ds_ret (de_tup (da_cons (de_var 1) (da_cons (de_var 2) (da_cons de_non da_nil)))))))))) (fun ca as Q er h => ?_)
  · obtain ⟨_, rfl, _⟩ := t1_inv h
    rfl
  · obtain ⟨a, rfl, q⟩ := t1_inv h
    obtain ⟨z, rfl, hz, q⟩ := q
    walk_at "d"
    refine ⟨Nat.zero_le _, Nat.zero_le _, by decide, fun p => ⟨z, rfl, ?_⟩⟩
    have ez : z = S z.cps.toList := rfl
    refine forW_go (fun ds ρ => ∃ (k n w : Nat) (acc : List Sg) (ls : List Str) (st he : Str) (s6 s7 s8 : Lc), ds = (enumD (chD (S z.cps.toList))).drop k ∧ k ≤ z.length ∧ rdA z = pre acc (rd (n + 1) z.cps.toList w ls) ∧ z.length < w + (n + 1) ∧ w ≤ k ∧ acc.length ≤ w ∧ ls.length ≤ w ∧ (∀ l ∈ ls, l.length ≤ 60000 ∧ PyData.strOk l = true) ∧ he.length ≤ k ∧ ((st = "out" ∧ w = k) ∨ (w < k ∧ ∃ t, tld ls.head? t st he ∧ start ls.head? w (z.cps.toList.drop w) = one ls.head? t k (z.cps.toList.drop k))) ∧ nbO (some s6) ∧ nbO (some s7) ∧ nbO (some s8) ∧ ρ = [.sh (.str z), .ob p (.lst (acc.map sgD)), .sh (.int (w : Nat)), .sh (.list (ls.map .str).reverse), .sh (.str st), .sh (.str he), s6, s7, s8]) ?_ ?_ _ _ ⟨0, z.length, 0, [], [], "out", "", .un, .un, .un, rfl, Nat.zero_le _, rfl, by omega, Nat.le_refl _, Nat.le_refl _, Nat.le_refl _, (fun _ h => nomatch h), Nat.le_refl _, .inl ⟨rfl, rfl⟩, trivial, trivial, trivial, rfl⟩
    · rintro ρ ⟨k, n, w, acc, ls, st, he, s6, s7, s8, e1, hk, e2, h1, h2, h3, h4, h5, h6, h7, n6, n7, n8, rfl⟩
      have lk : k = z.length := by
        have := congrArg List.length e1
        rw [List.length_drop, enum_len, ← str_len] at this
        simp only [List.length_nil] at this
        omega
      have ed : z.cps.toList.drop k = [] := List.drop_of_length_le (by rw [← str_len]; omega)
      have es : start ls.head? w (z.cps.toList.drop w) = .cut := by
        rcases h7 with ⟨_, rfl⟩ | ⟨_, t, _, e⟩
        · rw [ed]
          rfl
        · rw [e, ed, one_nil]
      rw [rd_cut es] at e2
      rw [e2] at q
      have q : Q (.tuple [.list ((acc ++ []).map sgD), .int (w : Nat), .none]) [.sh (.str z)] := q
      rw [List.append_nil] at q
      walk_at "d"
      exact ⟨by decide, q⟩
    · rintro K x ds ρ ⟨k, n, w, acc, ls, st, he, s6, s7, s8, e1, hk, e2, h1, h2, h3, h4, h5, h6, h7, n6, n7, n8, rfl⟩ ih
      obtain ⟨c, ek, ex, ed⟩ := enum_nx e1
      subst ex ed
      have n6 : nbO (some s6) := n6
      have n7 : nbO (some s7) := n7
      have n8 : nbO (some s8) := n8
      have hk1 : k < z.length := by
        have := (List.getElem?_eq_some_iff.mp ek).1
        rw [str_len]
        exact this
      have hd : z.cps.toList.drop k = c :: z.cps.toList.drop (k + 1) := by
        obtain ⟨h1, h2⟩ := List.getElem?_eq_some_iff.mp ek
        rw [List.drop_eq_getElem_cons h1, h2]
      have la : (acc.map sgD).length < sizeLine := Nat.lt_of_le_of_lt (by rw [List.length_map]; omega : _ ≤ 60000) (by decide)
      have ll : (ls.map PyData.str).reverse.length + 1 ≤ sizeLine := Nat.le_trans (show _ ≤ 60001 by rw [List.length_reverse, List.length_map]; omega) (by decide)
      have b1 : 1 ≤ sizeLine := by decide
      have b2 : 2 ≤ sizeLine := by decide
      have b3 : 3 ≤ sizeLine := by decide
      have lh : he.length + 1 ≤ sizeLine := Nat.le_trans (show _ ≤ 60001 by omega) (by decide)
      have lh0 : he.length ≤ sizeLine := by omega
      have step : ∀ (t : Stt) (st' he' : Str) (b : PyData), tld ls.head? t st' he' → he'.length ≤ k + 1 → start ls.head? w (z.cps.toList.drop w) = one ls.head? t (k + 1) (z.cps.toList.drop (k + 1)) → K [.sh (.str z), .ob p (.lst (acc.map sgD)), .sh (.int (w : Nat)), .sh (.list (ls.map .str).reverse), .sh (.str st'), .sh (.str he'), .sh (.int (k : Nat)), .sh (.str ⟨#[c]⟩), .sh b] := fun t st' he' b ht hl hs =>
        ih _ ⟨k + 1, n, w, acc, ls, st', he', .sh (.int (k : Nat)), .sh (.str ⟨#[c]⟩), .sh b, rfl, hk1, e2, h1, by omega, h3, h4, h5, hl, .inr ⟨by omega, t, ht, hs⟩, trivial, trivial, trivial, rfl⟩
      have doneK : ∀ (s : Sg) (he' : Str) (ls' : List Str) (b : PyData), start ls.head? w (z.cps.toList.drop w) = .got s (k + 1) → nxt s ls = ls' → he'.length ≤ k + 1 → ls'.length ≤ ls.length + 1 → (∀ l ∈ ls', l.length ≤ 60000 ∧ PyData.strOk l = true) → K [.sh (.str z), .ob p (.lst (acc.map sgD ++ [sgD s])), .sh (.int ((k : Nat) + 1 : Int)), .sh (.list (ls'.map .str).reverse), .sh (.str "out"), .sh (.str he'), .sh (.int (k : Nat)), .sh (.str ⟨#[c]⟩), .sh b] := fun s he' ls' b hs hn hl hl2 ho => by
        rw [rd_got hs, pre_pre, hn] at e2
        obtain ⟨n', rfl⟩ : ∃ n', n = n' + 1 := ⟨n - 1, by have := start_got hs; omega⟩
        have := start_got hs
        exact ih _ ⟨k + 1, n', k + 1, acc ++ [s], ls', "out", he', .sh (.int (k : Nat)), .sh (.str ⟨#[c]⟩), .sh b, rfl, hk1, e2, by omega, Nat.le_refl _, by rw [List.length_append, List.length_singleton]; omega, by omega, ho, hl, .inl ⟨rfl, rfl⟩, trivial, trivial, trivial, by rw [List.map_append, List.map_singleton]; rfl⟩
      have badK : start ls.head? w (z.cps.toList.drop w) = .bad k → Q (.tuple [.list (acc.map sgD), .int (w : Nat), .int (k : Nat)]) [.sh (.str z)] := fun hs => by
        rw [rd_bad hs] at e2
        rw [e2] at q
        have q : Q (.tuple [.list ((acc ++ []).map sgD), .int (w : Nat), .int (k : Nat)]) [.sh (.str z)] := q
        rw [List.append_nil] at q
        exact q
      have e0 : (⟨#[c]⟩ : Str).length = 1 := rfl
      rcases h7 with ⟨rfl, rfl⟩ | ⟨hw, t, ht, hs⟩
      · rw [hd] at step doneK badK
        have es : start ls.head? w (c :: z.cps.toList.drop (w + 1)) = if c = 34 then one ls.head? (.tx []) (w + 1) (z.cps.toList.drop (w + 1)) else if c = 60 then one ls.head? .bg (w + 1) (z.cps.toList.drop (w + 1)) else .bad w := rfl
        have ec : decide (c ∈ (Str.ofString "<\"").cps.toList) = decide (c = 60 ∨ c = 34) := by
          rw [show (Str.ofString "<\"").cps.toList = [60, 34] from by decide +kernel, decide_eq_decide]
          simp only [List.mem_cons, List.not_mem_nil, or_false]
        walk_at "d"
        rw [if_pos (by decide +kernel)]
        refine ⟨n6, n7, n8, c, rfl, ?_⟩
        rw [if_neg (show ¬ false = true from Bool.false_ne_true), ec]
        dsimp only
        by_cases c60 : c = 60
        · rw [if_pos (by rw [decide_eq_true_iff, s60, ch_eq]; exact c60), if_neg (by rw [decide_eq_true (.inl c60)]; decide), if_neg (by decide +kernel)]
          exact step .bg _ _ _ ⟨rfl, rfl⟩ (Nat.zero_le _) (by rw [es, if_neg (by omega), if_pos c60])
        · rw [if_neg (by rw [decide_eq_true_iff, s60, ch_eq]; exact c60)]
          by_cases c34 : c = 34
          · rw [if_neg (by rw [decide_eq_true (.inr c34)]; decide), if_neg (by decide +kernel)]
            exact step (.tx []) _ _ _ ⟨rfl, rfl⟩ (Nat.zero_le _) (by rw [es, if_pos c34])
          · rw [if_pos (by rw [decide_eq_false (fun x => x.elim c60 c34)]; rfl)]
            exact ⟨b3, badK (by rw [es, if_neg c34, if_neg c60])⟩
      · rw [hd] at hs
        cases t with
        | tx h =>
          obtain ⟨rfl, rfl⟩ := ht
          rw [one_tx] at hs
          walk_at "d"
          rw [if_neg (by decide +kernel), if_pos (by decide +kernel)]
          by_cases c34 : c = 34
          · rw [if_pos c34] at hs
            rw [if_pos (by rw [decide_eq_true_iff, s34, ch_eq]; exact c34)]
            refine ⟨n6, n7, n8, b2, la, ?_⟩
            rw [if_pos (by decide +kernel)]
            exact doneK (.tx (S h)) _ ls _ hs rfl (by rw [S_len] at h6 ⊢; omega) (Nat.le_succ _) h5
          · rw [if_neg c34] at hs
            rw [if_neg (by rw [decide_eq_true_iff, s34, ch_eq]; exact c34)]
            by_cases c92 : c = 92
            · rw [if_pos c92] at hs
              rw [if_pos (by rw [decide_eq_true_iff, s92, ch_eq]; exact c92), if_neg (by decide +kernel)]
              exact ⟨n6, n7, n8, b2, step (.sk h) _ _ _ ⟨rfl, rfl⟩ (by omega) hs⟩
            · rw [if_neg c92] at hs
              rw [if_neg (by rw [decide_eq_true_iff, s92, ch_eq]; exact c92), if_neg (by decide +kernel)]
              exact ⟨n6, n7, n8, lh, b2, step (.tx (h ++ [c])) _ _ _ ⟨rfl, S_app⟩ (by rw [len_app]; show _ + 1 ≤ _; omega) hs⟩
        | sk h =>
          obtain ⟨rfl, rfl⟩ := ht
          rw [one_sk] at hs
          have ec : decide (c ∈ (Str.ofString "\"\\").cps.toList) = decide (c = 92 ∨ c = 34) := by
            have : (Str.ofString "\"\\").cps.toList = [34, 92] := by decide +kernel
            rw [this, decide_eq_decide]
            simp only [List.mem_cons, List.not_mem_nil, or_false]
            exact Or.comm
          walk_at "d"
          rw [if_neg (by decide +kernel), if_neg (by decide +kernel), if_pos (by decide +kernel)]
          refine ⟨n6, n7, n8, c, rfl, ?_⟩
          rw [if_neg (show ¬ false = true from Bool.false_ne_true), ec]
          dsimp only
          refine ⟨lh, ?_⟩
          by_cases hc : c = 92 ∨ c = 34
          · rw [if_pos hc] at hs
            rw [if_neg (by rw [decide_eq_true hc]; decide), if_neg (by decide +kernel)]
            exact step (.tx (h ++ [c])) _ _ _ ⟨rfl, S_app⟩ (by rw [len_app]; show _ + 1 ≤ _; omega) hs
          · rw [if_neg hc] at hs
            rw [if_pos (by rw [decide_eq_false hc]; rfl)]
            exact ⟨b3, badK hs⟩
        | bg =>
          obtain ⟨rfl, rfl⟩ := ht
          have eB : decide (c ∈ (Str.ofString "abcdefghijklmnopqrstuvwxyz").cps.toList) = lB c := rfl
          have cont : c ≠ 47 → start ls.head? w (z.cps.toList.drop w) = if lB c = true then one ls.head? (.nm [c]) (k + 1) (z.cps.toList.drop (k + 1)) else .bad k := fun h47 => by
            rw [hs]
            cases ls with
            | nil =>
              show one none .bg k _ = _
              rw [one_bgN, if_neg h47]
              rfl
            | cons l ls =>
              show one (some l) .bg k _ = _
              rw [one_bgS, if_neg h47]
              rfl
          walk_at "d"
          rw [if_neg (by decide +kernel), if_neg (by decide +kernel), if_neg (by decide +kernel), if_pos (by decide +kernel)]
          refine ⟨n6, n7, n8, ?_⟩
          by_cases c47 : c = 47
          · rw [if_pos (by rw [decide_eq_true_iff, s47, ch_eq]; exact c47)]
            refine ⟨Nat.zero_le _, ls_sh fun l m => (h5 l m).2, rfl, ?_⟩
            rw [eqv_nl]
            cases ls with
            | nil =>
              have hs : start none w (z.cps.toList.drop w) = one none .bg k (c :: z.cps.toList.drop (k + 1)) := hs
              rw [one_bgN, if_pos c47] at hs
              rw [if_pos (by decide)]
              exact ⟨b3, badK hs⟩
            | cons l ls =>
              have hs : start (some l) w (z.cps.toList.drop w) = one (some l) .bg k (c :: z.cps.toList.drop (k + 1)) := hs
              rw [one_bgS, if_pos c47] at hs
              rw [if_neg (show ¬ (!!(l :: ls).isEmpty) = true from Bool.false_ne_true), if_neg (by decide +kernel)]
              exact step (.en 0) _ _ _ ⟨rfl, l, rfl, Nat.zero_le _, rfl⟩ (Nat.zero_le _) hs
          · rw [if_neg (by rw [decide_eq_true_iff, s47, ch_eq]; exact c47)]
            have hs := cont c47
            refine ⟨b2, in_bn (b := true) (by decide +kernel) ?_⟩
            have hh : ∀ d ∈ ([] : List Nat), lB d = true := fun _ m => nomatch m
            have hs : start ls.head? w (z.cps.toList.drop w) = if lB c = true ∧ ([] : List Nat).length < 12 then one ls.head? (.nm ([] ++ [c])) (k + 1) (z.cps.toList.drop (k + 1)) else .bad k := by
              rw [hs]
              by_cases hb : lB c = true
              · rw [if_pos hb, if_pos ⟨hb, by decide⟩]
                rfl
              · rw [if_neg hb, if_neg (fun x => hb x.1)]
            dsimp only
            rw [if_pos rfl]
            by_cases c62 : c = 62
            · rw [if_pos (by rw [decide_eq_true_iff, s62, ch_eq]; exact c62), if_neg (by decide +kernel)]
              refine ⟨c, rfl, ?_⟩
              rw [if_neg (show ¬ false = true from Bool.false_ne_true), eB]
              dsimp only
              by_cases hb : lB c = true
              · rw [if_pos hb]
                refine ⟨lh0, lh, ?_⟩
                by_cases hl : ([] : List Nat).length < 12
                · rw [if_pos ⟨hb, hl⟩] at hs
                  rw [if_neg (by rw [decide_eq_true (by rw [S_len]; omega)]; decide), if_neg (by decide +kernel)]
                  refine step (.nm (([] : List Nat) ++ [c])) _ _ _ ⟨rfl, S_app, fun d m => ?_⟩ (by rw [len_app]; show _ + 1 ≤ _; omega) hs
                  rcases List.mem_append.mp m with m | m
                  · exact hh d m
                  · rw [List.mem_singleton.mp m]
                    exact hb
                · rw [if_neg (fun x => hl x.2)] at hs
                  rw [if_pos (by rw [decide_eq_false (by rw [S_len]; omega)]; rfl)]
                  exact ⟨b3, badK hs⟩
              · rw [if_neg hb]
                rw [if_neg (fun x => hb x.1)] at hs
                exact ⟨lh, b3, badK hs⟩
            · rw [if_neg (by rw [decide_eq_true_iff, s62, ch_eq]; exact c62)]
              refine ⟨c, rfl, ?_⟩
              rw [if_neg (show ¬ false = true from Bool.false_ne_true), eB]
              dsimp only
              by_cases hb : lB c = true
              · rw [if_pos hb]
                refine ⟨lh0, lh, ?_⟩
                by_cases hl : ([] : List Nat).length < 12
                · rw [if_pos ⟨hb, hl⟩] at hs
                  rw [if_neg (by rw [decide_eq_true (by rw [S_len]; omega)]; decide), if_neg (by decide +kernel)]
                  refine step (.nm (([] : List Nat) ++ [c])) _ _ _ ⟨rfl, S_app, fun d m => ?_⟩ (by rw [len_app]; show _ + 1 ≤ _; omega) hs
                  rcases List.mem_append.mp m with m | m
                  · exact hh d m
                  · rw [List.mem_singleton.mp m]
                    exact hb
                · rw [if_neg (fun x => hl x.2)] at hs
                  rw [if_pos (by rw [decide_eq_false (by rw [S_len]; omega)]; rfl)]
                  exact ⟨b3, badK hs⟩
              · rw [if_neg hb]
                rw [if_neg (fun x => hb x.1)] at hs
                exact ⟨lh, b3, badK hs⟩
        | nm h =>
          obtain ⟨rfl, rfl, hh⟩ := ht
          rw [one_nm] at hs
          walk_at "d"
          rw [if_neg (by decide +kernel), if_neg (by decide +kernel), if_neg (by decide +kernel), if_neg (by decide +kernel)]
          have eB : decide (c ∈ (Str.ofString "abcdefghijklmnopqrstuvwxyz").cps.toList) = lB c := rfl
          refine ⟨n6, n7, n8, b2, in_bn (b := true) (by decide +kernel) ?_⟩
          dsimp only
          rw [if_pos rfl]
          by_cases c62 : c = 62
          · rw [if_pos c62] at hs
            rw [if_pos (by rw [decide_eq_true_iff, s62, ch_eq]; exact c62), if_pos (by decide +kernel)]
            refine ⟨b2, la, b1, ll, ?_⟩
            rw [if_pos (by decide +kernel)]
            have := doneK (.op (S h)) (S h) (S h :: ls) (.bool true) hs rfl (by omega) (Nat.le_refl _) fun y m => by
              rcases List.mem_cons.mp m with rfl | m
              · exact ⟨by omega, let_ok hh⟩
              · exact h5 y m
            rw [List.map_cons, List.reverse_cons] at this
            exact this
          · rw [if_neg c62] at hs
            rw [if_neg (by rw [decide_eq_true_iff, s62, ch_eq]; exact c62)]
            refine ⟨c, rfl, ?_⟩
            rw [if_neg (show ¬ false = true from Bool.false_ne_true), eB]
            dsimp only
            by_cases hb : lB c = true
            · rw [if_pos hb]
              refine ⟨lh0, lh, ?_⟩
              by_cases hl : h.length < 12
              · rw [if_pos ⟨hb, hl⟩] at hs
                rw [if_neg (by rw [decide_eq_true (by rw [S_len]; omega)]; decide), if_neg (by decide +kernel)]
                refine step (.nm (h ++ [c])) _ _ _ ⟨rfl, S_app, fun d m => ?_⟩ (by rw [len_app]; show _ + 1 ≤ _; omega) hs
                rcases List.mem_append.mp m with m | m
                · exact hh d m
                · rw [List.mem_singleton.mp m]
                  exact hb
              · rw [if_neg (fun x => hl x.2)] at hs
                rw [if_pos (by rw [decide_eq_false (by rw [S_len]; omega)]; rfl)]
                exact ⟨b3, badK hs⟩
            · rw [if_neg hb]
              rw [if_neg (fun x => hb x.1)] at hs
              exact ⟨lh, b3, badK hs⟩
        | en j =>
          obtain ⟨rfl, l, hl, hj, rfl⟩ := ht
          walk_at "d"
          rw [if_neg (by decide +kernel), if_neg (by decide +kernel), if_neg (by decide +kernel), if_neg (by decide +kernel)]
          refine ⟨n6, n7, n8, b2, in_bn (b := false) (by decide +kernel) ?_⟩
          dsimp only
          rw [if_neg (show ¬ false = true from Bool.false_ne_true)]
          cases ls with
          | nil => cases hl
          | cons l' ls =>
            obtain rfl : l' = l := Option.some.inj hl
            have hs : start (some l') w (z.cps.toList.drop w) = one (some l') (.en j) k (c :: z.cps.toList.drop (k + 1)) := hs
            rw [one_en] at hs
            have lt : (S ((l'.cps.toList ++ [62]).take j)).length = j := by
              rw [S_len, List.length_take, List.length_append, ← str_len, List.length_singleton]
              omega
            have lj : j < (l'.cps.toList ++ [62]).length := by
              rw [List.length_append, ← str_len, List.length_singleton]
              omega
            have eL : l' ++ Str.ofString ">" = S (l'.cps.toList ++ [62]) := str_ext (by rw [cps_app, s62]; rfl)
            have ll1 : l'.length + 1 ≤ sizeLine := Nat.le_trans (show _ ≤ 60001 by have := (h5 l' List.mem_cons_self).1; omega) (by decide)
            have lL : (S (l'.cps.toList ++ [62])).length ≤ 100000 := by
              rw [S_len, List.length_append, ← str_len, List.length_singleton]
              have := (h5 l' List.mem_cons_self).1
              omega
            obtain ⟨d, ed⟩ : ∃ d, (l'.cps.toList ++ [62])[j]? = some d := ⟨_, List.getElem?_eq_getElem lj⟩
            have edr : (S (l'.cps.toList ++ [62])).cps.toList.drop j = d :: (l'.cps.toList ++ [62]).drop (j + 1) := by
              show (l'.cps.toList ++ [62]).drop j = _
              rw [List.drop_eq_getElem_cons lj]
              rw [List.getElem?_eq_getElem lj] at ed
              rw [Option.some.inj ed]
            rw [lt] at lh lh0 ⊢
            rw [List.map_cons, List.reverse_cons]
            rw [List.map_cons, List.reverse_cons] at ll
            refine ix_last ?_
            walk_at "d"
            refine ⟨ll1, lh0, ?_⟩
            rw [eL]
            refine ix_ch edr lL ?_
            walk_at "d"
            refine ⟨lh, ?_⟩
            by_cases hc : c = d
            · subst hc
              rw [ed, if_pos rfl] at hs
              rw [if_pos (by rw [decide_eq_true_iff])]
              refine ix_last ?_
              walk_at "d"
              refine ⟨ll1, ?_⟩
              rw [eL]
              have eh : S ((l'.cps.toList ++ [62]).take j) ++ (⟨#[c]⟩ : Str) = S ((l'.cps.toList ++ [62]).take (j + 1)) := by
                rw [show (⟨#[c]⟩ : Str) = S [c] from rfl, S_app, List.take_succ, ed]
                rfl
              rw [eh]
              by_cases hj2 : j = l'.length
              · rw [if_pos hj2] at hs
                have et : (l'.cps.toList ++ [62]).take (j + 1) = l'.cps.toList ++ [62] := List.take_of_length_le (by rw [List.length_append, ← str_len, List.length_singleton]; omega)
                rw [et, if_pos (by rw [decide_eq_true_iff])]
                refine ⟨b1, la, ?_⟩
                rw [if_neg (by simp), if_pos (by decide +kernel), cut_last]
                exact doneK .cl (S (l'.cps.toList ++ [62])) ls _ hs rfl (by
                  rw [S_len, List.length_append, ← str_len, List.length_singleton]
                  rw [lt] at h6
                  omega) (by rw [List.length_cons]; omega) fun y m => h5 y (List.mem_cons_of_mem _ m)
              · rw [if_neg hj2] at hs
                rw [if_neg (by
                  rw [decide_eq_true_iff]
                  intro x
                  have := congrArg (fun y : Str => y.cps.toList.length) x
                  simp only [S_cps, List.length_take, List.length_append, List.length_singleton] at this
                  rw [← str_len] at this
                  omega)]
                rw [if_neg (by simp), if_neg (by decide +kernel)]
                have := step (.en (j + 1)) "end" (S ((l'.cps.toList ++ [62]).take (j + 1))) (.bool (decide True)) ⟨rfl, l', rfl, by omega, rfl⟩ (by
                  rw [S_len, List.length_take]
                  rw [lt] at h6
                  omega) hs
                rw [List.map_cons, List.reverse_cons] at this
                exact this
            · rw [ed, if_neg (fun x => hc (Option.some.inj x).symm)] at hs
              have hn : decide ((⟨#[c]⟩ : Str) = ⟨#[d]⟩) = false := decide_eq_false (fun x => hc (ch_eq (n := d).mp x))
              rw [hn, if_neg (show ¬ false = true from Bool.false_ne_true), if_pos (by rfl)]
              exact ⟨b3, badK hs⟩
end
end Lw
set_option Elab.async false
set_option linter.all false
set_option maxRecDepth 100000
set_option maxHeartbeats 1000000
set_option pp.deepTerms true
set_option pp.maxSteps 200000
namespace Lw
open PySem PySem.Spec PyProof PyProof.Rows L2 So Da Dl
local macro_rules | `(tactic| walk_at "z") => `(tactic| repeat (first | refine ⟨(by decide), ?_⟩ | refine ⟨(by omega), ?_⟩ | refine ⟨rfl, ?_⟩))
section
variable {Z : Zw}
theorem one_txk {tp : Option Str} : ∀ (l : List Nat) (t : Stt) (a : Nat) {s : Sg} {b : Nat}, (∃ h, t = .tx h ∨ t = .sk h) → one tp t a l = .got s b → ∃ z, s = .tx z
  | [], t, a, s, b, _, h => by rw [one_nil] at h; cases h
  | c :: r, .tx x, a, s, b, _, h => by
    rw [one_tx] at h
    split at h
    · cases h; exact ⟨_, rfl⟩
    · split at h
      · exact one_txk r _ _ ⟨_, .inr rfl⟩ h
      · exact one_txk r _ _ ⟨_, .inl rfl⟩ h
  | c :: r, .sk x, a, s, b, _, h => by
    rw [one_sk] at h
    split at h
    · exact one_txk r _ _ ⟨_, .inl rfl⟩ h
    · cases h
  | c :: r, .nm x, a, s, b, hx, h => by obtain ⟨_, e | e⟩ := hx <;> cases e
  | c :: r, .bg, a, s, b, hx, h => by obtain ⟨_, e | e⟩ := hx <;> cases e
  | c :: r, .en k, a, s, b, hx, h => by obtain ⟨_, e | e⟩ := hx <;> cases e
theorem one_bad {tp : Option Str} : ∀ (l : List Nat) (t : Stt) (a : Nat) {p : Nat}, one tp t a l = .bad p → p < a + l.length
  | [], t, a, p, h => by rw [one_nil] at h; cases h
  | c :: r, .tx x, a, p, h => by
    rw [one_tx] at h
    rw [List.length_cons]
    split at h
    · cases h
    · split at h
      · have := one_bad r _ _ h; omega
      · have := one_bad r _ _ h; omega
  | c :: r, .sk x, a, p, h => by
    rw [one_sk] at h
    rw [List.length_cons]
    split at h
    · have := one_bad r _ _ h; omega
    · cases h; omega
  | c :: r, .nm x, a, p, h => by
    rw [one_nm] at h
    rw [List.length_cons]
    split at h
    · cases h
    · split at h
      · have := one_bad r _ _ h; omega
      · cases h; omega
  | c :: r, .bg, a, p, h => by
    rw [List.length_cons]
    cases tp with
    | none =>
      rw [one_bgN] at h
      split at h
      · cases h; omega
      · split at h
        · have := one_bad r _ _ h; omega
        · cases h; omega
    | some l =>
      rw [one_bgS] at h
      split at h
      · have := one_bad r _ _ h; omega
      · split at h
        · have := one_bad r _ _ h; omega
        · cases h; omega
  | c :: r, .en k, a, p, h => by
    rw [List.length_cons]
    cases tp with
    | none =>
      have h : Rs.bad a = .bad p := h
      cases h; omega
    | some l =>
      rw [one_en] at h
      split at h
      · split at h
        · cases h
        · have := one_bad r _ _ h; omega
      · cases h; omega
theorem start_bad {tp : Option Str} {l : List Nat} {a p : Nat} (h : start tp a l = .bad p) : p < a + l.length := by
  cases l with
  | nil => cases h
  | cons c r =>
    have h : (if c = 34 then one tp (.tx []) (a + 1) r else if c = 60 then one tp .bg (a + 1) r else .bad a) = .bad p := h
    rw [List.length_cons]
    split at h
    · have := one_bad r _ _ h; omega
    · split at h
      · have := one_bad r _ _ h; omega
      · cases h; omega
/-- what opens or closes -/
def oc : Sg → Nat
  | .tx _ => 0
  | _ => 1
def ocS (ss : List Sg) : Nat := (ss.map oc).sum
theorem start_oc {tp : Option Str} {l : List Nat} {a b : Nat} {s : Sg} (h : start tp a l = .got s b) : ∃ c r, l = c :: r ∧ (oc s = 0 ∨ (oc s = 1 ∧ c = 60)) := by
  cases l with
  | nil => cases h
  | cons c r =>
    refine ⟨c, r, rfl, ?_⟩
    have h : (if c = 34 then one tp (.tx []) (a + 1) r else if c = 60 then one tp .bg (a + 1) r else .bad a) = .got s b := h
    split at h
    · obtain ⟨z, rfl⟩ := one_txk r _ _ ⟨_, .inl rfl⟩ h
      exact .inl rfl
    · split at h
      · rename_i e
        cases s with
        | tx z => exact .inl rfl
        | op z => exact .inr ⟨rfl, e⟩
        | cl => exact .inr ⟨rfl, e⟩
      · cases h
theorem count_drop {L : List Nat} {a b : Nat} (h : a ≤ b) : (L.drop b).count 60 ≤ (L.drop a).count 60 := by
  rw [show b = a + (b - a) by omega, ← List.drop_drop]
  exact List.Sublist.count_le _ (List.drop_sublist _ _)
theorem rd_all {L : List Nat} : ∀ (n a : Nat) (ls : List Str), a ≤ L.length → (∀ s ∈ (rd n L a ls).1, sgLen s ≤ L.length ∧ ∀ c ∈ sgC s, c ∈ L) ∧ Lv (rd n L a ls).1 (ls.length : Nat) ((rd n L a ls).2.2.2.length : Nat) ∧ ocS (rd n L a ls).1 ≤ (L.drop a).count 60 ∧ ∀ p, (rd n L a ls).2.2.1 = some p → p < L.length
  | 0, a, ls, h => ⟨(fun _ m => nomatch m), rfl, Nat.zero_le _, (fun _ e => nomatch e)⟩
  | n + 1, a, ls, h => by
    cases e : start ls.head? a (L.drop a) with
    | cut => rw [rd_cut e]; exact ⟨(fun _ m => nomatch m), rfl, Nat.zero_le _, (fun _ e => nomatch e)⟩
    | bad p =>
      rw [rd_bad e]
      refine ⟨(fun _ m => nomatch m), rfl, Nat.zero_le _, fun q eq => ?_⟩
      cases eq
      have := start_bad e
      rw [List.length_drop] at this
      omega
    | got s b =>
      obtain ⟨h1, h2⟩ := start_got e
      obtain ⟨⟨h3, h4⟩, h5⟩ := start_in e
      obtain ⟨c, r, h6, h7⟩ := start_oc e
      rw [List.length_drop] at h2 h3
      obtain ⟨a1, a2, a3, a4⟩ := rd_all (L := L) n b (nxt s ls) (by omega)
      rw [rd_got e]
      generalize rd n L b (nxt s ls) = R at a1 a2 a3 a4 ⊢
      refine ⟨fun x m => ?_, ⟨?_, ?_⟩, ?_, a4⟩
      · rcases List.mem_cons.mp m with rfl | m
        · exact ⟨by rw [← sgC_len]; omega, fun d md => List.mem_of_mem_drop (h4 d md)⟩
        · exact a1 x m
      · cases s with
        | op l => show 0 ≤ ((ls.length : Nat) : Int) + 1; omega
        | tx z => show 0 ≤ ((ls.length : Nat) : Int) + 0; omega
        | cl =>
          cases ls with
          | nil => exact absurd rfl (h5 rfl)
          | cons l ls => show 0 ≤ (((ls.length + 1 : Nat)) : Int) + -1; omega
      · cases s with
        | op l => exact a2
        | tx z =>
          rw [show ((ls.length : Nat) : Int) + stpS (.tx z) = ls.length from Int.add_zero _]
          exact a2
        | cl =>
          cases ls with
          | nil => exact absurd rfl (h5 rfl)
          | cons l ls =>
            rw [show (((l :: ls).length : Nat) : Int) + stpS .cl = ls.length from by show ((ls.length + 1 : Nat) : Int) + -1 = _; omega]
            exact a2
      · have h8 : (L.drop b).count 60 ≤ r.count 60 := by
          have := count_drop (L := L) (show a + 1 ≤ b by omega)
          rw [← List.drop_drop, h6] at this
          exact this
        show oc s + ocS R.1 ≤ _
        rw [h6]
        rcases h7 with h7 | ⟨h7, rfl⟩
        · have := List.count_le_count_cons (a := 60) (b := c) (l := r)
          omega
        · rw [List.count_cons_self]
          omega
theorem ocS_app {a b : List Sg} : ocS (a ++ b) = ocS a + ocS b := by
  unfold ocS
  rw [List.map_append, List.sum_append]
theorem ocS_cons {s : Sg} {b : List Sg} : ocS (s :: b) = oc s + ocS b := rfl
theorem hgt_oc : ∀ d : Doc, 2 * hgt d ≤ ocS (sigs d)
  | .nil => Nat.le_refl _
  | .tx z r => by
    have := hgt_oc r
    show 2 * hgt r ≤ 0 + ocS (sigs r)
    omega
  | .el l c r => by
    have := hgt_oc c
    have := hgt_oc r
    show 2 * max (hgt c + 1) (hgt r) ≤ ocS (.op l :: sigs c ++ .cl :: sigs r)
    rw [List.cons_append, ocS_cons, ocS_app, ocS_cons]
    show _ ≤ 1 + (ocS (sigs c) + (1 + ocS (sigs r)))
    omega
/-- all signs are of ASCII -/
def asc1 (z : Str) : Prop := ∀ c ∈ z.cps.toList, c < 128
theorem asc_so {l : List Nat} (h : ∀ c ∈ l, c < 128) : PyData.strOk (S l) = true := by
  rw [so_of, List.all_eq_true]
  intro c m
  have := h c m
  exact decide_eq_true (show c < 0x110000 by omega)
theorem sgC_so {s : Sg} (h : ∀ c ∈ sgC s, c < 128) {n : Nat} (l : sgLen s ≤ n) (hn : n ≤ 60000) : OkN 1 (sgD s) := by
  cases s with
  | op z =>
    have hz : PyData.strOk z = true := asc_so (l := z.cps.toList) h
    have l : z.length ≤ n := l
    exact okn_T (n := 0) (fun d m => by
      simp only [List.mem_cons, List.not_mem_nil, or_false] at m
      rcases m with rfl | rfl
      · exact okn_str (by decide) (by decide +kernel)
      · exact okn_str (by omega) hz) (by show 2 ≤ 100000; decide)
  | tx z =>
    have hz : PyData.strOk z = true := asc_so (l := z.cps.toList) h
    have l : z.length ≤ n := l
    exact okn_T (n := 0) (fun d m => by
      simp only [List.mem_cons, List.not_mem_nil, or_false] at m
      rcases m with rfl | rfl
      · exact okn_str (by decide) (by decide +kernel)
      · exact okn_str (by omega) hz) (by show 2 ≤ 100000; decide)
  | cl =>
    exact okn_T (n := 0) (fun d m => by
      simp only [List.mem_cons, List.not_mem_nil, or_false] at m
      subst m
      exact okn_str (by decide) (by decide +kernel)) (by decide)
/-- what is read of a text of ASCII signs -/
structure RdOk (z : Str) (ss : List Sg) (w : Nat) (bad : Option Nat) (ls : List Str) : Prop where
  ok : ∀ s ∈ ss, OkN 1 (sgD s)
  len : ss.length ≤ z.length
  wle : w ≤ z.length
  lv : Lv ss 0 (ls.length : Nat)
  cnt : ocS ss ≤ lts z
  bd : ∀ p, bad = some p → p < z.length
theorem rd_ok {z : Str} {ss : List Sg} {w : Nat} {bad : Option Nat} {ls : List Str} (ha : asc1 z) (hz : z.length ≤ 60000) (e : rdA z = (ss, w, bad, ls)) : RdOk z ss w bad ls := by
  obtain ⟨h1, h2, h3, h4⟩ := rd_all (L := z.cps.toList) (z.length + 1) 0 [] (Nat.zero_le _)
  obtain ⟨h5, _, h7⟩ := rd_len (L := z.cps.toList) (z.length + 1) 0 [] (Nat.zero_le _)
  rw [show rd (z.length + 1) z.cps.toList 0 [] = (ss, w, bad, ls) from e] at h1 h2 h3 h4 h5 h7
  exact ⟨fun s m => sgC_so (fun c mc => ha c ((h1 s m).2 c mc)) (h1 s m).1 hz, by rw [str_len]; exact h5, by rw [str_len]; exact h7, h2, h3, by rw [str_len]; exact h4⟩
theorem RdOk.doc {z : Str} {ss : List Sg} {w : Nat} {bad : Option Nat} (I : RdOk z ss w bad []) : ∃ d, ss = sigs d ∧ 2 * hgt d ≤ lts z := by
  obtain ⟨d, rfl⟩ := lv_doc (by have := I.lv; exact this)
  exact ⟨d, rfl, Nat.le_trans (hgt_oc d) I.cnt⟩
theorem RdOk.okL {z : Str} {ss : List Sg} {w : Nat} {bad : Option Nat} {ls : List Str} (I : RdOk z ss w bad ls) (hz : z.length ≤ 60000) : OkN 2 (.list (ss.map sgD)) ∧ OkN 2 (.tuple (ss.map sgD)) := by
  have h : ∀ d ∈ ss.map sgD, OkN 1 d := fun d m => by
    obtain ⟨s, ms, rfl⟩ := List.mem_map.mp m
    exact I.ok s ms
  have l : (ss.map sgD).length ≤ 100000 := by rw [List.length_map]; have := I.len; omega
  exact ⟨okn_L h l, okn_T h l⟩
end
end Lw
set_option Elab.async false
set_option linter.all false
set_option maxRecDepth 100000
set_option maxHeartbeats 1000000
set_option pp.deepTerms true
set_option pp.maxSteps 200000
namespace Lw
open PySem PySem.Spec PyProof PyProof.Rows L2 So Da Dl
local macro_rules | `(tactic| walk_at "z") => `(tactic| repeat (first | refine ⟨(by decide), ?_⟩ | refine ⟨(by omega), ?_⟩ | refine ⟨rfl, ?_⟩))
section
variable {Z : Zw}
theorem sg_so {s : Sg} (h : OkN 1 (sgD s)) : PyData.strOk (S (sgC s)) = true := by
  cases s with
  | op z => 
    have := h.lay
    simp only [sgD, PyData.canLay0, PyData.canLayAll0, Bool.and_eq_true] at this
    exact this.2.1
  | tx z =>
    have := h.lay
    simp only [sgD, PyData.canLay0, PyData.canLayAll0, Bool.and_eq_true] at this
    exact this.2.1
  | cl => decide +kernel
theorem items_ok : ∀ d : Doc, (∀ s ∈ sigs d, PyData.strOk (S (sgC s)) = true) → ∀ x ∈ items d, x.canLay0 = true ∧ x.depth ≤ 2 * hgt d + 1
  | .nil, _, _, m => nomatch m
  | .tx z r, h, x, m => by
    rcases List.mem_cons.mp m with rfl | m
    · refine ⟨lay_tup (all_c (p := fun d => d.canLay0 = true) (show PyData.strOk "text" = true by decide +kernel) (all_1 (h (.tx z) List.mem_cons_self))), ?_⟩
      show 1 ≤ _
      omega
    · exact items_ok r (fun s ms => h s (List.mem_cons_of_mem _ ms)) x m
  | .el l c r, h, x, m => by
    rcases List.mem_cons.mp m with rfl | m
    · have hc := items_ok c fun s ms => h s (List.mem_cons_of_mem _ (List.mem_append.mpr (.inl ms)))
      refine ⟨lay_tup (all_c (p := fun d => d.canLay0 = true) (show PyData.strOk "element" = true by decide +kernel) (all_c (p := fun d => d.canLay0 = true) (h (.op l) List.mem_cons_self) (all_1 (lay_tup fun y my => (hc y my).1)))), ?_⟩
      have h1 : (PyData.tuple (items c)).depth ≤ 2 * hgt c + 1 + 1 := by
        simp only [PyData.depth]
        exact Nat.succ_le_succ (dep_all fun y my => (hc y my).2)
      have h2 : (PyData.tuple [.str "element", .str l, .tuple (items c)]).depth ≤ 2 * hgt c + 2 + 1 := by
        rw [PyData.depth]
        exact Nat.succ_le_succ (dep_all (all_c (Nat.zero_le _) (all_c (Nat.zero_le _) (all_1 h1))))
      rw [hgt_el]
      omega
    · have := items_ok r (fun s ms => h s (List.mem_cons_of_mem _ (List.mem_append.mpr (.inr (List.mem_cons_of_mem _ ms))))) x m
      rw [hgt_el]
      exact ⟨this.1, by omega⟩
theorem doc_ok {d : Doc} (h : ∀ s ∈ sigs d, OkN 1 (sgD s)) : (docD d).canLay0 = true ∧ (docD d).depth ≤ 2 * hgt d + 2 := by
  have := items_ok d fun s m => sg_so (h s m)
  refine ⟨lay_tup fun x m => (this x m).1, ?_⟩
  unfold docD
  rw [PyData.depth]
  exact Nat.succ_le_succ (dep_all fun x m => (this x m).2)
theorem one_esc {tp : Option Str} : ∀ (l h r : List Nat) (a : Nat), one tp (.tx h) a (esc l ++ 34 :: r) = .got (.tx (S (h ++ l))) (a + (esc l).length + 1)
  | [], h, r, a => by
    show one tp (.tx h) a (34 :: r) = _
    rw [one_tx, if_pos rfl, List.append_nil]
    rfl
  | c :: l, h, r, a => by
    have e : esc (c :: l) = (if c = 92 ∨ c = 34 then [92, c] else [c]) ++ esc l := rfl
    have ih := one_esc (tp := tp) l (h ++ [c]) r
    rw [e]
    by_cases hc : c = 92 ∨ c = 34
    · rw [if_pos hc]
      show one tp (.tx h) a (92 :: c :: (esc l ++ 34 :: r)) = _
      rw [one_tx, if_neg (by decide), if_pos rfl, one_sk, if_pos hc, ih, List.append_assoc, List.length_append]
      show Rs.got _ (a + 1 + 1 + _ + 1) = Rs.got _ (a + (2 + _) + 1)
      rw [show a + 1 + 1 + (esc l).length + 1 = a + (2 + (esc l).length) + 1 by omega]
      rfl
    · rw [if_neg hc]
      show one tp (.tx h) a (c :: (esc l ++ 34 :: r)) = _
      rw [one_tx, if_neg (fun e => hc (.inr e)), if_neg (fun e => hc (.inl e)), ih, List.append_assoc, List.length_append]
      show Rs.got _ (a + 1 + _ + 1) = Rs.got _ (a + (1 + _) + 1)
      rw [show a + 1 + (esc l).length + 1 = a + (1 + (esc l).length) + 1 by omega]
      rfl
theorem one_lab {tp : Option Str} : ∀ (l h r : List Nat) (a : Nat), (∀ c ∈ l, lB c = true) → h.length + l.length ≤ 12 → one tp (.nm h) a (l ++ 62 :: r) = .got (.op (S (h ++ l))) (a + l.length + 1)
  | [], h, r, a, _, _ => by
    show one tp (.nm h) a (62 :: r) = _
    rw [one_nm, if_pos rfl, List.append_nil]
    rfl
  | c :: l, h, r, a, hl, hn => by
    rw [List.length_cons] at hn
    have hc := hl c List.mem_cons_self
    have ih := one_lab (tp := tp) l (h ++ [c]) r (a + 1) (fun d m => hl d (List.mem_cons_of_mem _ m)) (by rw [List.length_append, List.length_singleton]; omega)
    show one tp (.nm h) a (c :: (l ++ 62 :: r)) = _
    rw [one_nm, if_neg (fun e => by rw [e, l62] at hc; cases hc), if_pos ⟨hc, by omega⟩, ih, List.append_assoc, List.length_cons, show a + 1 + l.length + 1 = a + (l.length + 1) + 1 by omega]
    rfl
theorem one_end {l : Str} {r : List Nat} : ∀ (p k a : Nat), k + p = l.length → one (some l) (.en k) a ((l.cps.toList ++ [62]).drop k ++ r) = .got .cl (a + p + 1)
  | 0, k, a, h => by
    have hk : k < (l.cps.toList ++ [62]).length := by rw [List.length_append, ← str_len, List.length_singleton]; omega
    rw [List.drop_eq_getElem_cons hk, List.cons_append, one_en, if_pos (List.getElem?_eq_getElem hk), if_pos (by omega)]
  | p + 1, k, a, h => by
    have hk : k < (l.cps.toList ++ [62]).length := by rw [List.length_append, ← str_len, List.length_singleton]; omega
    have ih := one_end (l := l) (r := r) p (k + 1) (a + 1) (by omega)
    rw [List.drop_eq_getElem_cons hk, List.cons_append, one_en, if_pos (List.getElem?_eq_getElem hk), if_neg (by omega), ih, show a + 1 + p + 1 = a + (p + 1) + 1 by omega]
/-- what the law draws -/
def SgL : Sg → Prop
  | .op l => LLb l
  | .tx z => Pc CHR 8 z ∧ lts z ≤ 2
  | .cl => True
theorem lab_let {l : Str} (h : LLb l) : ∃ c r, l.cps.toList = c :: r ∧ r.length < 12 ∧ lB c = true ∧ c ≠ 47 ∧ ∀ d ∈ r, lB d = true := by
  rcases h with rfl | rfl | rfl | rfl <;> exact ⟨_, _, rfl, by decide, by decide, by decide, by decide +kernel⟩
theorem sg_law : ∀ (d : Doc) (n : Nat), DocL n d → txA d → ∀ s ∈ sigs d, SgL s
  | .nil, _, _, _, _, m => nomatch m
  | .tx z r, n, h, t, s, m => by
    obtain ⟨h1, h2⟩ := docL_tx.mp h
    rcases List.mem_cons.mp m with rfl | m
    · exact ⟨h1, t.1⟩
    · exact sg_law r n h2 t.2 s m
  | .el l c r, n, h, t, s, m => by
    cases n with
    | zero => exact h.elim
    | succ n =>
      rcases List.mem_cons.mp m with rfl | m
      · exact h.1
      rcases List.mem_append.mp m with m | m
      · exact sg_law c n h.2.1.1 t.1 s m
      rcases List.mem_cons.mp m with rfl | m
      · trivial
      · exact sg_law r (n + 1) h.2.2 t.2 s m
theorem start_34 {tp : Option Str} {a : Nat} {r : List Nat} : start tp a (34 :: r) = one tp (.tx []) (a + 1) r := rfl
theorem start_60 {tp : Option Str} {a : Nat} {r : List Nat} : start tp a (60 :: r) = one tp .bg (a + 1) r := rfl
theorem rd_mk {L : List Nat} {m : Nat} : ∀ (ss : List Sg) (ls : List Str) (acc : List Nat) (n : Nat), Lv ss (ls.length : Nat) (m : Nat) → (∀ s ∈ ss, SgL s) → L = acc ++ mkS ls ss → (mkS ls ss).length < n → ∃ ls', rd n L acc.length ls = (ss, L.length, none, ls') ∧ ls'.length = m
  | [], ls, acc, n, lv, _, e, hn => by
    obtain ⟨n, rfl⟩ : ∃ k, n = k + 1 := ⟨n - 1, by omega⟩
    have e : L = acc ++ [] := e
    rw [List.append_nil] at e
    subst e
    refine ⟨ls, rd_cut (by rw [List.drop_length]; rfl), ?_⟩
    have : ((ls.length : Nat) : Int) = m := lv
    omega
  | s :: ss, ls, acc, n, lv, ok, e, hn => by
    obtain ⟨n, rfl⟩ : ∃ k, n = k + 1 := ⟨n - 1, by omega⟩
    have ok2 : ∀ x ∈ ss, SgL x := fun x mx => ok x (List.mem_cons_of_mem _ mx)
    have ok1 := ok s List.mem_cons_self
    have key : ∀ (p : List Nat) (ls' : List Str), nxt s ls = ls' → mkS ls (s :: ss) = p ++ mkS ls' ss → Lv ss (ls'.length : Nat) (m : Nat) → start ls.head? acc.length (p ++ mkS ls' ss) = .got s (acc.length + p.length) → ∃ ls', rd (n + 1) L acc.length ls = (s :: ss, L.length, none, ls') ∧ ls'.length = m := fun p ls' h1 h2 h3 h4 => by
      have hp : 0 < p.length := by
        cases p with
        | cons _ _ => exact Nat.succ_pos _
        | nil =>
          have := (start_got h4).1
          rw [List.length_nil] at this
          omega
      rw [h2, List.length_append] at hn
      rw [h2, ← List.append_assoc] at e
      have h5 : start ls.head? acc.length (L.drop acc.length) = .got s (acc ++ p).length := by
        rw [e, List.append_assoc, List.drop_left, h4, List.length_append]
      obtain ⟨l2, r1, r2⟩ := rd_mk ss ls' (acc ++ p) n h3 ok2 e (by omega)
      refine ⟨l2, ?_, r2⟩
      rw [rd_got h5, h1, r1]
      rfl
    cases s with
    | tx z =>
      refine key (34 :: esc z.cps.toList ++ [34]) ls rfl rfl (by have := lv.2; rw [show ((ls.length : Nat) : Int) + stpS (.tx z) = ls.length from Int.add_zero _] at this; exact this) ?_
      rw [List.cons_append, List.cons_append, start_34, List.append_assoc]
      show one _ _ _ (esc z.cps.toList ++ 34 :: _) = _
      rw [one_esc, List.length_cons, List.length_append, List.length_singleton, show acc.length + 1 + (esc z.cps.toList).length + 1 = acc.length + ((esc z.cps.toList).length + 1 + 1) by omega]
      rfl
    | op l =>
      refine key (60 :: (l.cps.toList ++ [62])) (l :: ls) rfl ?_ (by have := lv.2; exact this) ?_
      · show 60 :: (l.cps.toList ++ 62 :: mkS (l :: ls) ss) = _
        rw [List.cons_append, List.append_assoc]
        rfl
      · obtain ⟨c, r, e1, e2, e3, e4, e5⟩ := lab_let (l := l) ok1
        rw [List.cons_append, start_60, List.append_assoc, List.length_cons, List.length_append, List.length_singleton, e1]
        have e6 : S (c :: r) = l := by rw [← e1]; rfl
        have e7 : one ls.head? (.nm [c]) (acc.length + 1 + 1) (r ++ 62 :: mkS (l :: ls) ss) = .got (.op l) (acc.length + ((c :: r).length + 1 + 1)) := by
          rw [one_lab r [c] _ _ e5 (by rw [List.length_singleton]; omega), List.singleton_append, e6, List.length_cons, show acc.length + 1 + 1 + r.length + 1 = acc.length + (r.length + 1 + 1 + 1) by omega]
        show one ls.head? .bg (acc.length + 1) (c :: (r ++ 62 :: mkS (l :: ls) ss)) = _
        rw [← e7]
        cases ls with
        | nil =>
          show one none .bg _ _ = _
          rw [one_bgN, if_neg e4, if_pos e3]
          rfl
        | cons y ys =>
          show one (some y) .bg _ _ = _
          rw [one_bgS, if_neg e4, if_pos e3]
          rfl
    | cl =>
      cases ls with
      | nil => exact absurd lv.1 (by decide)
      | cons l ls =>
        refine key (60 :: 47 :: (l.cps.toList ++ [62])) ls rfl ?_ (by have := lv.2; rw [show (((l :: ls).length : Nat) : Int) + stpS .cl = ls.length from by show ((ls.length + 1 : Nat) : Int) + -1 = _; omega] at this; exact this) ?_
        · show 60 :: 47 :: (l.cps.toList ++ 62 :: mkS ls ss) = _
          rw [List.cons_append, List.cons_append, List.append_assoc]
          rfl
        · rw [List.cons_append, List.cons_append, start_60]
          show one (some l) .bg _ _ = _
          rw [one_bgS, if_pos rfl]
          have := one_end (l := l) (r := mkS ls ss) l.length 0 (acc.length + 1 + 1) (Nat.zero_add _)
          rw [List.drop_zero] at this
          rw [this, List.length_cons, List.length_cons, List.length_append, List.length_singleton, ← str_len, show acc.length + 1 + 1 + l.length + 1 = acc.length + (l.length + 1 + 1 + 1) by omega]
/-- how many < at most -/
def wgt : Sg → Nat
  | .tx _ => 2
  | _ => 1
def wgS (ss : List Sg) : Nat := (ss.map wgt).sum
theorem wgS_cons {s : Sg} {ss : List Sg} : wgS (s :: ss) = wgt s + wgS ss := rfl
theorem wgS_app {a b : List Sg} : wgS (a ++ b) = wgS a + wgS b := by
  unfold wgS
  rw [List.map_append, List.sum_append]
theorem mk_len : ∀ {ss : List Sg} {ls : List Str}, (∀ s ∈ ss, SgL s) → (∀ l ∈ ls, LLb l) → (mkS ls ss).length ≤ 20 * ss.length ∧ (∀ c ∈ mkS ls ss, c < 128) ∧ (mkS ls ss).count 60 ≤ wgS ss
  | [], _, _, _ => ⟨Nat.zero_le _, (fun _ m => nomatch m), Nat.zero_le _⟩
  | .tx z :: ss, ls, h, hl => by
    obtain ⟨h1, h2⟩ := h (.tx z) List.mem_cons_self
    obtain ⟨a1, a2, a3⟩ := mk_len (ls := ls) (fun s m => h s (List.mem_cons_of_mem _ m)) hl
    have e : mkS ls (.tx z :: ss) = (34 :: esc z.cps.toList ++ [34]) ++ mkS ls ss := rfl
    have el := esc_len z.cps.toList
    have h3 := h1.1
    rw [str_len] at h3
    have ec : ∀ l : List Nat, (esc l).count 60 = l.count 60 := fun l => by
      induction l with
      | nil => rfl
      | cons c l ih =>
        show ((if c = 92 ∨ c = 34 then [92, c] else [c]) ++ esc l).count 60 = _
        rw [List.count_append, ih, List.count_cons]
        split
        · rename_i h
          rw [List.count_cons, List.count_singleton]
          rw [if_neg (show ¬ ((92 : Nat) == 60) = true by decide)]
          omega
        · rw [List.count_singleton]
          omega
    have em : ∀ l : List Nat, (∀ c ∈ l, c < 128) → ∀ c ∈ esc l, c < 128 := fun l hl c m => by
      obtain ⟨d, md, m⟩ := List.mem_flatMap.mp m
      have := hl d md
      split at m
      · simp only [List.mem_cons, List.not_mem_nil, or_false] at m
        omega
      · rw [List.mem_singleton.mp m]
        exact this
    rw [e]
    refine ⟨?_, fun c m => ?_, ?_⟩
    · rw [List.length_append, List.length_append, List.length_cons, List.length_singleton, List.length_cons]
      omega
    · rcases List.mem_append.mp m with m | m
      · rw [List.cons_append] at m
        rcases List.mem_cons.mp m with rfl | m
        · decide
        rcases List.mem_append.mp m with m | m
        · exact em _ (fun c mc => (by decide +kernel : ∀ c ∈ CHR.cps.toList, c < 128) c (h1.2 c mc)) c m
        · rw [List.mem_singleton.mp m]
          decide
      · exact a2 c m
    · rw [List.count_append, wgS_cons]
      have : (34 :: esc z.cps.toList ++ [34]).count 60 = lts z := by
        rw [List.cons_append, List.count_cons_of_ne (by decide), List.count_append, ec]
        rfl
      show _ ≤ 2 + wgS ss
      omega
  | .op l :: ss, ls, h, hl => by
    have h1 : LLb l := h (.op l) List.mem_cons_self
    obtain ⟨a1, a2, a3⟩ := mk_len (ls := l :: ls) (fun s m => h s (List.mem_cons_of_mem _ m)) (fun y m => by
      rcases List.mem_cons.mp m with rfl | m
      · exact h1
      · exact hl y m)
    have e : mkS ls (.op l :: ss) = 60 :: (l.cps.toList ++ 62 :: mkS (l :: ls) ss) := rfl
    have h2 : l.cps.toList.length ≤ 12 ∧ (∀ c ∈ l.cps.toList, c < 128) ∧ l.cps.toList.count 60 = 0 := by
      rcases h1 with rfl | rfl | rfl | rfl <;> decide +kernel
    rw [e]
    refine ⟨?_, fun c m => ?_, ?_⟩
    · rw [List.length_cons, List.length_append, List.length_cons, List.length_cons]
      omega
    · rcases List.mem_cons.mp m with rfl | m
      · decide
      rcases List.mem_append.mp m with m | m
      · exact h2.2.1 c m
      rcases List.mem_cons.mp m with rfl | m
      · decide
      · exact a2 c m
    · rw [List.count_cons_self, List.count_append, List.count_cons_of_ne (by decide), wgS_cons]
      show _ ≤ 1 + wgS ss
      omega
  | .cl :: ss, [], h, hl => by
    obtain ⟨a1, a2, a3⟩ := mk_len (ss := ss) (ls := []) (fun s m => h s (List.mem_cons_of_mem _ m)) hl
    have e : mkS [] (.cl :: ss) = mkS [] ss := rfl
    rw [e, List.length_cons, wgS_cons]
    exact ⟨by omega, a2, Nat.le_trans a3 (Nat.le_add_left _ _)⟩
  | .cl :: ss, l :: ls, h, hl => by
    have h1 : LLb l := hl l List.mem_cons_self
    obtain ⟨a1, a2, a3⟩ := mk_len (ls := ls) (fun s m => h s (List.mem_cons_of_mem _ m)) (fun y m => hl y (List.mem_cons_of_mem _ m))
    have e : mkS (l :: ls) (.cl :: ss) = 60 :: 47 :: (l.cps.toList ++ 62 :: mkS ls ss) := rfl
    have h2 : l.cps.toList.length ≤ 12 ∧ (∀ c ∈ l.cps.toList, c < 128) ∧ l.cps.toList.count 60 = 0 := by
      rcases h1 with rfl | rfl | rfl | rfl <;> decide +kernel
    rw [e]
    refine ⟨?_, fun c m => ?_, ?_⟩
    · rw [List.length_cons, List.length_cons, List.length_append, List.length_cons, List.length_cons]
      omega
    · rcases List.mem_cons.mp m with rfl | m
      · decide
      rcases List.mem_cons.mp m with rfl | m
      · decide
      rcases List.mem_append.mp m with m | m
      · exact h2.2.1 c m
      rcases List.mem_cons.mp m with rfl | m
      · decide
      · exact a2 c m
    · rw [List.count_cons_self, List.count_cons_of_ne (by decide), List.count_append, List.count_cons_of_ne (by decide), wgS_cons]
      show _ ≤ 1 + wgS ss
      omega
theorem sum_sigs : ∀ d : Doc, wgS (sigs d) = 2 * cntD d
  | .nil => rfl
  | .tx z r => by
    have := sum_sigs r
    show 2 + wgS (sigs r) = 2 * (1 + cntD r)
    rw [this]
    omega
  | .el l c r => by
    have h1 := sum_sigs c
    have h2 := sum_sigs r
    show 1 + wgS (sigs c ++ .cl :: sigs r) = 2 * (1 + cntD c + cntD r)
    rw [wgS_app, h1, wgS_cons, h2]
    show 1 + (_ + (1 + _)) = _
    omega
end
end Lw
set_option Elab.async false
set_option linter.all false
set_option maxRecDepth 100000
set_option maxHeartbeats 1000000
set_option pp.deepTerms true
set_option pp.maxSteps 200000
namespace Lw
open PySem PySem.Spec PyProof PyProof.Rows L2 So Da Dl
local macro_rules | `(tactic| walk_at "z") => `(tactic| repeat (first | refine ⟨(by decide), ?_⟩ | refine ⟨(by omega), ?_⟩ | refine ⟨rfl, ?_⟩))
section
variable {Z : Zw}
theorem fil_sg {p : Sg → Bool} {gs : List Sg} : (gs.map sgD).filter (fun d => p (sgOf d)) = (gs.filter p).map sgD := by
  induction gs with
  | nil => rfl
  | cons g gs ih =>
    rw [List.map_cons, List.filter_cons, List.filter_cons, (sgOf_D g).1, ih]
    split <;> rfl
/-- what read_markup is to tell -/
def dueD (ss : List Sg) (w : Nat) : PyData := .tuple [.str "told", .tuple [.tuple (ss.map sgD), .int (w : Nat)]]
/-- an error of texts at a place -/
def errD (p : Int) : PyData := .tuple [.str "text", .str (repD (.int p)), .bool true]
theorem so_told : PyData.strOk "told" = true := by decide +kernel
theorem so_text : PyData.strOk "text" = true := by decide +kernel
theorem due_ok {z : Str} {ss : List Sg} {w : Nat} {bad : Option Nat} {ls : List Str} (I : RdOk z ss w bad ls) (hz : z.length ≤ 60000) : SeqAt.shaped (dueD ss w) = true ∧ (dueD ss w).canLay0 = true := by
  have h : OkN 4 (dueD ss w) := okn_T (n := 3) (all_c (p := OkN 3) (OkN.mono (okn_str (by decide) so_told) (by decide)) (all_1 (okn_T (n := 2) (all_c (p := OkN 2) (I.okL hz).2 (all_1 (OkN.mono okn_int (by decide)))) (by show 2 ≤ 100000; decide)))) (by show 2 ≤ 100000; decide)
  exact ⟨(h.ok (by decide)).sh, h.lay⟩
theorem err_ok {p : Int} : SeqAt.shaped (errD p) = true ∧ (errD p).canLay0 = true := by
  have h : ∀ d ∈ [PyData.str "text", .str (repD (.int p)), .bool true], d.canLay0 = true ∧ flatD d = true := all_c (p := fun d => d.canLay0 = true ∧ flatD d = true) ⟨so_text, rfl⟩ (all_c (p := fun d => d.canLay0 = true ∧ flatD d = true) ⟨so_rep (D := .int p) rfl, rfl⟩ (all_1 ⟨rfl, rfl⟩))
  exact ⟨sh_flat h, lay_tup fun d m => (h d m).1⟩
theorem rep_pos {p : Nat} (h : p ≤ 60000) : repOk (.int (p : Nat)) := rep_int (by
  have : p < 2 ^ 64 := Nat.lt_of_le_of_lt h (by decide)
  simpa using this)
theorem ne_false {D : PyData} {P Q : Prop} (h : D.canLay0 = true) (q : Q) : if (!PyData.eqv D D) = true then P else Q := by
  rw [eqv_l h]
  exact q
theorem bhq_bad {X : Addr} {Q : List Sg → Nat → List Str → Prop} {er : EK} {ss : List Sg} {w p : Nat} {ls : List Str} (h : er (X, .int (p : Nat))) : BhQ X Q er (ss, w, some p, ls) := h
theorem bhq_got {X : Addr} {Q : List Sg → Nat → List Str → Prop} {er : EK} {ss : List Sg} {w : Nat} {ls : List Str} (h : Q ss w ls) : BhQ X Q er (ss, w, none, ls) := h
theorem it_p {c P Q : Prop} [Decidable c] (h : c) (p : P) : if c then P else Q := by rw [if_pos h]; exact p
theorem it_n {c P Q : Prop} [Decidable c] (h : ¬ c) (p : Q) : if c then P else Q := by rw [if_neg h]; exact p
abbrev T_law_text_right : TD := T1 fun D Q _ => ∃ z : Str, D = .str z ∧ z.length ≤ 30000 ∧ asc1 z ∧ lts z ≤ 245 ∧ Q (.bool true)
abbrev s_law_text_right : Stmt := top 51
theorem sc_law_text_right : FnScope ["text", "signs", "whole", "bad", "due", "opens", "closes", "told", "sign"] ["text"] (defScope s_law_text_right) := ⟨rfl, rfl, rfl, by decide +kernel, rfl, by decide +kernel, by decide +kernel⟩
local macro_rules | `(tactic| walk_at "d") => `(tactic| simp only [↓dSeq, ↓dFor, ↓reprD, ↓dCallK, ↓dIfS, ↓dAndV, ↓dOrV, ↓dUn, ↓dOp, ↓dC, ↓dVar, ↓derefW, ↓deref, ↓known, ↓noOb, ↓nbO, ↓start0, ↓endsOf, ↓outA, ↓toB, ↓dAnd, ↓dOr, ↓dNot, ↓ofB, ↓dIf, ↓dChain, ↓dgName, ↓dgSeq, ↓dgCons, ↓dgNil, ↓dLc, ↓popW, ↓atOl, ↓isOl, ↓ownS, ↓frzD, ↓dCall, argsOf, argLc, obSlots, upS, upO, ↓noObs, ↓wipeD, List.map_cons, List.map_nil, List.length_cons, List.length_nil, Nat.sub_self, Nat.zero_add, Nat.reduceAdd, Nat.reduceSub, List.replicate, List.append_nil, List.cons_append, List.nil_append, List.getElem?_cons_zero, List.getElem?_cons_succ, List.getElem?_nil, List.set, List.head?, List.tail, Option.getD_some, Option.getD_none, List.nodup_nil, List.nodup_cons, List.not_mem_nil, List.mem_cons, List.mem_singleton, or_false, Nat.reduceEqDiff, true_and, and_true, Bool.not_true, Bool.not_false, if_true, Bool.false_eq_true, if_false, ite_true, ite_false, not_false_eq_true, reduceCtorEq, eqD_int, eqD_str, eqD_bl, eqD_tuple, eqD_list, eqD_tupleR, eqD_listR, eqD_non, neD_int, neD_str, neD_bl, neD_tuple, neD_list, neD_tupleR, neD_listR, neD_non, ↓isD, ↓notD, ix_0, ix_1, ix_2, ix_3, ix_4, ix_L0, ix_L1, ix_L2, itemsD_L, itemsD_T, tupleD_L, tupleD_T, listD_L, listD_T, lenD_L, lenD_T, lenD_S, slD_L, slD_T, addD_I, addD_S, addD_T, addD_L, subD_I, mulD_I, ltD_I, ltD_S, leD_I, gtD_I, geD_I, modD_I, fdivD_I, powD_I, intD_I, intD_B, negD_I, isND_N, isND_I, isND_S, isND_B, isND_T, isND_L, sq_T, sq_L, sq_N, sq_I, sq_S, sq_B, at_0, at_1, at_2, at_3, at_4, ↓isiD, pick, List.filterMap_cons_some, List.filterMap_nil, List.filterMap_cons, ↓ownC, ↓T1, ↓T2, ↓T3, ↓T4, ↓dHeard, ↓capsD, ↓slotsD, ↓lamW, lamSto, cpLc, ↓dHeardS, ↓dAsks, ↓asksW, ↓heardT, ↓Tbox, ↓Ttake, dForN, forNW, fnW, slSD, repD2, ↓intW, ix_ma0, ix_ma1, ix_ma2, ix_ma3, ix_inn0, ix_inn1, ix_inn2, ix_inn3, ix_top0, ix_top1, ix_top2, ix_top3, ix_top4, ↓T_law_pick, ↓T_law_text, ↓T_law_document, ↓T_read_sign])
theorem ok_law_text_right {f c Pl : Addr} {fd : FuncData} (F : DfC Z.K Z.mg "_law_text_right" s_law_text_right ["text"] f fd c) (T : Tz Z.K Z.mg) (hst : ∀ s, Z.T.st s = none)
    (TB : LamX.TabB Z.base Z.mg c Pl) (hm : (Pl, fun _ _ => ("_law_text_right" : Str) ++ ".<locals>." ++ "<lambda>") ∈ Z.T.L) (hu : ∀ p ∈ Z.T.L, p.1 = Pl → p.2 = fun _ _ => ("_law_text_right" : Str) ++ ".<locals>." ++ "<lambda>") (hP : Pl ≠ Z.T.P) {C_BadForm : Addr} {C_BadStream : Addr} {C_BadText : Addr}
    {f_law_read : Addr} {fd_law_read : FuncData} (D_law_read : Df Z.K Z.mg "_law_read" s_law_read ["text"] f_law_read fd_law_read) (G_law_read : FnD Z.Pg Z.w Z.K Z.mg Z.base CX0 125 f_law_read fd_law_read ["text"] (spT Z (T_law_read)))
    {f_law_heard : Addr} {fd_law_heard : FuncData} (D_law_heard : Df Z.K Z.mg "_law_heard" s_law_heard ["ask"] f_law_heard fd_law_heard) (G_law_heard : FnD Z.Pg Z.w Z.K Z.mg Z.base CX0 125 f_law_heard fd_law_heard ["ask"] (spT Z (heardT 62 (TH_heard C_BadForm C_BadStream C_BadText))))
    {f_read_markup : Addr} {fd_read_markup : FuncData} (D_read_markup : Df Z.K Z.mg "read_markup" s_read_markup ["text"] f_read_markup fd_read_markup) (G_read_markup : FnD Z.Pg Z.w Z.K Z.mg Z.base (L2.CX Z.Pg Z.w) 59 f_read_markup fd_read_markup ["text"] (spT Z (T_read_markup C_BadText)))
    {f_from_text : Addr} {fd_from_text : FuncData} (D_from_text : Df Z.K Z.mg "from_text" s_from_text ["text"] f_from_text fd_from_text) (G_from_text : FnD Z.Pg Z.w Z.K Z.mg Z.base (L2.CX Z.Pg Z.w) 59 f_from_text fd_from_text ["text"] (spT Z (T_from_text C_BadText)))
    {f_law_signs : Addr} {fd_law_signs : FuncData} (D_law_signs : Df Z.K Z.mg "_law_signs" s_law_signs ["document"] f_law_signs fd_law_signs) (G_law_signs : FnD Z.Pg Z.w Z.K Z.mg Z.base CX0 125 f_law_signs fd_law_signs ["document"] (spT Z (T_law_signs 125))) : FnD Z.Pg Z.w Z.K Z.mg Z.base CX0 126 f fd ["text"] (spT Z (T_law_text_right)) := by
  refine okDC F sc_law_text_right (fun as Q er h => ?_) (fun A outer s H E G0 ca hr hgd hca => (dss_cons (ds_asg (de_call G_law_read hr hgd (by rfl) D_law_read.g D_law_read.F.kp D_law_read.b (drs_cons (dr_var 0) drs_nil)) (dg_seq (m := 3) rfl (dgs_cons (dg_name (i := 1) sc_law_text_right.nd rfl (Or.inl rfl)) (dgs_cons (dg_name (i := 2) sc_law_text_right.nd rfl (Or.inl rfl)) (dgs_cons (dg_name (i := 3) sc_law_text_right.nd rfl (Or.inl rfl)) dgs_nil)))))
      (dss_cons (ds_set (i := 4) sc_law_text_right.nd rfl (Or.inl rfl) (de_if (dt_cmp op_isN od_is (dr_var 3) (dr_of de_non) (nomark _)) (de_tup (da_cons de_str (da_cons (de_tup (da_cons (de_callTy call_tupleF cd_tuple (by rfl) T.tuple (by decide +kernel) (dr_var 1)) (da_cons (de_var 2) da_nil))) da_nil))) (de_tup (da_cons de_str (da_cons (de_callB (call_reprA hgd hr.units) cd_repr (by rfl) T.repr (by decide +kernel) (dr_var 3)) (da_cons de_bl da_nil))))))
      (dss_cons (ds_if (dt_cmp (op_neA hr.units) od_ne (dr_of (de_heardL (ja := [0]) sc_law_text_right.nd hca (cj_cons ⟨_, rfl, rfl, rfl⟩ cj_nil) (LamIs.mk (k := 61) (N := ["text"]) (ps := []) (fr := ["text"]) (js := [0]) (NdefX.nscope_by (by decide +kernel)) (free_by (sc := defScope s_law_text_right) rfl (by decide +kernel)) (by decide) rfl (fun _ _ _ _ _ us hl => match us, hl with | [], _ => rfl) (fun _ _ _ _ _ _ _ _ _ hEL hrL hgL => (de_callX hEL (passes_call (takes_of rfl rfl rfl rfl) fun _ _ _ _ h => h) (G_read_markup.mono (by decide)) hrL hgL (by rfl) D_read_markup.g D_read_markup.F.kp D_read_markup.b (drs_cons (dr_var 0) drs_nil)))) (by decide) (by decide) hst TB hm hu hP G_law_heard hr hgd (by rfl) D_law_heard.g D_law_heard.F.kp D_law_heard.b)) (dr_var 4) (nomark _))
        (dss_one (ds_ret de_bl))
        dss_nil)
      (dss_cons (ds_if (dt_cmp (op_neA hr.units) od_ne (dr_of (de_heardL (ja := [0]) sc_law_text_right.nd hca (cj_cons ⟨_, rfl, rfl, rfl⟩ cj_nil) (LamIs.mk (k := 61) (N := ["text"]) (ps := []) (fr := ["text"]) (js := [0]) (NdefX.nscope_by (by decide +kernel)) (free_by (sc := defScope s_law_text_right) rfl (by decide +kernel)) (by decide) rfl (fun _ _ _ _ _ us hl => match us, hl with | [], _ => rfl) (fun _ _ _ _ _ _ _ _ _ hEL hrL hgL => (de_callKX hEL (passes_call (takes_of rfl rfl rfl rfl) fun _ _ _ _ h => h) (is := [0]) (G_read_markup.mono (by decide)) hrL hgL (by rfl) D_read_markup.g D_read_markup.F.kp (kbPick [0] D_read_markup.F (by decide) (fun _ _ _ _ _ _ ws hl => match ws, hl with | _ :: _, _ => rfl | [], hl => nomatch (show (0 : Nat) = 1 from hl))) (fun _ => rfl) (dks_cons (dr_var 0) dks_nil)))) (by decide) (by decide) hst TB hm hu hP G_law_heard hr hgd (by rfl) D_law_heard.g D_law_heard.F.kp D_law_heard.b)) (dr_var 4) (nomark _))
        (dss_one (ds_ret de_bl))
        dss_nil)
      (dss_cons (ds_par (by decide) (ps_par (i := 5) (j := 6) rfl sc_law_text_right.nd rfl rfl (by decide) rfl rfl (pa_cons (de_callB call_lenA cd_len (by rfl) T.len (by decide +kernel) (dr_of (de_of_df (df_lc (own := [("sign", 8)]) rfl sc_law_text_right.nd (di_seq (de_var 1)) (blkOk_by (own := [("sign", 8)]) (N := ["text", "signs", "whole", "bad", "due", "opens", "closes", "told", "sign"]) (sc := defScope s_law_text_right) (by decide +kernel)) (fun _ _ _ _ _ => (dg_name (i := 8) sc_law_text_right.nd rfl (Or.inl rfl))) (fun _ _ _ _ _ => (dts_one (dt_cmp (op_eqA hr.units) od_eq (dr_of (de_ix (dr_var 8) (dr_of de_int))) (dr_of de_str) (nomark _)))) (fun _ _ _ _ _ => (de_var 8)))))) (pa_cons (de_callB call_lenA cd_len (by rfl) T.len (by decide +kernel) (dr_of (de_of_df (df_lc (own := [("sign", 8)]) rfl sc_law_text_right.nd (di_seq (de_var 1)) (blkOk_by (own := [("sign", 8)]) (N := ["text", "signs", "whole", "bad", "due", "opens", "closes", "told", "sign"]) (sc := defScope s_law_text_right) (by decide +kernel)) (fun _ _ _ _ _ => (dg_name (i := 8) sc_law_text_right.nd rfl (Or.inl rfl))) (fun _ _ _ _ _ => (dts_one (dt_cmp (op_eqA hr.units) od_eq (dr_of (de_ix (dr_var 8) (dr_of de_int))) (dr_of de_str) (nomark _)))) (fun _ _ _ _ _ => (de_var 8)))))) pa_nil)) (by rfl)))
      (dss_cons (ds_set (i := 7) sc_law_text_right.nd rfl (Or.inl rfl) (de_heardL (ja := [0]) sc_law_text_right.nd hca (cj_cons ⟨_, rfl, rfl, rfl⟩ cj_nil) (LamIs.mk (k := 61) (N := ["text"]) (ps := []) (fr := ["text"]) (js := [0]) (NdefX.nscope_by (by decide +kernel)) (free_by (sc := defScope s_law_text_right) rfl (by decide +kernel)) (by decide) rfl (fun _ _ _ _ _ us hl => match us, hl with | [], _ => rfl) (fun _ _ _ _ _ _ _ _ _ hEL hrL hgL => (de_callX hEL (passes_call (takes_of rfl rfl rfl rfl) fun _ _ _ _ h => h) (G_from_text.mono (by decide)) hrL hgL (by rfl) D_from_text.g D_from_text.F.kp D_from_text.b (drs_cons (dr_var 0) drs_nil)))) (by decide) (by decide) hst TB hm hu hP G_law_heard hr hgd (by rfl) D_law_heard.g D_law_heard.F.kp D_law_heard.b))
      (dss_cons (ds_if (dt_cmp op_notN od_isnot (dr_var 3) (dr_of de_non) (nomark _))
        (dss_one (ds_ret (de_cmp (op_eqA hr.units) od_eq (dr_var 7) (dr_var 4) (nomark _))))
        dss_nil)
      (dss_cons (ds_if (DW.dt (dw_or (dt_cmp op_ltA od_lt (dr_var 2) (dr_of (de_callB call_lenA cd_len (by rfl) T.len (by decide +kernel) (dr_var 0))) (nomark _)) (dw_or1 (dt_cmp op_gt od_gt (dr_var 5) (dr_var 6) (nomark _)))))
        (dss_one (ds_ret (de_cmp (op_eqA hr.units) od_eq (dr_var 7) (dr_of (de_tup (da_cons de_str (da_cons (de_callB (call_reprA hgd hr.units) cd_repr (by rfl) T.repr (by decide +kernel) (dr_of (de_callB call_lenA cd_len (by rfl) T.len (by decide +kernel) (dr_var 0)))) (da_cons de_bl da_nil))))) (nomark _))))
        dss_nil)
      (dss_one (ds_ret (de_and (de_cmp (op_eqA hr.units) od_eq (dr_of (de_ix (dr_var 7) (dr_of de_int))) (dr_of de_str) (nomark _)) (de_and (de_cmp (op_eqA hr.units) od_eq (dr_of (de_call G_law_signs hr hgd (by rfl) D_law_signs.g D_law_signs.F.kp D_law_signs.b (drs_cons (dr_of (de_ix (dr_var 7) (dr_of de_int))) drs_nil))) (dr_of (de_callTy call_tupleF cd_tuple (by rfl) T.tuple (by decide +kernel) (dr_var 1))) (nomark _)) (de_one (de_cmp (op_eqW (Nat.lt_of_le_of_lt (Nat.add_le_add_left (show 300 ≤ 2200 by decide) _) hr.un)) od_eqW (dr_of (de_callKX errL_no passes_no (is := [0]) (G_from_text.mono (by decide)) hr hgd (by rfl) D_from_text.g D_from_text.F.kp (kbPick [0] D_from_text.F (by decide) (fun _ _ _ _ _ _ ws hl => match ws, hl with | _ :: _, _ => rfl | [], hl => nomatch (show (0 : Nat) = 1 from hl))) (fun _ => rfl) (dks_cons (dr_var 0) dks_nil))) (dr_of (de_ix (dr_var 7) (dr_of de_int))) (nomark _)))))))))))))))) (fun ca as Q er h => ?_)
  · obtain ⟨_, rfl, _⟩ := t1_inv h
    rfl
  · obtain ⟨a, rfl, q⟩ := t1_inv h
    obtain ⟨z, rfl, hz, ha, ht, q⟩ := q
    obtain ⟨ss, w, bad, ls, er⟩ : ∃ ss w bad ls, rdA z = (ss, w, bad, ls) := ⟨_, _, _, _, rfl⟩
    have I := rd_ok ha (by omega) er
    have sl : ss.length ≤ 30000 := Nat.le_trans I.len hz
    have zs : z.length ≤ sizeLine := Nat.le_trans hz (by decide)
    have b2 : 2 ≤ sizeLine := by decide
    have b3 : 3 ≤ sizeLine := by decide
    have so : SeqAt.shaped (.str "told") = true := by decide +kernel
    walk_at "d"
    refine ⟨z, rfl, by omega, ?_⟩
    rw [er]
    dsimp only
    have so1 : ∀ d ∈ [PyData.str "open", .str "close", .str "text"], True := fun _ _ => trivial
    have dn1 : decide (("open" : Str) = "open") = true := by decide +kernel
    have dn2 : decide (("close" : Str) = "open") = false := by decide +kernel
    have dn3 : decide (("text" : Str) = "open") = false := by decide +kernel
    have dn4 : decide (("open" : Str) = "close") = false := by decide +kernel
    have dn5 : decide (("close" : Str) = "close") = true := by decide +kernel
    have dn6 : decide (("text" : Str) = "close") = false := by decide +kernel
    cases bad with
    | some p =>
      have hp : repOk (.int (p : Nat)) := rep_pos (by have := I.bd p rfl; omega)
      have E := err_ok (p := (p : Nat))
      rw [if_neg (show ¬ isND (badD (some p)) = true from Bool.false_ne_true)]
      refine ⟨hp, b3, .inr ⟨z, rfl, by omega, ?_⟩⟩
      rw [er]
      refine bhq_bad (th_tx hp ?_)
      refine ⟨E.1, E.1, ne_false E.2 (.inr ⟨z, rfl, by omega, ?_⟩)⟩
      rw [er]
      refine bhq_bad (th_tx hp ?_)
      refine ⟨E.1, E.1, ne_false E.2 ?_⟩
      refine lcW_sel (fun d => isOp (sgOf d)) (fun d => d) (by rw [List.length_map]; show 0 + _ ≤ _; omega) (fun d m P R h1 h2 => ?_) ?_
      · obtain ⟨s, _, rfl⟩ := List.mem_map.mp m
        rw [(sgOf_D s).1] at h1 h2
        cases s
        · simp only [sgD] at h1 h2 ⊢
          walk_at "d"
          rw [if_pos (decide_eq_true trivial)]
          exact h1 rfl
        · simp only [sgD] at h1 h2 ⊢
          walk_at "d"
          rw [if_neg (by rw [dn2]; decide)]
          exact h2 rfl
        · simp only [sgD] at h1 h2 ⊢
          walk_at "d"
          rw [if_neg (by rw [dn3]; decide)]
          exact h2 rfl
      rw [List.nil_append, List.map_id', fil_sg]
      refine lcW_sel (fun d => isCs (sgOf d)) (fun d => d) (by rw [List.length_map]; show 0 + _ ≤ _; omega) (fun d m P R h1 h2 => ?_) ?_
      · obtain ⟨s, _, rfl⟩ := List.mem_map.mp m
        rw [(sgOf_D s).1] at h1 h2
        cases s
        · simp only [sgD] at h1 h2 ⊢
          walk_at "d"
          rw [if_neg (by rw [dn4]; decide)]
          exact h2 rfl
        · simp only [sgD] at h1 h2 ⊢
          walk_at "d"
          rw [if_pos (decide_eq_true trivial)]
          exact h1 rfl
        · simp only [sgD] at h1 h2 ⊢
          walk_at "d"
          rw [if_neg (by rw [dn6]; decide)]
          exact h2 rfl
      rw [List.nil_append, List.map_id', fil_sg]
      refine .inr ⟨z, rfl, by omega, ?_⟩
      rw [er]
      refine bhq_bad (th_tx hp ?_)
      refine it_p rfl ⟨E.1, E.1, ?_⟩
      show Q (.bool (PyData.eqv (errD p) (errD p))) _
      rw [eqv_l E.2]
      exact q
    | none =>
      have E := due_ok I (by omega)
      rw [if_pos (show isND (badD none) = true from rfl)]
      refine ⟨b2, b2, .inr ⟨z, rfl, by omega, ?_⟩⟩
      rw [er]
      refine bhq_got ?_
      rw [th_told]
      refine ⟨E.1, E.1, ne_false E.2 (.inr ⟨z, rfl, by omega, ?_⟩)⟩
      rw [er]
      refine bhq_got ?_
      rw [th_told]
      refine ⟨E.1, E.1, ne_false E.2 ?_⟩
      refine lcW_sel (fun d => isOp (sgOf d)) (fun d => d) (by rw [List.length_map]; show 0 + _ ≤ _; omega) (fun d m P R h1 h2 => ?_) ?_
      · obtain ⟨s, _, rfl⟩ := List.mem_map.mp m
        rw [(sgOf_D s).1] at h1 h2
        cases s
        · simp only [sgD] at h1 h2 ⊢
          walk_at "d"
          rw [if_pos (decide_eq_true trivial)]
          exact h1 rfl
        · simp only [sgD] at h1 h2 ⊢
          walk_at "d"
          rw [if_neg (by rw [dn2]; decide)]
          exact h2 rfl
        · simp only [sgD] at h1 h2 ⊢
          walk_at "d"
          rw [if_neg (by rw [dn3]; decide)]
          exact h2 rfl
      rw [List.nil_append, List.map_id', fil_sg]
      refine lcW_sel (fun d => isCs (sgOf d)) (fun d => d) (by rw [List.length_map]; show 0 + _ ≤ _; omega) (fun d m P R h1 h2 => ?_) ?_
      · obtain ⟨s, _, rfl⟩ := List.mem_map.mp m
        rw [(sgOf_D s).1] at h1 h2
        cases s
        · simp only [sgD] at h1 h2 ⊢
          walk_at "d"
          rw [if_neg (by rw [dn4]; decide)]
          exact h2 rfl
        · simp only [sgD] at h1 h2 ⊢
          walk_at "d"
          rw [if_pos (decide_eq_true trivial)]
          exact h1 rfl
        · simp only [sgD] at h1 h2 ⊢
          walk_at "d"
          rw [if_neg (by rw [dn6]; decide)]
          exact h2 rfl
      rw [List.nil_append, List.map_id', fil_sg]
      have E2 := err_ok (p := (z.length : Nat))
      have hzl : repOk (.int (z.length : Nat)) := rep_pos (by omega)
      have fin : Q (.bool (PyData.eqv (errD (z.length : Nat)) (errD (z.length : Nat)))) [.sh (.str z)] := by
        rw [eqv_l E2.2]
        exact q
      have cn := lv_cnt I.lv
      rw [List.length_map, List.length_map]
      refine .inr ⟨z, rfl, by omega, ?_⟩
      rw [er]
      by_cases hw : w < z.length ∨ ls ≠ []
      · refine bhq_got (.inl ⟨hw, th_tx hzl ?_⟩)
        refine it_n (by decide) ⟨zs, ?_⟩
        by_cases h2 : w < z.length
        · exact it_p (decide_eq_true (by omega)) ⟨zs, hzl, b3, E2.1, E2.1, fin⟩
        · have := List.length_pos_iff.mpr (hw.resolve_left h2)
          exact it_n (fun h => h2 (by have := of_decide_eq_true h; omega)) (it_p (decide_eq_true (by omega)) ⟨zs, hzl, b3, E2.1, E2.1, fin⟩)
      · obtain rfl : w = z.length := by have := I.wle; omega
        obtain rfl : ls = [] := Classical.byContradiction fun h => hw (.inr h)
        obtain ⟨d, rfl, hd⟩ := I.doc
        have D := doc_ok I.ok
        have T := I.okL (by omega)
        have T4 := T.2.ok (by decide)
        refine bhq_got (.inr ⟨rfl, rfl, d, rfl, ?_⟩)
        rw [th_told]
        rw [List.length_nil] at cn
        refine it_n (by decide) ⟨zs, it_n (fun h => by have := of_decide_eq_true h; omega) (it_n (fun h => by have := of_decide_eq_true h; omega) ?_)⟩
        walk_at "d"
        rw [if_pos (by decide)]
        refine ⟨d, rfl, by omega, by omega, T4.sh, T4.sh, ?_⟩
        rw [eqv_l T.2.lay]
        refine it_p rfl (.inr ⟨z, rfl, by omega, ?_⟩)
        rw [er]
        refine bhq_got (.inr ⟨rfl, rfl, d, rfl, ?_⟩)
        refine ⟨D.1, D.1, by omega, ?_⟩
        rw [eqv_l D.1]
        exact q
end
end Lw
set_option Elab.async false
set_option linter.all false
set_option maxRecDepth 100000
set_option maxHeartbeats 1000000
set_option pp.deepTerms true
set_option pp.maxSteps 200000
namespace Lw
open PySem PySem.Spec PyProof PyProof.Rows L2 So Da Dl
local macro_rules | `(tactic| walk_at "z") => `(tactic| repeat (first | refine ⟨(by decide), ?_⟩ | refine ⟨(by omega), ?_⟩ | refine ⟨rfl, ?_⟩))
section
variable {Z : Zw}
theorem gl_strW {W : Nat} {z : Str} (l : z.length ≤ W) (h : PyData.strOk z = true) : GL 0 W (.str z) := by
  refine ⟨⟨rfl, rfl, Nat.le_refl _, ?_, ?_⟩, h⟩
  · exact PyData.leavesShort_of_canLay0 13 _ h rfl
  · simp only [PyData.weight]
    exact l
theorem ne_repl {x : PyData} : ¬ (!decide (repD (.list [x, x, x]) = repD (.list (List.replicate (Int.toNat 3) x)))) = true := by
  rw [decide_eq_true (show repD (.list [x, x, x]) = repD (.list (List.replicate (Int.toNat 3) x)) from rfl)]
  decide
theorem ne_rep2 {x : PyData} : ¬ (!decide (repD (.list [x, x]) = repD (.list (List.replicate (Int.toNat 2) x)))) = true := by
  rw [decide_eq_true (show repD (.list [x, x]) = repD (.list (List.replicate (Int.toNat 2) x)) from rfl)]
  decide
theorem sub_asc {z : Str} {l : List Nat} (h : asc1 z) (s : l.Sublist z.cps.toList) : asc1 (S l) := fun c m => h c (s.subset m)
theorem cut_pre {z : Str} {r : Int} (hz : z.length ≤ 4800) (ha : asc1 z) (ht : lts z ≤ 240) : (cutS z none (some r)).length ≤ 4800 ∧ asc1 (cutS z none (some r)) ∧ lts (cutS z none (some r)) ≤ 240 := by
  obtain ⟨a, b, e⟩ : ∃ a b, cutS z none (some r) = S ((z.cps.toList.drop a).take b) := ⟨_, _, rfl⟩
  have s : ((z.cps.toList.drop a).take b).Sublist z.cps.toList := (List.take_sublist _ _).trans (List.drop_sublist _ _)
  rw [e]
  refine ⟨?_, sub_asc ha s, ?_⟩
  · have := s.length_le
    rw [← str_len] at this
    show ((z.cps.toList.drop a).take b).length ≤ _
    omega
  · have := List.Sublist.count_le 60 s
    have ht : z.cps.toList.count 60 ≤ 240 := ht
    show ((z.cps.toList.drop a).take b).count 60 ≤ _
    omega
theorem cut_mix {z o : Str} {a : Nat} {m : Int} (hz : z.length ≤ 4800) (ha : asc1 z) (ht : lts z ≤ 240) (h0 : a ≤ z.length) (m0 : 0 ≤ m) (o1 : o.length ≤ 20) (o2 : asc1 o) (o3 : lts o ≤ 1) : (cutS z none (some (a : Int)) ++ o).length + (cutS z (some ((a : Int) + m)) none).length ≤ 30000 ∧ asc1 (cutS z none (some (a : Int)) ++ o ++ cutS z (some ((a : Int) + m)) none) ∧ lts (cutS z none (some (a : Int)) ++ o ++ cutS z (some ((a : Int) + m)) none) ≤ 245 := by
  obtain ⟨j, hj⟩ : ∃ j : Nat, (a : Int) + m = (j : Nat) ∧ a ≤ j := ⟨((a : Int) + m).toNat, by omega, by omega⟩
  have e1 : cutS z none (some (a : Int)) = S (z.cps.toList.take a) := by
    unfold cutS S
    rw [HT.sIx_nat, HT.sIx_none, Nat.min_eq_left h0]
    rfl
  have e2 : ∃ k, a ≤ k ∧ cutS z (some ((j : Nat) : Int)) none = S (z.cps.toList.drop k) ∨ (cutS z (some ((j : Nat) : Int)) none = S []) := by
    by_cases h : j ≤ z.length
    · refine ⟨j, .inl ⟨hj.2, ?_⟩⟩
      unfold cutS S
      rw [HT.sIx_nat, HT.sIx_none, Nat.min_eq_left h, List.take_of_length_le (by rw [List.length_drop, ← str_len]; exact Nat.le_refl _)]
    · refine ⟨0, .inr ?_⟩
      unfold cutS S
      rw [HT.sIx_nat, HT.sIx_none, Nat.min_eq_right (by omega), Nat.sub_self]
      rfl
  have key : ∃ l, cutS z (some ((a : Int) + m)) none = S l ∧ l.Sublist (z.cps.toList.drop a) := by
    rw [hj.1]
    obtain ⟨k, ⟨h1, h2⟩ | h2⟩ := e2
    · refine ⟨_, h2, ?_⟩
      rw [show k = a + (k - a) by omega, ← List.drop_drop]
      exact List.drop_sublist _ _
    · exact ⟨_, h2, List.nil_sublist _⟩
  obtain ⟨l, e3, sl⟩ := key
  rw [e1, e3]
  have sa : (z.cps.toList.take a).Sublist z.cps.toList := List.take_sublist _ _
  have sb : l.Sublist z.cps.toList := sl.trans (List.drop_sublist _ _)
  refine ⟨?_, fun c mc => ?_, ?_⟩
  · have h1 := sa.length_le
    have h2 := sb.length_le
    rw [← str_len] at h1 h2
    rw [len_app, S_len, S_len]
    omega
  · rw [cps_app, cps_app] at mc
    rcases List.mem_append.mp mc with mc | mc
    · rcases List.mem_append.mp mc with mc | mc
      · exact sub_asc ha sa c mc
      · exact o2 c mc
    · exact sub_asc ha sb c mc
  · have h1 := List.Sublist.count_le 60 sl
    have h2 : (z.cps.toList.take a).count 60 + (z.cps.toList.drop a).count 60 = z.cps.toList.count 60 := by rw [← List.count_append, List.take_append_drop]
    have ht : z.cps.toList.count 60 ≤ 240 := ht
    have o3 : o.cps.toList.count 60 ≤ 1 := o3
    unfold lts
    rw [cps_app, cps_app, List.count_append, List.count_append, S_cps, S_cps]
    omega
/-- what is put between -/
def oddP (z : Str) : Prop := z.length ≤ 20 ∧ (∀ c ∈ z.cps.toList, c < 128) ∧ lts z ≤ 1
instance {z : Str} : Decidable (oddP z) := inferInstanceAs (Decidable (_ ∧ _ ∧ _))
theorem odd_str {ds : List PyData} (h : (ds.all fun d => match d with | .str z => decide (oddP z) | _ => false) = true) {d : PyData} (m : d ∈ ds) : ∃ z, d = .str z ∧ oddP z := by
  have := List.all_eq_true.mp h d m
  cases d with
  | str z => exact ⟨z, rfl, of_decide_eq_true this⟩
  | _ => cases this
theorem rep_m1 : repD (.int (-1)) = "-1" := by decide +kernel
theorem rep_0 : repD (.int 0) = "0" := by decide +kernel
theorem rfS {x : Str} {d : PyData} (hx : PyData.strOk x = true) (hl : d.canLay0 = true) : SeqAt.shaped (.tuple [.str x, .str (repD d), .bool true]) = true := sh_flat fun y m => by
  simp only [List.mem_cons, List.not_mem_nil, or_false] at m
  rcases m with rfl | rfl | rfl
  · exact ⟨hx, rfl⟩
  · exact ⟨so_rep hl, rfl⟩
  · exact ⟨rfl, rfl⟩
theorem rlS {x : Str} {d : PyData} (hx : PyData.strOk x = true) (hl : d.canLay0 = true) : (PyData.tuple [.str x, .str (repD d), .bool true]).canLay0 = true := by
  have := rfS hx hl
  unfold SeqAt.shaped at this
  exact (Bool.and_eq_true_iff.mp this).1
abbrev T_law : TD := T1 fun D Q _ => ∃ ns : List Int, D = .list (ns.map .int) ∧ ns.length ≤ 1000000 ∧ Q (.bool true)
/-- what stands in a turn of the law -/
def LwJ (S : PyData) (ρ : Sto) : Prop := ρ.length = 14 ∧ ρ[0]? = some (.sh S) ∧ ∀ i : Nat, i ≠ 2 → nbO ρ[i]?
theorem lwj_of {S : PyData} {ρ : Sto} (h : LwJ S ρ) : ∃ s1 s2 s3 s4 s5 s6 s7 s8 s9 s10 s11 s12 s13, ρ = [.sh S, s1, s2, s3, s4, s5, s6, s7, s8, s9, s10, s11, s12, s13] ∧ nbO (some s1) ∧ nbO (some s3) ∧ nbO (some s4) ∧ nbO (some s5) ∧ nbO (some s6) ∧ nbO (some s7) ∧ nbO (some s8) ∧ nbO (some s9) ∧ nbO (some s10) ∧ nbO (some s11) ∧ nbO (some s12) ∧ nbO (some s13) := by
  obtain ⟨h1, h2, h3⟩ := h
  match ρ, h1 with
  | [s0, s1, s2, s3, s4, s5, s6, s7, s8, s9, s10, s11, s12, s13], _ =>
    cases h2
    exact ⟨s1, s2, s3, s4, s5, s6, s7, s8, s9, s10, s11, s12, s13, rfl, h3 1 (by decide), h3 3 (by decide), h3 4 (by decide), h3 5 (by decide), h3 6 (by decide), h3 7 (by decide), h3 8 (by decide), h3 9 (by decide), h3 10 (by decide), h3 11 (by decide), h3 12 (by decide), h3 13 (by decide)⟩
abbrev s_law : Stmt := top 52
theorem sc_law : FnScope ["script", "k", "box", "document", "stream", "text", "cut", "turn", "chance", "none", "ask", "at", "odd", "sign"] ["script"] (defScope s_law) := ⟨rfl, rfl, rfl, by decide +kernel, rfl, by decide +kernel, by decide +kernel⟩
local macro_rules | `(tactic| walk_at "d") => `(tactic| simp only [↓dSeq, ↓dFor, ↓reprD, ↓dCallK, ↓dIfS, ↓dAndV, ↓dOrV, ↓dUn, ↓dOp, ↓dC, ↓dVar, ↓derefW, ↓deref, ↓known, ↓noOb, ↓nbO, ↓start0, ↓endsOf, ↓outA, ↓toB, ↓dAnd, ↓dOr, ↓dNot, ↓ofB, ↓dIf, ↓dChain, ↓dgName, ↓dgSeq, ↓dgCons, ↓dgNil, ↓dLc, ↓popW, ↓atOl, ↓isOl, ↓ownS, ↓frzD, ↓dCall, argsOf, argLc, obSlots, upS, upO, ↓noObs, ↓wipeD, List.map_cons, List.map_nil, List.length_cons, List.length_nil, Nat.sub_self, Nat.zero_add, Nat.reduceAdd, Nat.reduceSub, List.replicate, List.append_nil, List.cons_append, List.nil_append, List.getElem?_cons_zero, List.getElem?_cons_succ, List.getElem?_nil, List.set, List.head?, List.tail, Option.getD_some, Option.getD_none, List.nodup_nil, List.nodup_cons, List.not_mem_nil, List.mem_cons, List.mem_singleton, or_false, Nat.reduceEqDiff, true_and, and_true, Bool.not_true, Bool.not_false, if_true, Bool.false_eq_true, if_false, ite_true, ite_false, not_false_eq_true, reduceCtorEq, eqD_int, eqD_str, eqD_bl, eqD_tuple, eqD_list, eqD_tupleR, eqD_listR, eqD_non, neD_int, neD_str, neD_bl, neD_tuple, neD_list, neD_tupleR, neD_listR, neD_non, ↓isD, ↓notD, ix_0, ix_1, ix_2, ix_3, ix_4, ix_L0, ix_L1, ix_L2, itemsD_L, itemsD_T, tupleD_L, tupleD_T, listD_L, listD_T, lenD_L, lenD_T, lenD_S, slD_L, slD_T, addD_I, addD_S, addD_T, addD_L, subD_I, mulD_I, ltD_I, ltD_S, leD_I, gtD_I, geD_I, modD_I, fdivD_I, powD_I, intD_I, intD_B, negD_I, isND_N, isND_I, isND_S, isND_B, isND_T, isND_L, sq_T, sq_L, sq_N, sq_I, sq_S, sq_B, at_0, at_1, at_2, at_3, at_4, ↓isiD, pick, List.filterMap_cons_some, List.filterMap_nil, List.filterMap_cons, ↓ownC, ↓T1, ↓T2, ↓T3, ↓T4, ↓dHeard, ↓capsD, ↓slotsD, ↓lamW, lamSto, cpLc, ↓dHeardS, ↓dAsks, ↓asksW, ↓heardT, ↓Tbox, ↓Ttake, dForN, forNW, fnW, slSD, repD2, ↓intW, ix_ma0, ix_ma1, ix_ma2, ix_ma3, ix_inn0, ix_inn1, ix_inn2, ix_inn3, ix_top0, ix_top1, ix_top2, ix_top3, ix_top4, ↓T_law_pick, ↓T_law_text, ↓T_law_document, ↓T_read_sign, th_told, dForL, dAskE, boxT, swapT, unOb, noDi, noDiA])
theorem ok_law {f c Pl : Addr} {fd : FuncData} (F : DfC Z.K Z.mg "law" s_law ["script"] f fd c) (T : Tz Z.K Z.mg) (hst : ∀ s, Z.T.st s = none)
    (TB : LamX.TabB Z.base Z.mg c Pl) (hm : (Pl, fun _ _ => ("law" : Str) ++ ".<locals>." ++ "<lambda>") ∈ Z.T.L) (hu : ∀ p ∈ Z.T.L, p.1 = Pl → p.2 = fun _ _ => ("law" : Str) ++ ".<locals>." ++ "<lambda>") (hP : Pl ≠ Z.T.P) {C_BadForm : Addr} {C_BadStream : Addr} {C_BadText : Addr}
    {f_law_box : Addr} {fd_law_box : FuncData} (D_law_box : Df Z.K Z.mg "_law_box" s_law_box ["script", "k"] f_law_box fd_law_box) (G_law_box : FnD Z.Pg Z.w Z.K Z.mg Z.base CX0 126 f_law_box fd_law_box ["script", "k"] (spO Z (Tbox)))
    {f_law_document : Addr} {fd_law_document : FuncData} (D_law_document : Df Z.K Z.mg "_law_document" s_law_document ["box", "depth"] f_law_document fd_law_document) (G_law_document : FnD Z.Pg Z.w Z.K Z.mg Z.base CX0 126 f_law_document fd_law_document ["box", "depth"] (spT Z (T_law_document 5)))
    {f_law_signs : Addr} {fd_law_signs : FuncData} (D_law_signs : Df Z.K Z.mg "_law_signs" s_law_signs ["document"] f_law_signs fd_law_signs) (G_law_signs : FnD Z.Pg Z.w Z.K Z.mg Z.base CX0 126 f_law_signs fd_law_signs ["document"] (spT Z (T_law_signs 125)))
    {f_law_markup : Addr} {fd_law_markup : FuncData} (D_law_markup : Df Z.K Z.mg "_law_markup" s_law_markup ["prefix"] f_law_markup fd_law_markup) (G_law_markup : FnD Z.Pg Z.w Z.K Z.mg Z.base CX0 126 f_law_markup fd_law_markup ["prefix"] (spT Z (T_law_markup)))
    {f_markup : Addr} {fd_markup : FuncData} (D_markup : Df Z.K Z.mg "markup" s_markup ["prefix"] f_markup fd_markup) (G_markup : FnD Z.Pg Z.w Z.K Z.mg Z.base (L2.CX Z.Pg Z.w) 59 f_markup fd_markup ["prefix"] (spT Z (T_markup C_BadStream)))
    {f_markup_of : Addr} {fd_markup_of : FuncData} (D_markup_of : Df Z.K Z.mg "markup_of" s_markup_of ["document"] f_markup_of fd_markup_of) (G_markup_of : FnD Z.Pg Z.w Z.K Z.mg Z.base (L2.CX Z.Pg Z.w) 59 f_markup_of fd_markup_of ["document"] (spT Z (T_markup_of C_BadForm)))
    {f_from_text : Addr} {fd_from_text : FuncData} (D_from_text : Df Z.K Z.mg "from_text" s_from_text ["text"] f_from_text fd_from_text) (G_from_text : FnD Z.Pg Z.w Z.K Z.mg Z.base (L2.CX Z.Pg Z.w) 59 f_from_text fd_from_text ["text"] (spT Z (T_from_text C_BadText)))
    {f_document_of : Addr} {fd_document_of : FuncData} (D_document_of : Df Z.K Z.mg "document_of" s_document_of ["stream"] f_document_of fd_document_of) (G_document_of : FnD Z.Pg Z.w Z.K Z.mg Z.base (L2.CX Z.Pg Z.w) 126 f_document_of fd_document_of ["stream"] (spT Z (T_document_of C_BadStream)))
    {f_read_markup : Addr} {fd_read_markup : FuncData} (D_read_markup : Df Z.K Z.mg "read_markup" s_read_markup ["text"] f_read_markup fd_read_markup) (G_read_markup : FnD Z.Pg Z.w Z.K Z.mg Z.base (L2.CX Z.Pg Z.w) 59 f_read_markup fd_read_markup ["text"] (spT Z (T_read_markup C_BadText)))
    {f_law_take : Addr} {fd_law_take : FuncData} (D_law_take : Df Z.K Z.mg "_law_take" s_law_take ["box", "many"] f_law_take fd_law_take) (G_law_take : FnD Z.Pg Z.w Z.K Z.mg Z.base CX0 126 f_law_take fd_law_take ["box", "many"] (spT Z (Ttake)))
    {f_law_text_right : Addr} {fd_law_text_right : FuncData} (D_law_text_right : Df Z.K Z.mg "_law_text_right" s_law_text_right ["text"] f_law_text_right fd_law_text_right) (G_law_text_right : FnD Z.Pg Z.w Z.K Z.mg Z.base CX0 126 f_law_text_right fd_law_text_right ["text"] (spT Z (T_law_text_right)))
    {f_law_pick : Addr} {fd_law_pick : FuncData} (D_law_pick : Df Z.K Z.mg "_law_pick" s_law_pick ["box", "some"] f_law_pick fd_law_pick) (G_law_pick : FnD Z.Pg Z.w Z.K Z.mg Z.base CX0 126 f_law_pick fd_law_pick ["box", "some"] (spT Z (T_law_pick)))
    {f_law_heard : Addr} {fd_law_heard : FuncData} (D_law_heard : Df Z.K Z.mg "_law_heard" s_law_heard ["ask"] f_law_heard fd_law_heard) (G_law_heard : FnD Z.Pg Z.w Z.K Z.mg Z.base CX0 126 f_law_heard fd_law_heard ["ask"] (spT Z (heardT 62 (TH_heard C_BadForm C_BadStream C_BadText)))) : FnD Z.Pg Z.w Z.K Z.mg Z.base CX0 127 f fd ["script"] (spT Z (T_law)) := by
  refine okDC F sc_law (fun as Q er h => ?_) (fun A outer s H E G0 ca hr hgd hca => (dss_cons (ds_for PassesOwn.never rfl (di_range (by rfl) T.range (de_max2 rfl (by rfl) T.max de_int (de_min2 rfl (by rfl) T.min (de_callB call_lenA cd_len (by rfl) T.len (by decide +kernel) (dr_var 0)) de_int))) (dg_name (i := 1) sc_law.nd rfl (Or.inl rfl))
        (dss_cons (ds_drop 2 (by decide) (ds_ownCall (i := 2) sc_law.nd rfl (Or.inr rfl) G_law_box hr hgd (by rfl) D_law_box.g D_law_box.F.kp D_law_box.b (drs_cons (dr_var 0) (drs_cons (dr_var 1) drs_nil))))
        (dss_cons (ds_set (i := 3) sc_law.nd rfl (Or.inl rfl) (de_call G_law_document hr hgd (by rfl) D_law_document.g D_law_document.F.kp D_law_document.b (drs_cons (dr_var 2) (drs_cons (dr_of de_int) drs_nil))))
        (dss_cons (ds_set (i := 4) sc_law.nd rfl (Or.inr rfl) (de_call G_law_signs hr hgd (by rfl) D_law_signs.g D_law_signs.F.kp D_law_signs.b (drs_cons (dr_var 3) drs_nil)))
        (dss_cons (ds_set (i := 5) sc_law.nd rfl (Or.inl rfl) (de_call G_law_markup hr hgd (by rfl) D_law_markup.g D_law_markup.F.kp D_law_markup.b (drs_cons (dr_var 4) drs_nil)))
        (dss_cons (ds_if (dt_cmp (op_neA hr.units) od_ne (dr_of (de_callB (call_reprA hgd hr.units) cd_repr (by rfl) T.repr (by decide +kernel) (dr_of (de_of_df (df_lst (da_cons (de_callX errL_no passes_no (G_markup.mono (by decide)) hr hgd (by rfl) D_markup.g D_markup.F.kp D_markup.b (drs_cons (dr_var 4) drs_nil)) (da_cons (de_callKX errL_no passes_no (is := [0]) (G_markup.mono (by decide)) hr hgd (by rfl) D_markup.g D_markup.F.kp (kbPick [0] D_markup.F (by decide) (fun _ _ _ _ _ _ ws hl => match ws, hl with | _ :: _, _ => rfl | [], hl => nomatch (show (0 : Nat) = 1 from hl))) (fun _ => rfl) (dks_cons (dr_of (de_of_df (df_lc (own := [("sign", 13)]) rfl sc_law.nd (di_seq (de_var 4)) (blkOk_by (own := [("sign", 13)]) (N := ["script", "k", "box", "document", "stream", "text", "cut", "turn", "chance", "none", "ask", "at", "odd", "sign"]) (sc := defScope s_law) (by decide +kernel)) (fun _ _ _ _ _ => (dg_name (i := 13) sc_law.nd rfl (Or.inl rfl))) (fun _ _ _ _ _ => dts_nil) (fun _ _ _ _ _ => (de_of_df (df_list (by rfl) T.list (dr_var 13))))))) dks_nil)) (da_cons (de_callKX errL_no passes_no (is := [0]) (G_markup_of.mono (by decide)) hr hgd (by rfl) D_markup_of.g D_markup_of.F.kp (kbPick [0] D_markup_of.F (by decide) (fun _ _ _ _ _ _ ws hl => match ws, hl with | _ :: _, _ => rfl | [], hl => nomatch (show (0 : Nat) = 1 from hl))) (fun _ => rfl) (dks_cons (dr_var 3) dks_nil)) da_nil)))))))) (dr_of (de_callB (call_reprA hgd hr.units) cd_repr (by rfl) T.repr (by decide +kernel) (dr_of (de_of_df (df_rep (de_var 5) de_int))))) (nomark _))
          (dss_one (ds_ret de_bl))
          dss_nil)
        (dss_cons (ds_if (dt_cmp (op_neA hr.units) od_ne (dr_of (de_callB (call_reprA hgd hr.units) cd_repr (by rfl) T.repr (by decide +kernel) (dr_of (de_of_df (df_lst (da_cons (de_callX errL_no passes_no (G_from_text.mono (by decide)) hr hgd (by rfl) D_from_text.g D_from_text.F.kp D_from_text.b (drs_cons (dr_var 5) drs_nil)) (da_cons (de_callX errL_no passes_no G_document_of hr hgd (by rfl) D_document_of.g D_document_of.F.kp D_document_of.b (drs_cons (dr_of (de_ix (dr_of (de_callX errL_no passes_no (G_read_markup.mono (by decide)) hr hgd (by rfl) D_read_markup.g D_read_markup.F.kp D_read_markup.b (drs_cons (dr_var 5) drs_nil))) (dr_of de_int))) drs_nil)) da_nil))))))) (dr_of (de_callB (call_reprA hgd hr.units) cd_repr (by rfl) T.repr (by decide +kernel) (dr_of (de_of_df (df_rep (de_var 3) de_int))))) (nomark _))
          (dss_one (ds_ret de_bl))
          dss_nil)
        (dss_cons (ds_set (i := 6) sc_law.nd rfl (Or.inl rfl) (de_call G_law_take hr hgd (by rfl) D_law_take.g D_law_take.F.kp D_law_take.b (drs_cons (dr_var 2) (drs_cons (dr_of (de_op op_addA od_add (dr_of (de_callB call_lenA cd_len (by rfl) T.len (by decide +kernel) (dr_var 4))) (dr_of de_int))) drs_nil))))
        (dss_cons (ds_if (DW.dt (dw_or (dt_cmp (op_neA hr.units) od_ne (dr_of (de_callX errL_no passes_no (G_markup.mono (by decide)) hr hgd (by rfl) D_markup.g D_markup.F.kp D_markup.b (drs_cons (dr_of (de_slice (dr_var 4) do_none (do_some (de_var 6)))) drs_nil))) (dr_of (de_call G_law_markup hr hgd (by rfl) D_law_markup.g D_law_markup.F.kp D_law_markup.b (drs_cons (dr_of (de_slice (dr_var 4) do_none (do_some (de_var 6)))) drs_nil))) (nomark _)) (dw_or1 (dt_not (dt_val (de_call G_law_text_right hr hgd (by rfl) D_law_text_right.g D_law_text_right.F.kp D_law_text_right.b (drs_cons (dr_of (de_sliceS (de_var 5) do_none (do_some (de_call G_law_take hr hgd (by rfl) D_law_take.g D_law_take.F.kp D_law_take.b (drs_cons (dr_var 2) (drs_cons (dr_of (de_op op_addA od_add (dr_of (de_callB call_lenA cd_len (by rfl) T.len (by decide +kernel) (dr_var 5))) (dr_of de_int))) drs_nil)))))) drs_nil)))))))
          (dss_one (ds_ret de_bl))
          dss_nil)
        (dss_cons (ds_for PassesOwn.never rfl (di_range (by rfl) T.range de_int) (dg_name (i := 7) sc_law.nd rfl (Or.inl rfl))
          (dss_cons (ds_set (i := 11) sc_law.nd rfl (Or.inl rfl) (de_call G_law_take hr hgd (by rfl) D_law_take.g D_law_take.F.kp D_law_take.b (drs_cons (dr_var 2) (drs_cons (dr_of (de_op op_addA od_add (dr_of (de_callB call_lenA cd_len (by rfl) T.len (by decide +kernel) (dr_var 5))) (dr_of de_int))) drs_nil))))
          (dss_cons (ds_set (i := 12) sc_law.nd rfl (Or.inl rfl) (de_call G_law_pick hr hgd (by rfl) D_law_pick.g D_law_pick.F.kp D_law_pick.b (drs_cons (dr_var 2) (drs_cons (dr_of (de_of_df (df_lst (da_cons de_str (da_cons de_str (da_cons de_str (da_cons de_str (da_cons de_str (da_cons de_str (da_cons de_str (da_cons de_str (da_cons de_str (da_cons de_str (da_cons de_str (da_cons de_str da_nil))))))))))))))) drs_nil))))
          (dss_one (ds_if (dt_not (dt_val (de_call G_law_text_right hr hgd (by rfl) D_law_text_right.g D_law_text_right.F.kp D_law_text_right.b (drs_cons (dr_of (de_op op_addA od_add (dr_of (de_op op_addA od_add (dr_of (de_sliceS (de_var 5) do_none (do_some (de_var 11)))) (dr_var 12))) (dr_of (de_sliceS (de_var 5) (do_some (de_op op_addA od_add (dr_var 11) (dr_of (de_call G_law_take hr hgd (by rfl) D_law_take.g D_law_take.F.kp D_law_take.b (drs_cons (dr_var 2) (drs_cons (dr_of de_int) drs_nil)))))) do_none)))) drs_nil))))
            (dss_one (ds_ret de_bl))
            dss_nil)))))
        (dss_cons (ds_set (i := 8) sc_law.nd rfl (Or.inl rfl) (de_join de_str (de_of_df (df_lc (own := [("turn", 7)]) rfl sc_law.nd (di_range (by rfl) T.range (de_call G_law_take hr hgd (by rfl) D_law_take.g D_law_take.F.kp D_law_take.b (drs_cons (dr_var 2) (drs_cons (dr_of de_int) drs_nil)))) (blkOk_by (own := [("turn", 7)]) (N := ["script", "k", "box", "document", "stream", "text", "cut", "turn", "chance", "none", "ask", "at", "odd", "sign"]) (sc := defScope s_law) (by decide +kernel)) (fun _ _ _ _ _ => (dg_name (i := 7) sc_law.nd rfl (Or.inl rfl))) (fun _ _ _ _ _ => dts_nil) (fun _ _ _ _ _ => (de_call G_law_pick hr hgd (by rfl) D_law_pick.g D_law_pick.F.kp D_law_pick.b (drs_cons (dr_var 2) (drs_cons (dr_of (de_of_df (df_lst (da_cons de_str (da_cons de_str (da_cons de_str (da_cons de_str (da_cons de_str (da_cons de_str (da_cons de_str (da_cons de_str da_nil))))))))))) drs_nil))))))))
        (dss_cons (ds_if (dt_not (dt_val (de_call G_law_text_right hr hgd (by rfl) D_law_text_right.g D_law_text_right.F.kp D_law_text_right.b (drs_cons (dr_var 8) drs_nil))))
          (dss_one (ds_ret de_bl))
          dss_nil)
        (dss_cons (ds_set (i := 9) sc_law.nd rfl (Or.inr rfl) (de_call G_law_pick hr hgd (by rfl) D_law_pick.g D_law_pick.F.kp D_law_pick.b (drs_cons (dr_var 2) (drs_cons (dr_of (de_of_df (df_lst (da_cons de_non (da_cons de_int (da_cons (de_tup (da_cons de_str da_nil)) (da_cons de_bl da_nil))))))) drs_nil))))
        (dss_cons (ds_forNT (ik := 10) PassesOwn.never rfl (dn_cons G_read_markup D_read_markup (by rfl) (dn_cons G_from_text D_from_text (by rfl) dn_nil)) (show 2 ≤ sizeLine by decide) (pg_name (i := 10) sc_law.nd rfl (Or.inr rfl) (by first | exact .inl rfl | exact .inr rfl))
          (dss_one (ds_if (dt_cmp (op_neA hr.units) od_ne (dr_of (de_heardL (ja := [2, 4, 9, 10]) sc_law.nd hca (cj_cons ⟨_, rfl, rfl, rfl⟩ (cj_cons ⟨_, rfl, rfl, rfl⟩ (cj_cons ⟨_, rfl, rfl, rfl⟩ (cj_cons ⟨_, rfl, rfl, rfl⟩ cj_nil)))) (LamIs.mk (k := 61) (N := ["ask", "none"]) (ps := []) (fr := ["ask", "none"]) (js := [10, 9]) (NdefX.nscope_by (by decide +kernel)) (free_by (sc := defScope s_law) rfl (by decide +kernel)) (by decide) rfl (fun _ _ _ _ _ us hl => match us, hl with | [], _ => rfl) (fun _ _ _ _ _ _ _ _ _ hEL hrL hgL => (de_askAL hEL (passes_call (takes_of rfl rfl rfl rfl) fun _ _ _ _ h => h) hrL hgL (rfl : 0 = 0) (da_cons (de_var 1) da_nil) (by rfl) (by first | exact Or.inl rfl | exact Or.inr (Or.inl rfl) | exact Or.inr (Or.inr rfl)) (by decide) (by decide) (by rfl) (by rfl)))) (by decide) (by decide) hst TB hm hu hP G_law_heard hr hgd (by rfl) D_law_heard.g D_law_heard.F.kp D_law_heard.b)) (dr_of (de_tup (da_cons de_str (da_cons de_str (da_cons de_bl da_nil))))) (nomark _))
            (dss_one (ds_ret de_bl))
            dss_nil)))
        (dss_cons (ds_if (dt_cmp (op_neA hr.units) od_ne (dr_of (de_heardL (ja := [2, 4, 9, 10]) sc_law.nd hca (cj_cons ⟨_, rfl, rfl, rfl⟩ (cj_cons ⟨_, rfl, rfl, rfl⟩ (cj_cons ⟨_, rfl, rfl, rfl⟩ (cj_cons ⟨_, rfl, rfl, rfl⟩ cj_nil)))) (LamIs.mk (k := 61) (N := []) (ps := []) (fr := []) (js := []) (NdefX.nscope_by (by decide +kernel)) (free_by (sc := defScope s_law) rfl (by decide +kernel)) (by decide) rfl (fun _ _ _ _ _ us hl => match us, hl with | [], _ => rfl) (fun _ _ _ _ _ _ _ _ _ hEL hrL hgL => (de_callX hEL (passes_call (takes_of rfl rfl rfl rfl) fun _ _ _ _ h => h) (G_markup_of.mono (by decide)) hrL hgL (by rfl) D_markup_of.g D_markup_of.F.kp D_markup_of.b (drs_cons (dr_of (de_of_df (df_lst (da_cons de_non da_nil)))) drs_nil)))) (by decide) (by decide) hst TB hm hu hP G_law_heard hr hgd (by rfl) D_law_heard.g D_law_heard.F.kp D_law_heard.b)) (dr_of (de_tup (da_cons de_str (da_cons de_str (da_cons de_bl da_nil))))) (nomark _))
          (dss_one (ds_ret de_bl))
          dss_nil)
        (dss_one (ds_if (dt_cmp (op_neA hr.units) od_ne (dr_of (de_heardL (ja := [2, 4, 9, 10]) sc_law.nd hca (cj_cons ⟨_, rfl, rfl, rfl⟩ (cj_cons ⟨_, rfl, rfl, rfl⟩ (cj_cons ⟨_, rfl, rfl, rfl⟩ (cj_cons ⟨_, rfl, rfl, rfl⟩ cj_nil)))) (LamIs.mk (k := 61) (N := ["stream"]) (ps := []) (fr := ["stream"]) (js := [4]) (NdefX.nscope_by (by decide +kernel)) (free_by (sc := defScope s_law) rfl (by decide +kernel)) (by decide) rfl (fun _ _ _ _ _ us hl => match us, hl with | [], _ => rfl) (fun _ _ _ _ _ _ _ _ _ hEL hrL hgL => (de_callX hEL (passes_call (takes_of rfl rfl rfl rfl) fun _ _ _ _ h => h) (G_markup.mono (by decide)) hrL hgL (by rfl) D_markup.g D_markup.F.kp D_markup.b (drs_cons (dr_of (de_op op_addA od_add (dr_var 0) (dr_of (de_tup (da_cons (de_tup (da_cons de_str da_nil)) da_nil))))) drs_nil)))) (by decide) (by decide) hst TB hm hu hP G_law_heard hr hgd (by rfl) D_law_heard.g D_law_heard.F.kp D_law_heard.b)) (dr_of (de_tup (da_cons de_str (da_cons (de_callB (call_reprA hgd hr.units) cd_repr (by rfl) T.repr (by decide +kernel) (dr_of (de_callB call_lenA cd_len (by rfl) T.len (by decide +kernel) (dr_var 4)))) (da_cons de_bl da_nil))))) (nomark _))
          (dss_one (ds_ret de_bl))
          dss_nil)))))))))))))))))
      (dss_one (ds_ret de_bl)))) (fun ca as Q er h => ?_)
  · obtain ⟨D, rfl, _⟩ := t1_inv h
    rfl
  · obtain ⟨D, rfl, ns, rfl, hl, q⟩ := t1_inv h
    refine dSeq_for fun B N hB hN => ?_
    walk_at "d"
    rw [b62]
    refine ⟨by split <;> (try split) <;> omega, by split <;> (try split) <;> omega, ?_⟩
    have rm : ∀ d ∈ rngD 0 (if (if 8 < ((List.map PyData.int ns).length : Int) then 8 else ((List.map PyData.int ns).length : Int)) > 3 then if 8 < ((List.map PyData.int ns).length : Int) then 8 else ((List.map PyData.int ns).length : Int) else 3).toNat, ∃ k : Nat, d = .int (k : Nat) ∧ k < 1000 := fun d m => by
      unfold rngD at m
      obtain ⟨k, mk, rfl⟩ := List.mem_map.mp m
      have := List.mem_range.mp mk
      exact ⟨k, by rw [Int.zero_add], by revert this; split <;> (try split) <;> omega⟩
    have b1 : 1 ≤ sizeLine := by decide
    have b2 : 2 ≤ sizeLine := by decide
    have b3 : 3 ≤ sizeLine := by decide
    refine forW_go (fun ds ρ => (∀ d ∈ ds, ∃ k : Nat, d = .int (k : Nat) ∧ k < 1000) ∧ LwJ (.list (ns.map .int)) ρ) ?_ ?_ _ _ ⟨rm, rfl, rfl, fun i _ => ?_⟩
    · rintro ρ ⟨_, j⟩
      obtain ⟨s1, s2, s3, s4, s5, s6, s7, s8, s9, s10, s11, s12, s13, rfl, _⟩ := lwj_of j
      subst hN
      walk_at "d"
      exact q
    · rintro K d ds ρ ⟨hd, j⟩ ih
      obtain ⟨k, rfl, hk⟩ := hd d List.mem_cons_self
      obtain ⟨s1, s2, s3, s4, s5, s6, s7, s8, s9, s10, s11, s12, s13, rfl, h1, h3, h4, h5, h6, h7, h8, h9, h10, h11, h12, h13⟩ := lwj_of j
      walk_at "d"
      refine ⟨h1, ?_⟩
      subst hB
      refine dSeq_go fun N1 hN1 => ?_
      walk_at "d"
      refine ⟨ns, k, rfl, hl, by omega, by decide, fun b => ?_⟩
      subst hN1
      refine dSeq_go fun N2 hN2 => ?_
      walk_at "d"
      refine ⟨by decide, by decide, fun dc hdc hw htx => ⟨h3, ?_⟩⟩
      have hdc : DocL 3 dc := hdc
      have cn := cnt_3 dc hdc hw
      have sl := sig_len dc
      have hh := hgt_le dc 3 hdc
      obtain ⟨rd1, rd2⟩ := rd_items dc 3 hdc
      obtain ⟨oi1, oi2, oi3⟩ := ok_items dc 3 hdc
      have wi := wid_items dc
      have wl := wid_itemL dc
      have okd : OkN 8 (docD dc) := okn_T (n := 7) (fun x m => (oi1 x m).1) (by omega)
      have gd : GL 8 60141 (docD dc) := gl_tup (h := 7) (W := 20046) 3 (fun x m => (oi1 x m).2) (by omega)
      have os := ok_sigs dc 3 hdc
      have okS : OkN 2 (.tuple ((sigs dc).map sgD)) := okn_T (n := 1) (all_m fun s m => (os s m).2.1) (by rw [List.length_map]; omega)
      have lv0 := lv_sigs dc 0 (Int.le_refl _)
      have sg1 := sg_law dc 3 hdc htx
      have mk : MkOk (sigs dc) := ⟨⟨0, lv0⟩, by omega, fun s m => by
        have := sg1 s m
        cases s with
        | op l => exact Nat.le_trans (lab_law this).2.1 (by decide)
        | tx z => exact Nat.le_trans this.1.1 (by decide)
        | cl => exact Nat.zero_le _⟩
      subst hN2
      refine dSeq_go fun N1 hN1 => ?_
      walk_at "d"
      refine ⟨dc, rfl, by omega, by omega, h4, ?_⟩
      subst hN1
      refine dSeq_go fun N2 hN2 => ?_
      walk_at "d"
      refine ⟨sigs dc, rfl, mk, h5, ?_⟩
      subst hN2
      refine dSeq_go fun N1 hN1 => ?_
      walk_at "d"
      have sgD1 : ∀ x ∈ (sigs dc).map sgD, sgnB x = true := all_m fun s m => (sgn_ok (os s m).1).1
      have em : ((sigs dc).map sgD).map (fun d => PyData.list (itD d)) = (sigs dc).map sgL := by
        rw [List.map_map]
        exact List.map_congr_left fun s _ => by cases s <;> rfl
      have e1 : sgsOf (.tuple ((sigs dc).map sgD)) = sigs dc := map_sgD
      have e2 : sgsOf (.list ((sigs dc).map sgL)) = sigs dc := map_sgL
      have okSl : OkN 2 (.list ((sigs dc).map sgL)) := okn_L (n := 1) (all_m fun s m => (os s m).2.2.1) (by rw [List.length_map]; omega)
      obtain ⟨k1, k2, k3⟩ := mk_len (ss := sigs dc) (ls := []) sg1 (fun _ m => nomatch m)
      rw [sum_sigs] at k3
      have lt4 : (S (mkS [] (sigs dc))).length ≤ 4800 := by show (mkS [] (sigs dc)).length ≤ _; omega
      have ltz : lts (S (mkS [] (sigs dc))) ≤ 240 := by show (mkS [] (sigs dc)).count 60 ≤ _; omega
      have asz : asc1 (S (mkS [] (sigs dc))) := k2
      have soz : PyData.strOk (S (mkS [] (sigs dc))) = true := asc_so k2
      have gz : GL 0 4800 (.str (S (mkS [] (sigs dc)))) := gl_strW lt4 soz
      obtain ⟨l', rz, rz2⟩ := rd_mk (L := mkS [] (sigs dc)) (m := 0) (sigs dc) [] [] ((S (mkS [] (sigs dc))).length + 1) lv0 sg1 rfl (Nat.lt_succ_self _)
      obtain rfl : l' = [] := List.eq_nil_of_length_eq_zero rz2
      have rz : rdA (S (mkS [] (sigs dc))) = (sigs dc, (S (mkS [] (sigs dc))).length, none, []) := rz
      have r3 : repOk (.list [.str (S (mkS [] (sigs dc))), .str (S (mkS [] (sigs dc))), .str (S (mkS [] (sigs dc)))]) := gl_repL (gl_lst 3 (gl_allc gz (gl_allc gz (gl_all1 gz))) (Nat.le_refl 3)) (by decide) (by decide)
      refine ⟨okS.ok (by decide), lvIn_of rfl sgD1 (by rw [show itD (.tuple ((sigs dc).map sgD)) = (sigs dc).map sgD from rfl, map_sgD]; exact lv0) ⟨by rw [e1]; exact mk, h13, lcW_map (fun d => .list (itD d)) (by rw [List.length_map]; omega) (fun d hd R hR => ?_) ?_⟩⟩
      · obtain ⟨s, ms, rfl⟩ := List.mem_map.mp hd
        walk_at "d"
        exact hiD' (by cases s <;> rfl) hR
      rw [em]
      refine ⟨okSl.ok (by decide), lvIn_of rfl (all_m fun s m => (sgn_ok (os s m).1).2) (by rw [show itD (.list ((sigs dc).map sgL)) = (sigs dc).map sgL from rfl, map_sgL]; exact lv0) ⟨by rw [e2]; exact mk, okd.ok (by decide), sgIn_of rfl rd1 (by omega) ⟨sigs dc, rfl, mk, b3, ?_⟩⟩⟩
      rw [e1, e2]
      refine ⟨r3, by decide, by decide, b3, r3, ?_⟩
      rw [if_neg ne_repl]
      generalize htz : S (mkS [] (sigs dc)) = tz at *
      subst hN1
      refine dSeq_go fun N2 hN2 => ?_
      walk_at "d"
      have dd : repOk (.list [docD dc, docD dc]) := gl_repL (gl_lst 2 (gl_allc gd (gl_all1 gd)) (Nat.le_refl 2)) (by decide) (by decide)
      refine .inr ⟨tz, rfl, by omega, ?_⟩
      rw [rz]
      refine bhq_got (.inr ⟨rfl, rfl, dc, rfl, .inr ⟨tz, rfl, by omega, ?_⟩⟩)
      rw [rz]
      refine bhq_got ⟨okS.ok (by decide), lvIn_of rfl sgD1 (by rw [show itD (.tuple ((sigs dc).map sgD)) = (sigs dc).map sgD from rfl, map_sgD]; exact lv0) (.inr ⟨Int.le_refl _, dc, e1, b2, dd, by decide, by decide, b2, dd, ?_⟩)⟩
      rw [if_neg ne_rep2]
      subst hN2
      refine dSeq_go fun N1 hN1 => ?_
      walk_at "d"
      rw [List.length_map]
      refine ⟨by omega, by omega, fun r r0 r1 => ⟨h6, ?_⟩⟩
      obtain ⟨r, rfl⟩ : ∃ j : Nat, r = (j : Int) := ⟨r.toNat, by omega⟩
      have hr : r ≤ (sigs dc).length := by omega
      have ecut : Dl.cutD ((sigs dc).map sgD) none (some ((r : Nat) : Int)) = ((sigs dc).take r).map sgD := by rw [cut_0n, List.map_take]
      subst hN1
      refine dSeq_go fun N2 hN2 => ?_
      walk_at "d"
      rw [ecut]
      have lvr : Lv ((sigs dc).take r ++ (sigs dc).drop r) 0 0 := by
        rw [List.take_append_drop]
        exact lv0
      obtain ⟨m, lv1, lv2⟩ := lv_app.mp lvr
      have hts : ((sigs dc).take r).length = r := by rw [List.length_take]; omega
      have hsub : ∀ s ∈ (sigs dc).take r, s ∈ sigs dc := fun s m => List.mem_of_mem_take m
      generalize (sigs dc).take r = ts at *
      have okT : OkN 2 (.tuple (ts.map sgD)) := okn_T (n := 1) (all_m fun s m => (os s (hsub s m)).2.1) (by rw [List.length_map]; omega)
      have sgT : ∀ x ∈ ts.map sgD, sgnB x = true := all_m fun s m => (sgn_ok (os s (hsub s m)).1).1
      have lvT : Lv ((itD (.tuple (ts.map sgD))).map sgOf) 0 m := by rw [show itD (.tuple (ts.map sgD)) = ts.map sgD from rfl, map_sgD]; exact lv1
      have mkT : MkOk ts := ⟨⟨m, lv1⟩, by omega, fun s ms => mk.2.2 s (hsub s ms)⟩
      have e3 : sgsOf (.tuple (ts.map sgD)) = ts := map_sgD
      have zs : tz.length ≤ sizeLine := Nat.le_trans lt4 (by decide)
      refine ⟨okT.ok (by decide), lvIn_of rfl sgT lvT ⟨by rw [e3]; exact mkT, ts, rfl, mkT, ?_⟩⟩
      rw [e3, if_neg (by rw [decide_eq_true rfl]; decide)]
      refine ⟨zs, by omega, by omega, fun r2 r20 r21 => ⟨zs, ?_⟩⟩
      obtain ⟨y1, y2, y3⟩ := cut_pre (r := r2) lt4 asz ltz
      refine ⟨_, rfl, by omega, y2, by omega, ?_⟩
      subst hN2
      refine dSeq_for fun B1 N1 hB1 hN1 => ?_
      walk_at "d"
      refine ⟨by decide, by decide, ?_⟩
      refine forW_go (fun ds ρ => ∃ a7 a11 a12 : Lc, nbO (some a7) ∧ nbO (some a11) ∧ nbO (some a12) ∧ ρ = [.sh (.list (ns.map .int)), .sh (.int (k : Nat)), .ob b .box, .sh (docD dc), .sh (.tuple ((sigs dc).map sgD)), .sh (.str tz), .sh (.int (r : Nat)), a7, s8, s9, s10, a11, a12, s13]) ?_ ?_ _ _ ⟨s7, s11, s12, h7, h11, h12, rfl⟩
      · rintro ρ ⟨a7, a11, a12, h7, h11, h12, rfl⟩
        subst hN1
        dsimp only
        refine dSeq_go fun N2 hN2 => ?_
        walk_at "d"
        refine ⟨"", rfl, by decide, by decide, fun r5 r50 r51 => ?_⟩
        rw [b62]
        obtain ⟨r5, rfl⟩ : ∃ j : Nat, r5 = (j : Int) := ⟨r5.toNat, by omega⟩
        refine ⟨by omega, by omega, h7, ?_⟩
        refine lcW_of .str oddP (by rw [rng_len]; omega) (fun d hd R hR => ?_) fun ys hl hp => ?_
        · obtain ⟨j, rfl, hj⟩ := rng_mem hd
          walk_at "d"
          refine ⟨by decide, (by show 0 < 8; decide), (by show 8 < 1000; decide), fun d hd => ?_⟩
          obtain ⟨o, rfl, ho⟩ := odd_str (by decide +kernel) hd
          exact hR o ho
        rw [rng_len] at hl
        have jl : (ys.map fun y => y.length).sum ≤ ys.length * 20 := join_sum fun y m => (hp y m).1
        refine ⟨ys, rfl, by show _ + _ * 0 ≤ _; omega, h8, ?_⟩
        have t1 : (Txt.join "" ys).length ≤ 200 := by
          have := join_len fun y m => (hp y m).1
          omega
        have t2 : asc1 (Txt.join "" ys) := fun c m => by
          rw [join0] at m
          obtain ⟨l, ml, m⟩ := List.mem_flatten.mp m
          obtain ⟨y, my, rfl⟩ := List.mem_map.mp ml
          exact (hp y my).2.1 c m
        have t3 := lts_join fun y m => (hp y m).2.2
        generalize Txt.join "" ys = ch at *
        subst hN2
        refine dSeq_go fun N1 hN1 => ?_
        walk_at "d"
        refine ⟨ch, rfl, by omega, t2, by omega, ?_⟩
        subst hN1
        refine dSeq_go fun N2 hN2 => ?_
        walk_at "d"
        refine ⟨by decide, by decide, (by show 0 < 4; decide), (by show 4 < 1000; decide), fun nn hnn => ⟨h9, ?_⟩⟩
        have nnf : isStr nn = false := by
          simp only [itD, List.mem_cons, List.not_mem_nil, or_false] at hnn
          rcases hnn with rfl | rfl | rfl | rfl <;> rfl
        clear hnn
        subst hN2
        refine dSeq_go fun N1 hN1 => ?_
        walk_at "d"
        have sS1 : PyData.strOk "stream" = true := by decide +kernel
        have sF1 : PyData.strOk "form" = true := by decide +kernel
        have rB : repOk (.int (-1)) := by show ((-1 : Int)).natAbs.log2 < 1920; decide
        have r0 : repOk (.int 0) := by show ((0 : Int)).natAbs.log2 < 1920; decide
        have shM := rfS (d := .int (-1)) so_text rfl
        have lyM := rlS (d := .int (-1)) so_text rfl
        have sh0 := rfS (d := .int 0) sF1 rfl
        have ly0 := rlS (d := .int 0) sF1 rfl
        rw [rep_m1] at shM lyM
        rw [rep_0] at sh0 ly0
        refine ⟨h10, by decide, fun o => o = .err C_BadText (.int (-1)), .inl ⟨nnf, rfl⟩, fun o ho => ?_⟩
        subst ho
        refine th_tx rB ?_
        rw [rep_m1]
        refine ⟨b3, shM, shM, ?_⟩
        rw [eqv_l lyM, if_neg (by decide)]
        refine ⟨by decide, fun o => o = .err C_BadText (.int (-1)), .inl ⟨nnf, rfl⟩, fun o ho => ?_⟩
        subst ho
        refine th_tx rB ?_
        rw [rep_m1]
        refine ⟨b3, shM, shM, ?_⟩
        rw [eqv_l lyM, if_neg (by decide)]
        generalize Fk.fn _ _ = fk
        subst hN1
        refine dSeq_go fun N2 hN2 => ?_
        walk_at "d"
        refine ⟨b1, (okn_L (n := 0) (all_1 okn_non) (by show 1 ≤ 100000; decide)).ok (by decide), sgIn_bad (n := 1) (k := 0) rfl (.here rfl rfl) (by decide) (th_fo r0 ?_)⟩
        rw [show ((0 : Nat) : Int) = 0 from rfl, rep_0]
        refine ⟨b3, sh0, sh0, ?_⟩
        rw [eqv_l ly0, if_neg (by decide)]
        subst hN2
        walk_at "d"
        have cl1 : OkN 1 (.tuple [.str "close"]) := okn_T (n := 0) (all_1 (okn_s (z := "close") (by decide) (by decide +kernel))) (by show 1 ≤ 100000; decide)
        have okV : OkD (.tuple ((sigs dc).map sgD ++ [.tuple [.str "close"]])) := (okn_T (n := 1) (fun x m => by
          rcases List.mem_append.mp m with m | m
          · exact all_m (fun s m => (os s m).2.1) x m
          · exact all_1 cl1 x m) (by rw [List.length_append, List.length_map]; show _ + 1 ≤ _; omega)).ok (by decide)
        have lvV : ∀ {k : Int → Prop} {er : EK}, er (C_BadStream, .int (((sigs dc).map sgD).length : Nat)) → LvIn C_BadStream (.tuple ((sigs dc).map sgD ++ [.tuple [.str "close"]])) 0 k er := fun h => .inr ⟨rfl, .inl ⟨((sigs dc).map sgD).length, by
          show lvl ((sigs dc).map sgD ++ [.tuple [.str "close"]]) 0 0 = _
          rw [lvl_lvG (b := 0) (by rw [map_sgD]; exact lv0) sgD1, lvl, if_neg (by rw [show sgnB (.tuple [.str "close"]) = true from (sgn_ok (s := .cl) trivial).1]; decide), show stpD (.tuple [.str "close"]) = -1 from stp_sg .cl, if_pos (by decide), Nat.zero_add], h⟩⟩
        have sz3 : ((sigs dc).map sgD).length + 1 ≤ sizeLine := Nat.le_trans (by rw [List.length_map]; omega : _ ≤ 1000) (by decide)
        have rL : repOk (.int (((sigs dc).map sgD).length : Nat)) := rep_pos (by rw [List.length_map]; omega)
        have shL := rfS (d := .int (((sigs dc).map sgD).length : Nat)) sS1 rfl
        have lyL := rlS (d := .int (((sigs dc).map sgD).length : Nat)) sS1 rfl
        refine ⟨b1, b1, sz3, okV, lvV (th_st rL ⟨rL, b3, shL, shL, ?_⟩)⟩
        rw [eqv_l lyL, if_neg (by decide)]
        refine ih _ ⟨fun x m => hd x (List.mem_cons_of_mem _ m), rfl, rfl, fun i n2 => ?_⟩
        match i with
        | 0 | 1 | 3 | 4 | 5 | 6 | 7 | 8 | 9 | 10 | 11 | 12 | 13 => first | exact trivial | assumption
        | 2 => exact absurd rfl n2
        | i + 14 => exact trivial
      · rintro K2 x ds2 ρ ⟨a7, a11, a12, h7, h11, h12, rfl⟩ ih2
        walk_at "d"
        refine ⟨h7, ?_⟩
        subst hB1
        refine dSeq_go fun N2 hN2 => ?_
        walk_at "d"
        refine ⟨zs, by omega, by omega, fun r2 r20 r21 => ⟨h11, ?_⟩⟩
        obtain ⟨r2, rfl⟩ : ∃ j : Nat, r2 = (j : Int) := ⟨r2.toNat, by omega⟩
        subst hN2
        refine dSeq_go fun N3 hN3 => ?_
        walk_at "d"
        refine ⟨by decide, (by show 0 < 12; decide), (by show 12 < 1000; decide), fun o mo => ⟨h12, ?_⟩⟩
        obtain ⟨o, rfl, o1, o2, o3⟩ := odd_str (by decide +kernel) mo
        subst hN3
        walk_at "d"
        have y1 := (cut_pre (r := (r2 : Nat)) lt4 asz ltz).1
        have b3k : 30000 ≤ sizeLine := by decide
        refine ⟨zs, by omega, by decide, by decide, fun r3 r30 r31 => ⟨zs, ?_⟩⟩
        obtain ⟨w1, w2, w3⟩ := cut_mix (o := o) lt4 asz ltz (show r2 ≤ tz.length by omega) r30 o1 o2 o3
        refine ⟨by omega, _, rfl, by rw [len_app]; exact w1, w2, w3, ?_⟩
        exact ih2 _ ⟨.sh x, .sh (.int (r2 : Nat)), .sh (.str o), trivial, trivial, trivial, rfl⟩
    · match i with
      | 0 | 1 | 2 | 3 | 4 | 5 | 6 | 7 | 8 | 9 | 10 | 11 | 12 | 13 => exact trivial
      | i + 14 => exact trivial
end
end Lw
set_option Elab.async false
set_option linter.all false
set_option maxRecDepth 100000
set_option maxHeartbeats 8000000
namespace K6
open PySem PySem.Spec PyProof PyProof.Rows L2 So Dl Lw
theorem scIni_BadForm : FnScope ["self", "at"] ["self", "at"] (defScope (inClass c_BadForm 0)) := ⟨rfl, rfl, rfl, by decide +kernel, rfl, by decide +kernel, by decide +kernel⟩
theorem ok_ini_BadForm {Z : Zw} {C fI : Addr} {fdI : FuncData} (B : Er Z.K Z.mg "BadForm" "BadForm.__init__" "at" c_BadForm C fI fdI) : FnOk Z.Pg Z.w Z.K Z.mg Z.base CX0 1 fI fdI ["self", "at"] (spIni C "at") := by
  refine B.F.ok scIni_BadForm (fun vs H Q E h => ?_) (fun cdv A outer s H vs Q E hr h => ?_)
  · obtain ⟨a, v, rfl, _⟩ := h
    rfl
  · obtain ⟨a, v, rfl, ha, k⟩ := h
    exact ⟨_, pss_one (ps_ost (pv 0) (pv 1)), _, rfl, _, rfl, a, C, rfl, B.T, B.na, .inl ⟨ha, fun dx n ne => k dx n ne⟩⟩
theorem scIni_BadStream : FnScope ["self", "at"] ["self", "at"] (defScope (inClass c_BadStream 0)) := ⟨rfl, rfl, rfl, by decide +kernel, rfl, by decide +kernel, by decide +kernel⟩
theorem ok_ini_BadStream {Z : Zw} {C fI : Addr} {fdI : FuncData} (B : Er Z.K Z.mg "BadStream" "BadStream.__init__" "at" c_BadStream C fI fdI) : FnOk Z.Pg Z.w Z.K Z.mg Z.base CX0 1 fI fdI ["self", "at"] (spIni C "at") := by
  refine B.F.ok scIni_BadStream (fun vs H Q E h => ?_) (fun cdv A outer s H vs Q E hr h => ?_)
  · obtain ⟨a, v, rfl, _⟩ := h
    rfl
  · obtain ⟨a, v, rfl, ha, k⟩ := h
    exact ⟨_, pss_one (ps_ost (pv 0) (pv 1)), _, rfl, _, rfl, a, C, rfl, B.T, B.na, .inl ⟨ha, fun dx n ne => k dx n ne⟩⟩
theorem scIni_BadText : FnScope ["self", "at"] ["self", "at"] (defScope (inClass c_BadText 0)) := ⟨rfl, rfl, rfl, by decide +kernel, rfl, by decide +kernel, by decide +kernel⟩
theorem ok_ini_BadText {Z : Zw} {C fI : Addr} {fdI : FuncData} (B : Er Z.K Z.mg "BadText" "BadText.__init__" "at" c_BadText C fI fdI) : FnOk Z.Pg Z.w Z.K Z.mg Z.base CX0 1 fI fdI ["self", "at"] (spIni C "at") := by
  refine B.F.ok scIni_BadText (fun vs H Q E h => ?_) (fun cdv A outer s H vs Q E hr h => ?_)
  · obtain ⟨a, v, rfl, _⟩ := h
    rfl
  · obtain ⟨a, v, rfl, ha, k⟩ := h
    exact ⟨_, pss_one (ps_ost (pv 0) (pv 1)), _, rfl, _, rfl, a, C, rfl, B.T, B.na, .inl ⟨ha, fun dx n ne => k dx n ne⟩⟩
def tabL (P1 P2 : Addr) : List Addr := [P1, P2]
/-- what is known of the program behind its top -/
def Known (Pg : Program) (w : World) (K : PySem.W.Frag) (mg : Str → Option Value) (fa : Addr) : Prop := ∃ (c0 P0 c1 P1 c2 P2 : Addr) (fd : FuncData), PySem.W.tabIn K "is_label" = some (c0, P0) ∧ K.lookup P0 = none ∧ PySem.W.tabIn K "_law_text_right" = some (c1, P1) ∧ K.lookup P1 = none ∧ PySem.W.tabIn K "law" = some (c2, P2) ∧ K.lookup P2 = none ∧
  (∀ (s : Shared) (u : Value), BindsTo s fd ⟨[u], []⟩ [("script", u)]) ∧
  ∀ base : Heap, K.In base → base.Ns mainGlobals mg → GxR.TabB base mg c0 P0 → GxR.TabB base mg c1 P1 → GxR.TabB base mg c2 P2 → SoG.GOk Pg w K mg base fa fd (spLawS K (P0 :: tabL P1 P2))
theorem all_mk {Pg : Program} {w : World} {K : PySem.W.Frag} {h : Heap} {mg : Str → Option Value} {fa O : Addr} (X : K.In h) (G : h.Ns mainGlobals mg) (hfa : mg "law" = some (.ref fa))
    {f1 f2 f3 f4 f5 f6 f7 f8 f9 f10 f11 f12 f13 f14 f15 f16 f17 f18 f19 f20 f21 f22 f23 f24 f25 f26 f27 f28 f29 f30 f31 f32 f33 f34 f35 f36 f37 f38 f39 f40 q4 P4 q39 P39 q40 P40 : Addr}
    {od1 an1 od2 an2 od3 an3 od4 an4 od5 an5 od6 an6 od7 an7 od8 an8 od9 an9 od10 an10 od11 an11 od12 an12 od13 an13 od14 an14 od15 an15 od16 an16 od17 an17 od18 an18 od19 an19 od20 an20 od21 an21 od22 an22 od23 an23 od24 an24 od25 an25 od26 an26 od27 an27 od28 an28 od29 an29 od30 an30 od31 an31 od32 an32 od33 an33 od34 an34 od35 an35 od36 an36 od37 an37 od38 an38 od39 an39 od40 an40 u4 u39 u40 : Option Addr} {sl1 sl2 sl3 sl4 sl5 sl6 sl7 sl8 sl9 sl10 sl11 sl12 sl13 sl14 sl15 sl16 sl17 sl18 sl19 sl20 sl21 sl22 sl23 sl24 sl25 sl26 sl27 sl28 sl29 sl30 sl31 sl32 sl33 sl34 sl35 sl36 sl37 sl38 sl39 sl40 x4 x39 x40 : Array (Option Value)} {oc1 kV1 dc1 pm1 ct1 oc2 kV2 dc2 pm2 ct2 oc3 kV3 dc3 pm3 ct3 oc4 kV4 dc4 pm4 ct4 oc5 kV5 dc5 pm5 ct5 oc6 kV6 dc6 pm6 ct6 oc7 kV7 dc7 pm7 ct7 oc8 kV8 dc8 pm8 ct8 oc9 kV9 dc9 pm9 ct9 oc10 kV10 dc10 pm10 ct10 oc11 kV11 dc11 pm11 ct11 oc12 kV12 dc12 pm12 ct12 oc13 kV13 dc13 pm13 ct13 oc14 kV14 dc14 pm14 ct14 oc15 kV15 dc15 pm15 ct15 oc16 kV16 dc16 pm16 ct16 oc17 kV17 dc17 pm17 ct17 oc18 kV18 dc18 pm18 ct18 oc19 kV19 dc19 pm19 ct19 oc20 kV20 dc20 pm20 ct20 oc21 kV21 dc21 pm21 ct21 oc22 kV22 dc22 pm22 ct22 oc23 kV23 dc23 pm23 ct23 oc24 kV24 dc24 pm24 ct24 oc25 kV25 dc25 pm25 ct25 oc26 kV26 dc26 pm26 ct26 oc27 kV27 dc27 pm27 ct27 oc28 kV28 dc28 pm28 ct28 oc29 kV29 dc29 pm29 ct29 oc30 kV30 dc30 pm30 ct30 oc31 kV31 dc31 pm31 ct31 oc32 kV32 dc32 pm32 ct32 oc33 kV33 dc33 pm33 ct33 oc34 kV34 dc34 pm34 ct34 oc35 kV35 dc35 pm35 ct35 oc36 kV36 dc36 pm36 ct36 oc37 kV37 dc37 pm37 ct37 oc38 kV38 dc38 pm38 ct38 oc39 kV39 dc39 pm39 ct39 oc40 kV40 dc40 pm40 ct40 cd1 cd2 cd3 cd5 cd6 cd7 cd8 cd9 cd10 cd11 cd12 cd13 cd14 cd15 cd16 cd17 cd18 cd19 cd20 cd21 cd22 cd23 cd24 cd25 cd26 cd27 cd28 cd29 cd30 cd31 cd32 cd33 cd34 cd35 cd36 cd37 cd38 y4 y39 y40 : Value} {vs4 vs39 vs40 : Array Value} {t_LETTERS t_LABEL_MOST t_TEXT_MOST : Tok}
    (a1 : PySem.W.nsIn K mainGlobals "is_sequence" = some (some (.ref f1))) (l1 : K.lookup f1 = some ⟨oc1, od1, .func (PySem.W.fnOf "is_sequence" "is_sequence" (defArgs s_is_sequence) (defBody s_is_sequence) (defScope s_is_sequence) .none kV1 dc1 pm1 an1 cd1 ct1), sl1⟩) (c1 : PySem.W.codeIn K cd1 "is_sequence" = true) (k1 : PySem.W.keepIn K (.ref f1) = true)
    (a2 : PySem.W.nsIn K mainGlobals "is_row_of" = some (some (.ref f2))) (l2 : K.lookup f2 = some ⟨oc2, od2, .func (PySem.W.fnOf "is_row_of" "is_row_of" (defArgs s_is_row_of) (defBody s_is_row_of) (defScope s_is_row_of) .none kV2 dc2 pm2 an2 cd2 ct2), sl2⟩) (c2 : PySem.W.codeIn K cd2 "is_row_of" = true) (k2 : PySem.W.keepIn K (.ref f2) = true)
    (a3 : PySem.W.nsIn K mainGlobals "is_text" = some (some (.ref f3))) (l3 : K.lookup f3 = some ⟨oc3, od3, .func (PySem.W.fnOf "is_text" "is_text" (defArgs s_is_text) (defBody s_is_text) (defScope s_is_text) .none kV3 dc3 pm3 an3 cd3 ct3), sl3⟩) (c3 : PySem.W.codeIn K cd3 "is_text" = true) (k3 : PySem.W.keepIn K (.ref f3) = true)
    (a4 : PySem.W.nsIn K mainGlobals "is_label" = some (some (.ref f4))) (l4 : K.lookup f4 = some ⟨oc4, od4, .func (PySem.W.fnOf "is_label" "is_label" (defArgs s_is_label) (defBody s_is_label) (defScope s_is_label) .none kV4 dc4 pm4 an4 (.ref q4) ct4), sl4⟩) (c4 : PySem.W.codeIn K (.ref q4) "is_label" = true) (k4 : PySem.W.keepIn K (.ref f4) = true)
    (a5 : PySem.W.nsIn K mainGlobals "_sign_fault" = some (some (.ref f5))) (l5 : K.lookup f5 = some ⟨oc5, od5, .func (PySem.W.fnOf "_sign_fault" "_sign_fault" (defArgs s_sign_fault) (defBody s_sign_fault) (defScope s_sign_fault) .none kV5 dc5 pm5 an5 cd5 ct5), sl5⟩) (c5 : PySem.W.codeIn K cd5 "_sign_fault" = true) (k5 : PySem.W.keepIn K (.ref f5) = true)
    (a6 : PySem.W.nsIn K mainGlobals "is_sign" = some (some (.ref f6))) (l6 : K.lookup f6 = some ⟨oc6, od6, .func (PySem.W.fnOf "is_sign" "is_sign" (defArgs s_is_sign) (defBody s_is_sign) (defScope s_is_sign) .none kV6 dc6 pm6 an6 cd6 ct6), sl6⟩) (c6 : PySem.W.codeIn K cd6 "is_sign" = true) (k6 : PySem.W.keepIn K (.ref f6) = true)
    (a7 : PySem.W.nsIn K mainGlobals "_is_text_node" = some (some (.ref f7))) (l7 : K.lookup f7 = some ⟨oc7, od7, .func (PySem.W.fnOf "_is_text_node" "_is_text_node" (defArgs s_is_text_node) (defBody s_is_text_node) (defScope s_is_text_node) .none kV7 dc7 pm7 an7 cd7 ct7), sl7⟩) (c7 : PySem.W.codeIn K cd7 "_is_text_node" = true) (k7 : PySem.W.keepIn K (.ref f7) = true)
    (a8 : PySem.W.nsIn K mainGlobals "_is_element_node" = some (some (.ref f8))) (l8 : K.lookup f8 = some ⟨oc8, od8, .func (PySem.W.fnOf "_is_element_node" "_is_element_node" (defArgs s_is_element_node) (defBody s_is_element_node) (defScope s_is_element_node) .none kV8 dc8 pm8 an8 cd8 ct8), sl8⟩) (c8 : PySem.W.codeIn K cd8 "_is_element_node" = true) (k8 : PySem.W.keepIn K (.ref f8) = true)
    (a9 : PySem.W.nsIn K mainGlobals "signs_of" = some (some (.ref f9))) (l9 : K.lookup f9 = some ⟨oc9, od9, .func (PySem.W.fnOf "signs_of" "signs_of" (defArgs s_signs_of) (defBody s_signs_of) (defScope s_signs_of) .none kV9 dc9 pm9 an9 cd9 ct9), sl9⟩) (c9 : PySem.W.codeIn K cd9 "signs_of" = true) (k9 : PySem.W.keepIn K (.ref f9) = true)
    (a10 : PySem.W.nsIn K mainGlobals "_law_box" = some (some (.ref f10))) (l10 : K.lookup f10 = some ⟨oc10, od10, .func (PySem.W.fnOf "_law_box" "_law_box" (defArgs s_law_box) (defBody s_law_box) (defScope s_law_box) .none kV10 dc10 pm10 an10 cd10 ct10), sl10⟩) (c10 : PySem.W.codeIn K cd10 "_law_box" = true) (k10 : PySem.W.keepIn K (.ref f10) = true)
    (a11 : PySem.W.nsIn K mainGlobals "_law_take" = some (some (.ref f11))) (l11 : K.lookup f11 = some ⟨oc11, od11, .func (PySem.W.fnOf "_law_take" "_law_take" (defArgs s_law_take) (defBody s_law_take) (defScope s_law_take) .none kV11 dc11 pm11 an11 cd11 ct11), sl11⟩) (c11 : PySem.W.codeIn K cd11 "_law_take" = true) (k11 : PySem.W.keepIn K (.ref f11) = true)
    (a12 : PySem.W.nsIn K mainGlobals "_law_pick" = some (some (.ref f12))) (l12 : K.lookup f12 = some ⟨oc12, od12, .func (PySem.W.fnOf "_law_pick" "_law_pick" (defArgs s_law_pick) (defBody s_law_pick) (defScope s_law_pick) .none kV12 dc12 pm12 an12 cd12 ct12), sl12⟩) (c12 : PySem.W.codeIn K cd12 "_law_pick" = true) (k12 : PySem.W.keepIn K (.ref f12) = true)
    (a13 : PySem.W.nsIn K mainGlobals "_law_text" = some (some (.ref f13))) (l13 : K.lookup f13 = some ⟨oc13, od13, .func (PySem.W.fnOf "_law_text" "_law_text" (defArgs s_law_text) (defBody s_law_text) (defScope s_law_text) .none kV13 dc13 pm13 an13 cd13 ct13), sl13⟩) (c13 : PySem.W.codeIn K cd13 "_law_text" = true) (k13 : PySem.W.keepIn K (.ref f13) = true)
    (a14 : PySem.W.nsIn K mainGlobals "_step_of" = some (some (.ref f14))) (l14 : K.lookup f14 = some ⟨oc14, od14, .func (PySem.W.fnOf "_step_of" "_step_of" (defArgs s_step_of) (defBody s_step_of) (defScope s_step_of) .none kV14 dc14 pm14 an14 cd14 ct14), sl14⟩) (c14 : PySem.W.codeIn K cd14 "_step_of" = true) (k14 : PySem.W.keepIn K (.ref f14) = true)
    (a15 : PySem.W.nsIn K mainGlobals "read_levels" = some (some (.ref f15))) (l15 : K.lookup f15 = some ⟨oc15, od15, .func (PySem.W.fnOf "read_levels" "read_levels" (defArgs s_read_levels) (defBody s_read_levels) (defScope s_read_levels) .none kV15 dc15 pm15 an15 cd15 ct15), sl15⟩) (c15 : PySem.W.codeIn K cd15 "read_levels" = true) (k15 : PySem.W.keepIn K (.ref f15) = true)
    (a16 : PySem.W.nsIn K mainGlobals "_read_whole" = some (some (.ref f16))) (l16 : K.lookup f16 = some ⟨oc16, od16, .func (PySem.W.fnOf "_read_whole" "_read_whole" (defArgs s_read_whole) (defBody s_read_whole) (defScope s_read_whole) .none kV16 dc16 pm16 an16 cd16 ct16), sl16⟩) (c16 : PySem.W.codeIn K cd16 "_read_whole" = true) (k16 : PySem.W.keepIn K (.ref f16) = true)
    (a17 : PySem.W.nsIn K mainGlobals "check_prefix" = some (some (.ref f17))) (l17 : K.lookup f17 = some ⟨oc17, od17, .func (PySem.W.fnOf "check_prefix" "check_prefix" (defArgs s_check_prefix) (defBody s_check_prefix) (defScope s_check_prefix) .none kV17 dc17 pm17 an17 cd17 ct17), sl17⟩) (c17 : PySem.W.codeIn K cd17 "check_prefix" = true) (k17 : PySem.W.keepIn K (.ref f17) = true)
    (a18 : PySem.W.nsIn K mainGlobals "check_stream" = some (some (.ref f18))) (l18 : K.lookup f18 = some ⟨oc18, od18, .func (PySem.W.fnOf "check_stream" "check_stream" (defArgs s_check_stream) (defBody s_check_stream) (defScope s_check_stream) .none kV18 dc18 pm18 an18 cd18 ct18), sl18⟩) (c18 : PySem.W.codeIn K cd18 "check_stream" = true) (k18 : PySem.W.keepIn K (.ref f18) = true)
    (a19 : PySem.W.nsIn K mainGlobals "_nodes_of" = some (some (.ref f19))) (l19 : K.lookup f19 = some ⟨oc19, od19, .func (PySem.W.fnOf "_nodes_of" "_nodes_of" (defArgs s_nodes_of) (defBody s_nodes_of) (defScope s_nodes_of) .none kV19 dc19 pm19 an19 cd19 ct19), sl19⟩) (c19 : PySem.W.codeIn K cd19 "_nodes_of" = true) (k19 : PySem.W.keepIn K (.ref f19) = true)
    (a20 : PySem.W.nsIn K mainGlobals "document_of" = some (some (.ref f20))) (l20 : K.lookup f20 = some ⟨oc20, od20, .func (PySem.W.fnOf "document_of" "document_of" (defArgs s_document_of) (defBody s_document_of) (defScope s_document_of) .none kV20 dc20 pm20 an20 cd20 ct20), sl20⟩) (c20 : PySem.W.codeIn K cd20 "document_of" = true) (k20 : PySem.W.keepIn K (.ref f20) = true)
    (a21 : PySem.W.nsIn K mainGlobals "_law_document" = some (some (.ref f21))) (l21 : K.lookup f21 = some ⟨oc21, od21, .func (PySem.W.fnOf "_law_document" "_law_document" (defArgs s_law_document) (defBody s_law_document) (defScope s_law_document) .none kV21 dc21 pm21 an21 cd21 ct21), sl21⟩) (c21 : PySem.W.codeIn K cd21 "_law_document" = true) (k21 : PySem.W.keepIn K (.ref f21) = true)
    (a22 : PySem.W.nsIn K mainGlobals "_law_signs" = some (some (.ref f22))) (l22 : K.lookup f22 = some ⟨oc22, od22, .func (PySem.W.fnOf "_law_signs" "_law_signs" (defArgs s_law_signs) (defBody s_law_signs) (defScope s_law_signs) .none kV22 dc22 pm22 an22 cd22 ct22), sl22⟩) (c22 : PySem.W.codeIn K cd22 "_law_signs" = true) (k22 : PySem.W.keepIn K (.ref f22) = true)
    (a23 : PySem.W.nsIn K mainGlobals "behind_letters" = some (some (.ref f23))) (l23 : K.lookup f23 = some ⟨oc23, od23, .func (PySem.W.fnOf "behind_letters" "behind_letters" (defArgs s_behind_letters) (defBody s_behind_letters) (defScope s_behind_letters) .none kV23 dc23 pm23 an23 cd23 ct23), sl23⟩) (c23 : PySem.W.codeIn K cd23 "behind_letters" = true) (k23 : PySem.W.keepIn K (.ref f23) = true)
    (a24 : PySem.W.nsIn K mainGlobals "_quoted" = some (some (.ref f24))) (l24 : K.lookup f24 = some ⟨oc24, od24, .func (PySem.W.fnOf "_quoted" "_quoted" (defArgs s_quoted) (defBody s_quoted) (defScope s_quoted) .none kV24 dc24 pm24 an24 cd24 ct24), sl24⟩) (c24 : PySem.W.codeIn K cd24 "_quoted" = true) (k24 : PySem.W.keepIn K (.ref f24) = true)
    (a25 : PySem.W.nsIn K mainGlobals "_marked" = some (some (.ref f25))) (l25 : K.lookup f25 = some ⟨oc25, od25, .func (PySem.W.fnOf "_marked" "_marked" (defArgs s_marked) (defBody s_marked) (defScope s_marked) .none kV25 dc25 pm25 an25 cd25 ct25), sl25⟩) (c25 : PySem.W.codeIn K cd25 "_marked" = true) (k25 : PySem.W.keepIn K (.ref f25) = true)
    (a26 : PySem.W.nsIn K mainGlobals "markup" = some (some (.ref f26))) (l26 : K.lookup f26 = some ⟨oc26, od26, .func (PySem.W.fnOf "markup" "markup" (defArgs s_markup) (defBody s_markup) (defScope s_markup) .none kV26 dc26 pm26 an26 cd26 ct26), sl26⟩) (c26 : PySem.W.codeIn K cd26 "markup" = true) (k26 : PySem.W.keepIn K (.ref f26) = true)
    (a27 : PySem.W.nsIn K mainGlobals "markup_of" = some (some (.ref f27))) (l27 : K.lookup f27 = some ⟨oc27, od27, .func (PySem.W.fnOf "markup_of" "markup_of" (defArgs s_markup_of) (defBody s_markup_of) (defScope s_markup_of) .none kV27 dc27 pm27 an27 cd27 ct27), sl27⟩) (c27 : PySem.W.codeIn K cd27 "markup_of" = true) (k27 : PySem.W.keepIn K (.ref f27) = true)
    (a28 : PySem.W.nsIn K mainGlobals "_read_text" = some (some (.ref f28))) (l28 : K.lookup f28 = some ⟨oc28, od28, .func (PySem.W.fnOf "_read_text" "_read_text" (defArgs s_read_text) (defBody s_read_text) (defScope s_read_text) .none kV28 dc28 pm28 an28 cd28 ct28), sl28⟩) (c28 : PySem.W.codeIn K cd28 "_read_text" = true) (k28 : PySem.W.keepIn K (.ref f28) = true)
    (a29 : PySem.W.nsIn K mainGlobals "_read_opening" = some (some (.ref f29))) (l29 : K.lookup f29 = some ⟨oc29, od29, .func (PySem.W.fnOf "_read_opening" "_read_opening" (defArgs s_read_opening) (defBody s_read_opening) (defScope s_read_opening) .none kV29 dc29 pm29 an29 cd29 ct29), sl29⟩) (c29 : PySem.W.codeIn K cd29 "_read_opening" = true) (k29 : PySem.W.keepIn K (.ref f29) = true)
    (a30 : PySem.W.nsIn K mainGlobals "_read_closing" = some (some (.ref f30))) (l30 : K.lookup f30 = some ⟨oc30, od30, .func (PySem.W.fnOf "_read_closing" "_read_closing" (defArgs s_read_closing) (defBody s_read_closing) (defScope s_read_closing) .none kV30 dc30 pm30 an30 cd30 ct30), sl30⟩) (c30 : PySem.W.codeIn K cd30 "_read_closing" = true) (k30 : PySem.W.keepIn K (.ref f30) = true)
    (a31 : PySem.W.nsIn K mainGlobals "_read_sign" = some (some (.ref f31))) (l31 : K.lookup f31 = some ⟨oc31, od31, .func (PySem.W.fnOf "_read_sign" "_read_sign" (defArgs s_read_sign) (defBody s_read_sign) (defScope s_read_sign) .none kV31 dc31 pm31 an31 cd31 ct31), sl31⟩) (c31 : PySem.W.codeIn K cd31 "_read_sign" = true) (k31 : PySem.W.keepIn K (.ref f31) = true)
    (a32 : PySem.W.nsIn K mainGlobals "markup_behind" = some (some (.ref f32))) (l32 : K.lookup f32 = some ⟨oc32, od32, .func (PySem.W.fnOf "markup_behind" "markup_behind" (defArgs s_markup_behind) (defBody s_markup_behind) (defScope s_markup_behind) .none kV32 dc32 pm32 an32 cd32 ct32), sl32⟩) (c32 : PySem.W.codeIn K cd32 "markup_behind" = true) (k32 : PySem.W.keepIn K (.ref f32) = true)
    (a33 : PySem.W.nsIn K mainGlobals "read_markup" = some (some (.ref f33))) (l33 : K.lookup f33 = some ⟨oc33, od33, .func (PySem.W.fnOf "read_markup" "read_markup" (defArgs s_read_markup) (defBody s_read_markup) (defScope s_read_markup) .none kV33 dc33 pm33 an33 cd33 ct33), sl33⟩) (c33 : PySem.W.codeIn K cd33 "read_markup" = true) (k33 : PySem.W.keepIn K (.ref f33) = true)
    (a34 : PySem.W.nsIn K mainGlobals "from_text" = some (some (.ref f34))) (l34 : K.lookup f34 = some ⟨oc34, od34, .func (PySem.W.fnOf "from_text" "from_text" (defArgs s_from_text) (defBody s_from_text) (defScope s_from_text) .none kV34 dc34 pm34 an34 cd34 ct34), sl34⟩) (c34 : PySem.W.codeIn K cd34 "from_text" = true) (k34 : PySem.W.keepIn K (.ref f34) = true)
    (a35 : PySem.W.nsIn K mainGlobals "_law_heard" = some (some (.ref f35))) (l35 : K.lookup f35 = some ⟨oc35, od35, .func (PySem.W.fnOf "_law_heard" "_law_heard" (defArgs s_law_heard) (defBody s_law_heard) (defScope s_law_heard) .none kV35 dc35 pm35 an35 cd35 ct35), sl35⟩) (c35 : PySem.W.codeIn K cd35 "_law_heard" = true) (k35 : PySem.W.keepIn K (.ref f35) = true)
    (a36 : PySem.W.nsIn K mainGlobals "_law_quoted" = some (some (.ref f36))) (l36 : K.lookup f36 = some ⟨oc36, od36, .func (PySem.W.fnOf "_law_quoted" "_law_quoted" (defArgs s_law_quoted) (defBody s_law_quoted) (defScope s_law_quoted) .none kV36 dc36 pm36 an36 cd36 ct36), sl36⟩) (c36 : PySem.W.codeIn K cd36 "_law_quoted" = true) (k36 : PySem.W.keepIn K (.ref f36) = true)
    (a37 : PySem.W.nsIn K mainGlobals "_law_markup" = some (some (.ref f37))) (l37 : K.lookup f37 = some ⟨oc37, od37, .func (PySem.W.fnOf "_law_markup" "_law_markup" (defArgs s_law_markup) (defBody s_law_markup) (defScope s_law_markup) .none kV37 dc37 pm37 an37 cd37 ct37), sl37⟩) (c37 : PySem.W.codeIn K cd37 "_law_markup" = true) (k37 : PySem.W.keepIn K (.ref f37) = true)
    (a38 : PySem.W.nsIn K mainGlobals "_law_read" = some (some (.ref f38))) (l38 : K.lookup f38 = some ⟨oc38, od38, .func (PySem.W.fnOf "_law_read" "_law_read" (defArgs s_law_read) (defBody s_law_read) (defScope s_law_read) .none kV38 dc38 pm38 an38 cd38 ct38), sl38⟩) (c38 : PySem.W.codeIn K cd38 "_law_read" = true) (k38 : PySem.W.keepIn K (.ref f38) = true)
    (a39 : PySem.W.nsIn K mainGlobals "_law_text_right" = some (some (.ref f39))) (l39 : K.lookup f39 = some ⟨oc39, od39, .func (PySem.W.fnOf "_law_text_right" "_law_text_right" (defArgs s_law_text_right) (defBody s_law_text_right) (defScope s_law_text_right) .none kV39 dc39 pm39 an39 (.ref q39) ct39), sl39⟩) (c39 : PySem.W.codeIn K (.ref q39) "_law_text_right" = true) (k39 : PySem.W.keepIn K (.ref f39) = true)
    (a40 : PySem.W.nsIn K mainGlobals "law" = some (some (.ref f40))) (l40 : K.lookup f40 = some ⟨oc40, od40, .func (PySem.W.fnOf "law" "law" (defArgs s_law) (defBody s_law) (defScope s_law) .none kV40 dc40 pm40 an40 (.ref q40) ct40), sl40⟩) (c40 : PySem.W.codeIn K (.ref q40) "law" = true) (k40 : PySem.W.keepIn K (.ref f40) = true)
    (lc4 : K.lookup q4 = some ⟨y4, u4, .fields vs4, x4⟩) (hp4 : vs4[11]? = some (.ref P4)) (nT4 : K.lookup P4 = none)
    (lc39 : K.lookup q39 = some ⟨y39, u39, .fields vs39, x39⟩) (hp39 : vs39[11]? = some (.ref P39)) (nT39 : K.lookup P39 = none)
    (lc40 : K.lookup q40 = some ⟨y40, u40, .fields vs40, x40⟩) (hp40 : vs40[11]? = some (.ref P40)) (nT40 : K.lookup P40 = none)
    (d4x39 : P4 ≠ P39)
    (d4x40 : P4 ≠ P40)
    (d39x40 : P39 ≠ P40)
    (z_abs : PySem.W.nsIn K mainGlobals "abs" = some none)
    (z_all : PySem.W.nsIn K mainGlobals "all" = some none)
    (z_enumerate : PySem.W.nsIn K mainGlobals "enumerate" = some none)
    (z_int : PySem.W.nsIn K mainGlobals "int" = some none)
    (z_isinstance : PySem.W.nsIn K mainGlobals "isinstance" = some none)
    (z_len : PySem.W.nsIn K mainGlobals "len" = some none)
    (z_list : PySem.W.nsIn K mainGlobals "list" = some none)
    (z_max : PySem.W.nsIn K mainGlobals "max" = some none)
    (z_min : PySem.W.nsIn K mainGlobals "min" = some none)
    (z_range : PySem.W.nsIn K mainGlobals "range" = some none)
    (z_repr : PySem.W.nsIn K mainGlobals "repr" = some none)
    (z_reversed : PySem.W.nsIn K mainGlobals "reversed" = some none)
    (z_str : PySem.W.nsIn K mainGlobals "str" = some none)
    (z_tuple : PySem.W.nsIn K mainGlobals "tuple" = some none)
    (v_LETTERS : PySem.W.nsIn K mainGlobals "LETTERS" = some (some (.str "abcdefghijklmnopqrstuvwxyz" t_LETTERS)))
    (v_LABEL_MOST : PySem.W.nsIn K mainGlobals "LABEL_MOST" = some (some (.int 12 t_LABEL_MOST)))
    (v_TEXT_MOST : PySem.W.nsIn K mainGlobals "TEXT_MOST" = some (some (.int 65535 t_TEXT_MOST)))
    (hkd : kdIn K = true)
    (aO : PySem.W.nsIn K mainGlobals "OpenError" = some (some (.ref O)))
    (cg : PySem.W.specialIn K (.builtin "object.__class__") "__get__" = some (some (.builtin "getset_descriptor.__get__"))) (ctk : PySem.W.takesIn K (.builtin "object.__class__") = some true)
    {C_BadForm fI_BadForm : Addr} {nm_BadForm qq_BadForm : Str} {N_BadForm : Addr} {bs_BadForm : List Value} {sn_BadForm : List Str} {sub_BadForm : List Value} {ab_BadForm : Bool} {col_BadForm : Option Bool} {dd_BadForm : Option Addr} {m0_BadForm m1_BadForm m2_BadForm m3_BadForm m5_BadForm : Option Value} {od_BadForm an_BadForm : Option Addr} {sl_BadForm : Array (Option Value)} {oc_BadForm kV_BadForm dc_BadForm pm_BadForm cd_BadForm ct_BadForm : Value}
    (aC_BadForm : PySem.W.nsIn K mainGlobals "BadForm" = some (some (.ref C_BadForm)))
    (xL_BadForm : K.lookup C_BadForm = some (excClassObj nm_BadForm qq_BadForm C_BadForm N_BadForm bs_BadForm [.ref O, .type "ValueError", .type "Exception", .type "BaseException", .type "object"] true sn_BadForm sub_BadForm ab_BadForm col_BadForm dd_BadForm m0_BadForm m1_BadForm m2_BadForm m3_BadForm m5_BadForm "ValueError.__new__"))
    (sa_BadForm : PySem.W.findIn K (.ref C_BadForm) "__setattr__" = some (some (.builtin "object.__setattr__"))) (na_BadForm : PySem.W.findIn K (.ref C_BadForm) "at" = some none)
    (aI_BadForm : PySem.W.findIn K (.ref C_BadForm) "__init__" = some (some (.ref fI_BadForm))) (tI_BadForm : PySem.W.typeIn K (.ref fI_BadForm) = some (.type "function"))
    (lI_BadForm : K.lookup fI_BadForm = some ⟨oc_BadForm, od_BadForm, .func (PySem.W.fnOf "__init__" "BadForm.__init__" (defArgs (inClass c_BadForm 0)) (defBody (inClass c_BadForm 0)) (defScope (inClass c_BadForm 0)) .none kV_BadForm dc_BadForm pm_BadForm an_BadForm cd_BadForm ct_BadForm), sl_BadForm⟩) (cI_BadForm : PySem.W.codeIn K cd_BadForm "BadForm.__init__" = true) (kI_BadForm : PySem.W.keepIn K (.ref fI_BadForm) = true)
    (kC_BadForm : PySem.W.keepIn K (.ref C_BadForm) = true) (eC_BadForm : PySem.W.subIn K (.ref C_BadForm) (.type "BaseException") = some true) (tC_BadForm : PySem.W.typeIn K (.ref C_BadForm) = some (.type "type")) (iC_BadForm : PySem.W.isClsIn K C_BadForm = true) (sC_BadForm : PySem.W.subIn K (.ref C_BadForm) (.ref C_BadForm) = some true)
    (ga_BadForm : PySem.W.findIn K (.ref C_BadForm) "__getattribute__" = some (some (.builtin "BaseException.__getattribute__"))) (gg_BadForm : PySem.W.findIn K (.ref C_BadForm) "__getattr__" = some none) (hd_BadForm : PySem.W.hasDictIn K C_BadForm = true)
    (ca_BadForm : PySem.W.findIn K (.ref C_BadForm) "__class__" = some (some (.builtin "object.__class__"))) (mo_BadForm : PySem.W.mroIn K C_BadForm (.type "object") = some true) (op_BadForm : PySem.W.kitOne K (.ref C_BadForm) (.ref O) = some true)
    {C_BadStream fI_BadStream : Addr} {nm_BadStream qq_BadStream : Str} {N_BadStream : Addr} {bs_BadStream : List Value} {sn_BadStream : List Str} {sub_BadStream : List Value} {ab_BadStream : Bool} {col_BadStream : Option Bool} {dd_BadStream : Option Addr} {m0_BadStream m1_BadStream m2_BadStream m3_BadStream m5_BadStream : Option Value} {od_BadStream an_BadStream : Option Addr} {sl_BadStream : Array (Option Value)} {oc_BadStream kV_BadStream dc_BadStream pm_BadStream cd_BadStream ct_BadStream : Value}
    (aC_BadStream : PySem.W.nsIn K mainGlobals "BadStream" = some (some (.ref C_BadStream)))
    (xL_BadStream : K.lookup C_BadStream = some (excClassObj nm_BadStream qq_BadStream C_BadStream N_BadStream bs_BadStream [.ref O, .type "ValueError", .type "Exception", .type "BaseException", .type "object"] true sn_BadStream sub_BadStream ab_BadStream col_BadStream dd_BadStream m0_BadStream m1_BadStream m2_BadStream m3_BadStream m5_BadStream "ValueError.__new__"))
    (sa_BadStream : PySem.W.findIn K (.ref C_BadStream) "__setattr__" = some (some (.builtin "object.__setattr__"))) (na_BadStream : PySem.W.findIn K (.ref C_BadStream) "at" = some none)
    (aI_BadStream : PySem.W.findIn K (.ref C_BadStream) "__init__" = some (some (.ref fI_BadStream))) (tI_BadStream : PySem.W.typeIn K (.ref fI_BadStream) = some (.type "function"))
    (lI_BadStream : K.lookup fI_BadStream = some ⟨oc_BadStream, od_BadStream, .func (PySem.W.fnOf "__init__" "BadStream.__init__" (defArgs (inClass c_BadStream 0)) (defBody (inClass c_BadStream 0)) (defScope (inClass c_BadStream 0)) .none kV_BadStream dc_BadStream pm_BadStream an_BadStream cd_BadStream ct_BadStream), sl_BadStream⟩) (cI_BadStream : PySem.W.codeIn K cd_BadStream "BadStream.__init__" = true) (kI_BadStream : PySem.W.keepIn K (.ref fI_BadStream) = true)
    (kC_BadStream : PySem.W.keepIn K (.ref C_BadStream) = true) (eC_BadStream : PySem.W.subIn K (.ref C_BadStream) (.type "BaseException") = some true) (tC_BadStream : PySem.W.typeIn K (.ref C_BadStream) = some (.type "type")) (iC_BadStream : PySem.W.isClsIn K C_BadStream = true) (sC_BadStream : PySem.W.subIn K (.ref C_BadStream) (.ref C_BadStream) = some true)
    (ga_BadStream : PySem.W.findIn K (.ref C_BadStream) "__getattribute__" = some (some (.builtin "BaseException.__getattribute__"))) (gg_BadStream : PySem.W.findIn K (.ref C_BadStream) "__getattr__" = some none) (hd_BadStream : PySem.W.hasDictIn K C_BadStream = true)
    (ca_BadStream : PySem.W.findIn K (.ref C_BadStream) "__class__" = some (some (.builtin "object.__class__"))) (mo_BadStream : PySem.W.mroIn K C_BadStream (.type "object") = some true) (op_BadStream : PySem.W.kitOne K (.ref C_BadStream) (.ref O) = some true)
    {C_BadText fI_BadText : Addr} {nm_BadText qq_BadText : Str} {N_BadText : Addr} {bs_BadText : List Value} {sn_BadText : List Str} {sub_BadText : List Value} {ab_BadText : Bool} {col_BadText : Option Bool} {dd_BadText : Option Addr} {m0_BadText m1_BadText m2_BadText m3_BadText m5_BadText : Option Value} {od_BadText an_BadText : Option Addr} {sl_BadText : Array (Option Value)} {oc_BadText kV_BadText dc_BadText pm_BadText cd_BadText ct_BadText : Value}
    (aC_BadText : PySem.W.nsIn K mainGlobals "BadText" = some (some (.ref C_BadText)))
    (xL_BadText : K.lookup C_BadText = some (excClassObj nm_BadText qq_BadText C_BadText N_BadText bs_BadText [.ref O, .type "ValueError", .type "Exception", .type "BaseException", .type "object"] true sn_BadText sub_BadText ab_BadText col_BadText dd_BadText m0_BadText m1_BadText m2_BadText m3_BadText m5_BadText "ValueError.__new__"))
    (sa_BadText : PySem.W.findIn K (.ref C_BadText) "__setattr__" = some (some (.builtin "object.__setattr__"))) (na_BadText : PySem.W.findIn K (.ref C_BadText) "at" = some none)
    (aI_BadText : PySem.W.findIn K (.ref C_BadText) "__init__" = some (some (.ref fI_BadText))) (tI_BadText : PySem.W.typeIn K (.ref fI_BadText) = some (.type "function"))
    (lI_BadText : K.lookup fI_BadText = some ⟨oc_BadText, od_BadText, .func (PySem.W.fnOf "__init__" "BadText.__init__" (defArgs (inClass c_BadText 0)) (defBody (inClass c_BadText 0)) (defScope (inClass c_BadText 0)) .none kV_BadText dc_BadText pm_BadText an_BadText cd_BadText ct_BadText), sl_BadText⟩) (cI_BadText : PySem.W.codeIn K cd_BadText "BadText.__init__" = true) (kI_BadText : PySem.W.keepIn K (.ref fI_BadText) = true)
    (kC_BadText : PySem.W.keepIn K (.ref C_BadText) = true) (eC_BadText : PySem.W.subIn K (.ref C_BadText) (.type "BaseException") = some true) (tC_BadText : PySem.W.typeIn K (.ref C_BadText) = some (.type "type")) (iC_BadText : PySem.W.isClsIn K C_BadText = true) (sC_BadText : PySem.W.subIn K (.ref C_BadText) (.ref C_BadText) = some true)
    (ga_BadText : PySem.W.findIn K (.ref C_BadText) "__getattribute__" = some (some (.builtin "BaseException.__getattribute__"))) (gg_BadText : PySem.W.findIn K (.ref C_BadText) "__getattr__" = some none) (hd_BadText : PySem.W.hasDictIn K C_BadText = true)
    (ca_BadText : PySem.W.findIn K (.ref C_BadText) "__class__" = some (some (.builtin "object.__class__"))) (mo_BadText : PySem.W.mroIn K C_BadText (.type "object") = some true) (op_BadText : PySem.W.kitOne K (.ref C_BadText) (.ref O) = some true)
    (ns_BadStream_BadForm : PySem.W.subIn K (.ref C_BadStream) (.ref C_BadForm) = some false)
    (ns_BadText_BadForm : PySem.W.subIn K (.ref C_BadText) (.ref C_BadForm) = some false)
    (ns_BadText_BadStream : PySem.W.subIn K (.ref C_BadText) (.ref C_BadStream) = some false) :
    Known Pg w K mg fa := by
  have e := hfa.symm.trans (PySem.W.mg_of X G a40)
  cases e
  have T : Lw.Tz K mg := ⟨kd_of hkd, PySem.W.mg_none_of X G z_abs, PySem.W.mg_none_of X G z_all, PySem.W.mg_none_of X G z_enumerate, PySem.W.mg_none_of X G z_int, PySem.W.mg_none_of X G z_isinstance, PySem.W.mg_none_of X G z_len, PySem.W.mg_none_of X G z_list, PySem.W.mg_none_of X G z_max, PySem.W.mg_none_of X G z_min, PySem.W.mg_none_of X G z_range, PySem.W.mg_none_of X G z_repr, PySem.W.mg_none_of X G z_reversed, PySem.W.mg_none_of X G z_str, PySem.W.mg_none_of X G z_tuple, ⟨t_LETTERS, PySem.W.mg_of X G v_LETTERS⟩, ⟨t_LABEL_MOST, PySem.W.mg_of X G v_LABEL_MOST⟩, ⟨t_TEXT_MOST, PySem.W.mg_of X G v_TEXT_MOST⟩⟩
  have FI_BadForm := fun_mk (st := inClass c_BadForm 0) lI_BadForm cI_BadForm kI_BadForm
  have bI_BadForm := FI_BadForm.binds (ps := ["self", "at"]) fun _ _ _ _ _ _ us hl => match us, hl with | [_, _], _ => rfl
  have B_BadForm : Er K mg "BadForm" "BadForm.__init__" "at" c_BadForm C_BadForm fI_BadForm _ := ⟨⟨⟨nm_BadForm, qq_BadForm, N_BadForm, bs_BadForm, _, sn_BadForm, sub_BadForm, ab_BadForm, col_BadForm, dd_BadForm, m0_BadForm, m1_BadForm, m2_BadForm, m3_BadForm, m5_BadForm, xL_BadForm, by rfl⟩, sa_BadForm, eC_BadForm, tC_BadForm, kC_BadForm⟩, na_BadForm, aI_BadForm, tI_BadForm, FI_BadForm, bI_BadForm, PySem.W.mg_of X G aC_BadForm, exm_self eC_BadForm iC_BadForm tC_BadForm sC_BadForm⟩
  have E_BadForm : ErC K mg "BadForm" "at" C_BadForm := ⟨⟨ga_BadForm, gg_BadForm, eC_BadForm, hd_BadForm⟩, ⟨iC_BadForm, ga_BadForm, gg_BadForm, eC_BadForm, ca_BadForm, cg, ctk, mo_BadForm⟩, na_BadForm, exm_self eC_BadForm iC_BadForm tC_BadForm sC_BadForm, PySem.W.mg_of X G aC_BadForm⟩
  have FI_BadStream := fun_mk (st := inClass c_BadStream 0) lI_BadStream cI_BadStream kI_BadStream
  have bI_BadStream := FI_BadStream.binds (ps := ["self", "at"]) fun _ _ _ _ _ _ us hl => match us, hl with | [_, _], _ => rfl
  have B_BadStream : Er K mg "BadStream" "BadStream.__init__" "at" c_BadStream C_BadStream fI_BadStream _ := ⟨⟨⟨nm_BadStream, qq_BadStream, N_BadStream, bs_BadStream, _, sn_BadStream, sub_BadStream, ab_BadStream, col_BadStream, dd_BadStream, m0_BadStream, m1_BadStream, m2_BadStream, m3_BadStream, m5_BadStream, xL_BadStream, by rfl⟩, sa_BadStream, eC_BadStream, tC_BadStream, kC_BadStream⟩, na_BadStream, aI_BadStream, tI_BadStream, FI_BadStream, bI_BadStream, PySem.W.mg_of X G aC_BadStream, exm_self eC_BadStream iC_BadStream tC_BadStream sC_BadStream⟩
  have E_BadStream : ErC K mg "BadStream" "at" C_BadStream := ⟨⟨ga_BadStream, gg_BadStream, eC_BadStream, hd_BadStream⟩, ⟨iC_BadStream, ga_BadStream, gg_BadStream, eC_BadStream, ca_BadStream, cg, ctk, mo_BadStream⟩, na_BadStream, exm_self eC_BadStream iC_BadStream tC_BadStream sC_BadStream, PySem.W.mg_of X G aC_BadStream⟩
  have FI_BadText := fun_mk (st := inClass c_BadText 0) lI_BadText cI_BadText kI_BadText
  have bI_BadText := FI_BadText.binds (ps := ["self", "at"]) fun _ _ _ _ _ _ us hl => match us, hl with | [_, _], _ => rfl
  have B_BadText : Er K mg "BadText" "BadText.__init__" "at" c_BadText C_BadText fI_BadText _ := ⟨⟨⟨nm_BadText, qq_BadText, N_BadText, bs_BadText, _, sn_BadText, sub_BadText, ab_BadText, col_BadText, dd_BadText, m0_BadText, m1_BadText, m2_BadText, m3_BadText, m5_BadText, xL_BadText, by rfl⟩, sa_BadText, eC_BadText, tC_BadText, kC_BadText⟩, na_BadText, aI_BadText, tI_BadText, FI_BadText, bI_BadText, PySem.W.mg_of X G aC_BadText, exm_self eC_BadText iC_BadText tC_BadText sC_BadText⟩
  have E_BadText : ErC K mg "BadText" "at" C_BadText := ⟨⟨ga_BadText, gg_BadText, eC_BadText, hd_BadText⟩, ⟨iC_BadText, ga_BadText, gg_BadText, eC_BadText, ca_BadText, cg, ctk, mo_BadText⟩, na_BadText, exm_self eC_BadText iC_BadText tC_BadText sC_BadText, PySem.W.mg_of X G aC_BadText⟩
  have x_BadStream_BadForm := exm_no eC_BadForm iC_BadForm tC_BadForm ns_BadStream_BadForm
  have x_BadText_BadForm := exm_no eC_BadForm iC_BadForm tC_BadForm ns_BadText_BadForm
  have x_BadText_BadStream := exm_no eC_BadStream iC_BadStream tC_BadStream ns_BadText_BadStream
  have F1 := fun_mk (st := s_is_sequence) l1 c1 k1
  have b1 := F1.binds (ps := ["value"]) fun _ _ _ _ _ _ us hl => match us, hl with | [_], _ => rfl
  have D1 : Df K mg "is_sequence" s_is_sequence ["value"] f1 _ := ⟨F1, PySem.W.mg_of X G a1, b1⟩
  have F2 := fun_mk (st := s_is_row_of) l2 c2 k2
  have b2 := F2.binds (ps := ["value", "many"]) fun _ _ _ _ _ _ us hl => match us, hl with | [_, _], _ => rfl
  have D2 : Df K mg "is_row_of" s_is_row_of ["value", "many"] f2 _ := ⟨F2, PySem.W.mg_of X G a2, b2⟩
  have F3 := fun_mk (st := s_is_text) l3 c3 k3
  have b3 := F3.binds (ps := ["value"]) fun _ _ _ _ _ _ us hl => match us, hl with | [_], _ => rfl
  have D3 : Df K mg "is_text" s_is_text ["value"] f3 _ := ⟨F3, PySem.W.mg_of X G a3, b3⟩
  have F4 := fun_mk (st := s_is_label) l4 c4 k4
  have b4 := F4.binds (ps := ["value"]) fun _ _ _ _ _ _ us hl => match us, hl with | [_], _ => rfl
  have D4 : Df K mg "is_label" s_is_label ["value"] f4 _ := ⟨F4, PySem.W.mg_of X G a4, b4⟩
  have DC4 : DfC K mg "is_label" s_is_label ["value"] f4 _ q4 := ⟨⟨oc4, od4, kV4, dc4, pm4, an4, ct4, sl4, rfl, l4, c4⟩, k4, PySem.W.mg_of X G a4, b4⟩
  have F5 := fun_mk (st := s_sign_fault) l5 c5 k5
  have b5 := F5.binds (ps := ["value"]) fun _ _ _ _ _ _ us hl => match us, hl with | [_], _ => rfl
  have D5 : Df K mg "_sign_fault" s_sign_fault ["value"] f5 _ := ⟨F5, PySem.W.mg_of X G a5, b5⟩
  have F6 := fun_mk (st := s_is_sign) l6 c6 k6
  have b6 := F6.binds (ps := ["value"]) fun _ _ _ _ _ _ us hl => match us, hl with | [_], _ => rfl
  have D6 : Df K mg "is_sign" s_is_sign ["value"] f6 _ := ⟨F6, PySem.W.mg_of X G a6, b6⟩
  have F7 := fun_mk (st := s_is_text_node) l7 c7 k7
  have b7 := F7.binds (ps := ["value"]) fun _ _ _ _ _ _ us hl => match us, hl with | [_], _ => rfl
  have D7 : Df K mg "_is_text_node" s_is_text_node ["value"] f7 _ := ⟨F7, PySem.W.mg_of X G a7, b7⟩
  have F8 := fun_mk (st := s_is_element_node) l8 c8 k8
  have b8 := F8.binds (ps := ["value"]) fun _ _ _ _ _ _ us hl => match us, hl with | [_], _ => rfl
  have D8 : Df K mg "_is_element_node" s_is_element_node ["value"] f8 _ := ⟨F8, PySem.W.mg_of X G a8, b8⟩
  have F9 := fun_mk (st := s_signs_of) l9 c9 k9
  have b9 := F9.binds (ps := ["document"]) fun _ _ _ _ _ _ us hl => match us, hl with | [_], _ => rfl
  have D9 : Df K mg "signs_of" s_signs_of ["document"] f9 _ := ⟨F9, PySem.W.mg_of X G a9, b9⟩
  have F10 := fun_mk (st := s_law_box) l10 c10 k10
  have b10 := F10.binds (ps := ["script", "k"]) fun _ _ _ _ _ _ us hl => match us, hl with | [_, _], _ => rfl
  have D10 : Df K mg "_law_box" s_law_box ["script", "k"] f10 _ := ⟨F10, PySem.W.mg_of X G a10, b10⟩
  have F11 := fun_mk (st := s_law_take) l11 c11 k11
  have b11 := F11.binds (ps := ["box", "many"]) fun _ _ _ _ _ _ us hl => match us, hl with | [_, _], _ => rfl
  have D11 : Df K mg "_law_take" s_law_take ["box", "many"] f11 _ := ⟨F11, PySem.W.mg_of X G a11, b11⟩
  have F12 := fun_mk (st := s_law_pick) l12 c12 k12
  have b12 := F12.binds (ps := ["box", "some"]) fun _ _ _ _ _ _ us hl => match us, hl with | [_, _], _ => rfl
  have D12 : Df K mg "_law_pick" s_law_pick ["box", "some"] f12 _ := ⟨F12, PySem.W.mg_of X G a12, b12⟩
  have F13 := fun_mk (st := s_law_text) l13 c13 k13
  have b13 := F13.binds (ps := ["box"]) fun _ _ _ _ _ _ us hl => match us, hl with | [_], _ => rfl
  have D13 : Df K mg "_law_text" s_law_text ["box"] f13 _ := ⟨F13, PySem.W.mg_of X G a13, b13⟩
  have F14 := fun_mk (st := s_step_of) l14 c14 k14
  have b14 := F14.binds (ps := ["sign"]) fun _ _ _ _ _ _ us hl => match us, hl with | [_], _ => rfl
  have D14 : Df K mg "_step_of" s_step_of ["sign"] f14 _ := ⟨F14, PySem.W.mg_of X G a14, b14⟩
  have F15 := fun_mk (st := s_read_levels) l15 c15 k15
  have b15 := F15.binds (ps := ["value", "ahead"]) fun _ _ _ _ _ _ us hl => match us, hl with | [_, _], _ => rfl
  have D15 : Df K mg "read_levels" s_read_levels ["value", "ahead"] f15 _ := ⟨F15, PySem.W.mg_of X G a15, b15⟩
  have F16 := fun_mk (st := s_read_whole) l16 c16 k16
  have b16 := F16.binds (ps := ["value", "ahead"]) fun _ _ _ _ _ _ us hl => match us, hl with | [_, _], _ => rfl
  have D16 : Df K mg "_read_whole" s_read_whole ["value", "ahead"] f16 _ := ⟨F16, PySem.W.mg_of X G a16, b16⟩
  have F17 := fun_mk (st := s_check_prefix) l17 c17 k17
  have b17 := F17.binds (ps := ["value"]) fun _ _ _ _ _ _ us hl => match us, hl with | [_], _ => rfl
  have D17 : Df K mg "check_prefix" s_check_prefix ["value"] f17 _ := ⟨F17, PySem.W.mg_of X G a17, b17⟩
  have F18 := fun_mk (st := s_check_stream) l18 c18 k18
  have b18 := F18.binds (ps := ["value"]) fun _ _ _ _ _ _ us hl => match us, hl with | [_], _ => rfl
  have D18 : Df K mg "check_stream" s_check_stream ["value"] f18 _ := ⟨F18, PySem.W.mg_of X G a18, b18⟩
  have F19 := fun_mk (st := s_nodes_of) l19 c19 k19
  have b19 := F19.binds (ps := ["signs"]) fun _ _ _ _ _ _ us hl => match us, hl with | [_], _ => rfl
  have D19 : Df K mg "_nodes_of" s_nodes_of ["signs"] f19 _ := ⟨F19, PySem.W.mg_of X G a19, b19⟩
  have F20 := fun_mk (st := s_document_of) l20 c20 k20
  have b20 := F20.binds (ps := ["stream"]) fun _ _ _ _ _ _ us hl => match us, hl with | [_], _ => rfl
  have D20 : Df K mg "document_of" s_document_of ["stream"] f20 _ := ⟨F20, PySem.W.mg_of X G a20, b20⟩
  have F21 := fun_mk (st := s_law_document) l21 c21 k21
  have b21 := F21.binds (ps := ["box", "depth"]) fun _ _ _ _ _ _ us hl => match us, hl with | [_, _], _ => rfl
  have D21 : Df K mg "_law_document" s_law_document ["box", "depth"] f21 _ := ⟨F21, PySem.W.mg_of X G a21, b21⟩
  have F22 := fun_mk (st := s_law_signs) l22 c22 k22
  have b22 := F22.binds (ps := ["document"]) fun _ _ _ _ _ _ us hl => match us, hl with | [_], _ => rfl
  have D22 : Df K mg "_law_signs" s_law_signs ["document"] f22 _ := ⟨F22, PySem.W.mg_of X G a22, b22⟩
  have F23 := fun_mk (st := s_behind_letters) l23 c23 k23
  have b23 := F23.binds (ps := ["text", "first"]) fun _ _ _ _ _ _ us hl => match us, hl with | [_, _], _ => rfl
  have D23 : Df K mg "behind_letters" s_behind_letters ["text", "first"] f23 _ := ⟨F23, PySem.W.mg_of X G a23, b23⟩
  have F24 := fun_mk (st := s_quoted) l24 c24 k24
  have b24 := F24.binds (ps := ["text"]) fun _ _ _ _ _ _ us hl => match us, hl with | [_], _ => rfl
  have D24 : Df K mg "_quoted" s_quoted ["text"] f24 _ := ⟨F24, PySem.W.mg_of X G a24, b24⟩
  have F25 := fun_mk (st := s_marked) l25 c25 k25
  have b25 := F25.binds (ps := ["signs"]) fun _ _ _ _ _ _ us hl => match us, hl with | [_], _ => rfl
  have D25 : Df K mg "_marked" s_marked ["signs"] f25 _ := ⟨F25, PySem.W.mg_of X G a25, b25⟩
  have F26 := fun_mk (st := s_markup) l26 c26 k26
  have b26 := F26.binds (ps := ["prefix"]) fun _ _ _ _ _ _ us hl => match us, hl with | [_], _ => rfl
  have D26 : Df K mg "markup" s_markup ["prefix"] f26 _ := ⟨F26, PySem.W.mg_of X G a26, b26⟩
  have F27 := fun_mk (st := s_markup_of) l27 c27 k27
  have b27 := F27.binds (ps := ["document"]) fun _ _ _ _ _ _ us hl => match us, hl with | [_], _ => rfl
  have D27 : Df K mg "markup_of" s_markup_of ["document"] f27 _ := ⟨F27, PySem.W.mg_of X G a27, b27⟩
  have F28 := fun_mk (st := s_read_text) l28 c28 k28
  have b28 := F28.binds (ps := ["text", "first"]) fun _ _ _ _ _ _ us hl => match us, hl with | [_, _], _ => rfl
  have D28 : Df K mg "_read_text" s_read_text ["text", "first"] f28 _ := ⟨F28, PySem.W.mg_of X G a28, b28⟩
  have F29 := fun_mk (st := s_read_opening) l29 c29 k29
  have b29 := F29.binds (ps := ["text", "first"]) fun _ _ _ _ _ _ us hl => match us, hl with | [_, _], _ => rfl
  have D29 : Df K mg "_read_opening" s_read_opening ["text", "first"] f29 _ := ⟨F29, PySem.W.mg_of X G a29, b29⟩
  have F30 := fun_mk (st := s_read_closing) l30 c30 k30
  have b30 := F30.binds (ps := ["text", "first", "label"]) fun _ _ _ _ _ _ us hl => match us, hl with | [_, _, _], _ => rfl
  have D30 : Df K mg "_read_closing" s_read_closing ["text", "first", "label"] f30 _ := ⟨F30, PySem.W.mg_of X G a30, b30⟩
  have F31 := fun_mk (st := s_read_sign) l31 c31 k31
  have b31 := F31.binds (ps := ["text", "at", "labels"]) fun _ _ _ _ _ _ us hl => match us, hl with | [_, _, _], _ => rfl
  have D31 : Df K mg "_read_sign" s_read_sign ["text", "at", "labels"] f31 _ := ⟨F31, PySem.W.mg_of X G a31, b31⟩
  have F32 := fun_mk (st := s_markup_behind) l32 c32 k32
  have b32 := F32.binds (ps := ["text", "outer"]) fun _ _ _ _ _ _ us hl => match us, hl with | [_, _], _ => rfl
  have D32 : Df K mg "markup_behind" s_markup_behind ["text", "outer"] f32 _ := ⟨F32, PySem.W.mg_of X G a32, b32⟩
  have F33 := fun_mk (st := s_read_markup) l33 c33 k33
  have b33 := F33.binds (ps := ["text"]) fun _ _ _ _ _ _ us hl => match us, hl with | [_], _ => rfl
  have D33 : Df K mg "read_markup" s_read_markup ["text"] f33 _ := ⟨F33, PySem.W.mg_of X G a33, b33⟩
  have F34 := fun_mk (st := s_from_text) l34 c34 k34
  have b34 := F34.binds (ps := ["text"]) fun _ _ _ _ _ _ us hl => match us, hl with | [_], _ => rfl
  have D34 : Df K mg "from_text" s_from_text ["text"] f34 _ := ⟨F34, PySem.W.mg_of X G a34, b34⟩
  have F35 := fun_mk (st := s_law_heard) l35 c35 k35
  have b35 := F35.binds (ps := ["ask"]) fun _ _ _ _ _ _ us hl => match us, hl with | [_], _ => rfl
  have D35 : Df K mg "_law_heard" s_law_heard ["ask"] f35 _ := ⟨F35, PySem.W.mg_of X G a35, b35⟩
  have F36 := fun_mk (st := s_law_quoted) l36 c36 k36
  have b36 := F36.binds (ps := ["text"]) fun _ _ _ _ _ _ us hl => match us, hl with | [_], _ => rfl
  have D36 : Df K mg "_law_quoted" s_law_quoted ["text"] f36 _ := ⟨F36, PySem.W.mg_of X G a36, b36⟩
  have F37 := fun_mk (st := s_law_markup) l37 c37 k37
  have b37 := F37.binds (ps := ["prefix"]) fun _ _ _ _ _ _ us hl => match us, hl with | [_], _ => rfl
  have D37 : Df K mg "_law_markup" s_law_markup ["prefix"] f37 _ := ⟨F37, PySem.W.mg_of X G a37, b37⟩
  have F38 := fun_mk (st := s_law_read) l38 c38 k38
  have b38 := F38.binds (ps := ["text"]) fun _ _ _ _ _ _ us hl => match us, hl with | [_], _ => rfl
  have D38 : Df K mg "_law_read" s_law_read ["text"] f38 _ := ⟨F38, PySem.W.mg_of X G a38, b38⟩
  have F39 := fun_mk (st := s_law_text_right) l39 c39 k39
  have b39 := F39.binds (ps := ["text"]) fun _ _ _ _ _ _ us hl => match us, hl with | [_], _ => rfl
  have D39 : Df K mg "_law_text_right" s_law_text_right ["text"] f39 _ := ⟨F39, PySem.W.mg_of X G a39, b39⟩
  have DC39 : DfC K mg "_law_text_right" s_law_text_right ["text"] f39 _ q39 := ⟨⟨oc39, od39, kV39, dc39, pm39, an39, ct39, sl39, rfl, l39, c39⟩, k39, PySem.W.mg_of X G a39, b39⟩
  have F40 := fun_mk (st := s_law) l40 c40 k40
  have b40 := F40.binds (ps := ["script"]) fun _ _ _ _ _ _ us hl => match us, hl with | [_], _ => rfl
  have D40 : Df K mg "law" s_law ["script"] fa _ := ⟨F40, PySem.W.mg_of X G a40, b40⟩
  have DC40 : DfC K mg "law" s_law ["script"] fa _ q40 := ⟨⟨oc40, od40, kV40, dc40, pm40, an40, ct40, sl40, rfl, l40, c40⟩, k40, PySem.W.mg_of X G a40, b40⟩
  refine ⟨q4, P4, q39, P39, q40, P40, PySem.W.fnOf "law" "law" (defArgs s_law) (defBody s_law) (defScope s_law) .none kV40 dc40 pm40 an40 (.ref q40) ct40, tab_mk a4 l4 rfl lc4 hp4, nT4, tab_mk a39 l39 rfl lc39 hp39, nT39, tab_mk a40 l40 rfl lc40 hp40, nT40, fun s u => .of_eq rfl, fun base _ _ TB4 TB39 TB40 => ?_⟩
  obtain ⟨L, eL⟩ : ∃ L : List NdefX.NTab, L = [(P39, fun _ _ => ("_law_text_right" : Str) ++ ".<locals>." ++ "<lambda>"), (P40, fun _ _ => ("law" : Str) ++ ".<locals>." ++ "<lambda>")] := ⟨_, rfl⟩
  obtain ⟨Z, eZ⟩ : ∃ Z : Zw, Z = ⟨⟨P4, L, fun _ => none, fun _ => "at"⟩, K, Pg, w, mg, base⟩ := ⟨_, rfl⟩
  have hst : ∀ s, Z.T.st s = none := by rw [eZ]; exact fun _ => rfl
  have ap : Apt Z.T := by
    rw [eZ, eL]
    intro p hp
    simp only [List.mem_cons, List.not_mem_nil, or_false] at hp
    rcases hp with rfl | rfl
    · exact Ne.symm d4x39
    · exact Ne.symm d4x40
  have m39 : (P39, fun _ _ => ("_law_text_right" : Str) ++ ".<locals>." ++ "<lambda>") ∈ Z.T.L := by rw [eZ, eL]; simp
  have w39 : ∀ p ∈ Z.T.L, p.1 = P39 → p.2 = fun _ _ => ("_law_text_right" : Str) ++ ".<locals>." ++ "<lambda>" := by
    rw [eZ, eL]
    intro p hp e
    simp only [List.mem_cons, List.not_mem_nil, or_false] at hp
    rcases hp with rfl | rfl
    · rfl
    · exact absurd e (Ne.symm d39x40)
  have n39 : P39 ≠ Z.T.P := by rw [eZ]; exact Ne.symm d4x39
  have m40 : (P40, fun _ _ => ("law" : Str) ++ ".<locals>." ++ "<lambda>") ∈ Z.T.L := by rw [eZ, eL]; simp
  have w40 : ∀ p ∈ Z.T.L, p.1 = P40 → p.2 = fun _ _ => ("law" : Str) ++ ".<locals>." ++ "<lambda>" := by
    rw [eZ, eL]
    intro p hp e
    simp only [List.mem_cons, List.not_mem_nil, or_false] at hp
    rcases hp with rfl | rfl
    · exact absurd e d39x40
    · rfl
  have n40 : P40 ≠ Z.T.P := by rw [eZ]; exact Ne.symm d4x40
  have eK : K = Z.K := by rw [eZ]
  have eM : mg = Z.mg := by rw [eZ]
  have eB : base = Z.base := by rw [eZ]
  have ePg : Pg = Z.Pg := by rw [eZ]
  have ew : w = Z.w := by rw [eZ]
  have eP : spLawS K (P4 :: L.map (·.1)) = spLawS Z.K (Z.T.P :: Z.T.L.map (·.1)) := by rw [eZ]
  have A_BadForm : Z.T.an C_BadForm = "at" := by rw [eZ]
  have A_BadStream : Z.T.an C_BadStream = "at" := by rw [eZ]
  have A_BadText : Z.T.an C_BadText = "at" := by rw [eZ]
  have tz : Z.T.P = P4 := by rw [eZ]
  rw [show tabL P39 P40 = L.map (·.1) from by rw [eL]; rfl]
  subst eK
  subst eM
  subst eB
  subst ePg
  subst ew
  rw [eP]
  have I_BadForm := ok_ini_BadForm (Z := Z) B_BadForm
  have I_BadStream := ok_ini_BadStream (Z := Z) B_BadStream
  have I_BadText := ok_ini_BadText (Z := Z) B_BadText
  have G_is_sequence := ok_is_sequence (Z := Z) (F := F1) (T := T)
  have G_is_row_of := ok_is_row_of (Z := Z) (F := F2) (T := T) (D_is_sequence := D1) (G_is_sequence := G_is_sequence)
  have G_is_text := ok_is_text (Z := Z) (F := F3) (T := T)
  have G_is_label := ok_is_label (Z := Z) (F := DC4) (T := T) (TB := tz ▸ TB4) (ap := ap)
  have G_sign_fault := ok_sign_fault (Z := Z) (F := F5) (T := T) (D_is_sequence := D1) (G_is_sequence := G_is_sequence) (D_is_label := D4) (G_is_label := G_is_label) (D_is_text := D3) (G_is_text := G_is_text)
  have G_is_sign := ok_is_sign (Z := Z) (F := F6) (T := T) (D_sign_fault := D5) (G_sign_fault := G_sign_fault)
  have G_is_text_node := ok_is_text_node (Z := Z) (F := F7) (T := T) (D_is_row_of := D2) (G_is_row_of := G_is_row_of) (D_is_text := D3) (G_is_text := G_is_text.mono (by decide))
  have G_is_element_node := ok_is_element_node (Z := Z) (F := F8) (T := T) (D_is_row_of := D2) (G_is_row_of := G_is_row_of) (D_is_label := D4) (G_is_label := G_is_label.mono (by decide)) (D_is_sequence := D1) (G_is_sequence := G_is_sequence.mono (by decide))
  have G_signs_of := ok_signs_of (Z := Z) (F := F9) (T := T) (D_is_sequence := D1) (G_is_sequence := G_is_sequence.mono (by decide)) (D_is_text_node := D7) (G_is_text_node := G_is_text_node) (D_is_element_node := D8) (G_is_element_node := G_is_element_node) (A_BadForm := A_BadForm) (B_BadForm := B_BadForm) (I_BadForm := I_BadForm.mono (by decide))
  have G_law_box := ok_law_box (Z := Z) (F := F10) (T := T)
  have G_law_take := ok_law_take (Z := Z) (F := F11) (T := T)
  have G_law_pick := ok_law_pick (Z := Z) (F := F12) (T := T) (D_law_take := D11) (G_law_take := G_law_take)
  have G_law_text := ok_law_text (Z := Z) (F := F13) (T := T) (D_law_take := D11) (G_law_take := G_law_take.mono (by decide)) (D_law_pick := D12) (G_law_pick := G_law_pick)
  have G_step_of := ok_step_of (Z := Z) (F := F14) (T := T)
  have G_read_levels := ok_read_levels (Z := Z) (F := F15) (T := T) (D_is_sequence := D1) (G_is_sequence := G_is_sequence.mono (by decide)) (D_is_sign := D6) (G_is_sign := G_is_sign) (D_step_of := D14) (G_step_of := G_step_of.mono (by decide)) (A_BadStream := A_BadStream) (B_BadStream := B_BadStream) (I_BadStream := I_BadStream.mono (by decide))
  have G_read_whole := ok_read_whole (Z := Z) (F := F16) (T := T) (D_read_levels := D15) (G_read_levels := G_read_levels) (A_BadStream := A_BadStream) (B_BadStream := B_BadStream) (I_BadStream := I_BadStream.mono (by decide))
  have G_check_prefix := ok_check_prefix (Z := Z) (F := F17) (T := T) (D_read_levels := D15) (G_read_levels := G_read_levels)
  have G_check_stream := ok_check_stream (Z := Z) (F := F18) (T := T) (D_read_whole := D16) (G_read_whole := G_read_whole)
  have G_nodes_of := ok_nodes_of (Z := Z) (F := F19) (T := T)
  have G_document_of := ok_document_of (Z := Z) (F := F20) (T := T) (D_nodes_of := D19) (G_nodes_of := G_nodes_of.mono (by decide)) (D_check_stream := D18) (G_check_stream := G_check_stream)
  have G_law_document := ok_law_document (Z := Z) (F := F21) (T := T) (D_law_take := D11) (G_law_take := G_law_take.mono (by decide)) (D_law_text := D13) (G_law_text := G_law_text) (D_law_pick := D12) (G_law_pick := G_law_pick.mono (by decide)) (D_law_document := D21)
  have G_law_signs := ok_law_signs (Z := Z) (F := F22) (T := T) (D_law_signs := D22)
  have G_behind_letters := ok_behind_letters (Z := Z) (F := F23) (T := T)
  have G_quoted := ok_quoted (Z := Z) (F := F24) (T := T)
  have G_marked := ok_marked (Z := Z) (F := F25) (T := T) (D_quoted := D24) (G_quoted := G_quoted)
  have G_markup := ok_markup (Z := Z) (F := F26) (T := T) (D_marked := D25) (G_marked := G_marked.mono (by decide)) (D_check_prefix := D17) (G_check_prefix := G_check_prefix)
  have G_markup_of := ok_markup_of (Z := Z) (F := F27) (T := T) (D_marked := D25) (G_marked := G_marked.mono (by decide)) (D_signs_of := D9) (G_signs_of := G_signs_of)
  have G_read_text := ok_read_text (Z := Z) (F := F28) (T := T) (A_BadText := A_BadText) (B_BadText := B_BadText) (I_BadText := I_BadText)
  have G_read_opening := ok_read_opening (Z := Z) (F := F29) (T := T) (D_behind_letters := D23) (G_behind_letters := G_behind_letters.mono (by decide)) (A_BadText := A_BadText) (B_BadText := B_BadText) (I_BadText := I_BadText)
  have G_read_closing := ok_read_closing (Z := Z) (F := F30) (T := T) (A_BadText := A_BadText) (B_BadText := B_BadText) (I_BadText := I_BadText)
  have G_read_sign := ok_read_sign (Z := Z) (F := F31) (T := T) (D_read_text := D28) (G_read_text := G_read_text) (D_read_closing := D30) (G_read_closing := G_read_closing) (D_read_opening := D29) (G_read_opening := G_read_opening) (A_BadText := A_BadText) (B_BadText := B_BadText) (I_BadText := I_BadText.mono (by decide))
  have G_markup_behind := ok_markup_behind (Z := Z) (F := F32) (T := T) (D_read_sign := D31) (G_read_sign := G_read_sign) (A_BadText := A_BadText) (B_BadText := B_BadText) (I_BadText := I_BadText.mono (by decide))
  have G_read_markup := ok_read_markup (Z := Z) (F := F33) (T := T) (D_markup_behind := D32) (G_markup_behind := G_markup_behind)
  have G_from_text := ok_from_text (Z := Z) (F := F34) (T := T) (D_markup_behind := D32) (G_markup_behind := G_markup_behind) (D_nodes_of := D19) (G_nodes_of := G_nodes_of.mono (by decide)) (A_BadText := A_BadText) (B_BadText := B_BadText) (I_BadText := I_BadText.mono (by decide))
  have G_law_heard := ok_law_heard (Z := Z) (F := F35) (T := T) (A_BadForm := A_BadForm) (E_BadForm := E_BadForm) (A_BadStream := A_BadStream) (E_BadStream := E_BadStream) (A_BadText := A_BadText) (E_BadText := E_BadText) (g_OpenError := PySem.W.mg_of X G aO) (op_BadForm_OpenError := op_BadForm) (op_BadStream_OpenError := op_BadStream) (op_BadText_OpenError := op_BadText) (x_BadStream_BadForm := x_BadStream_BadForm) (x_BadText_BadForm := x_BadText_BadForm) (x_BadText_BadStream := x_BadText_BadStream)
  have G_law_quoted := ok_law_quoted (Z := Z) (F := F36) (T := T)
  have G_law_markup := ok_law_markup (Z := Z) (F := F37) (T := T) (D_law_quoted := D36) (G_law_quoted := G_law_quoted)
  have G_law_read := ok_law_read (Z := Z) (F := F38) (T := T)
  have G_law_text_right := ok_law_text_right (Z := Z) (F := DC39) (T := T) (hst := hst) (TB := ⟨TB39.code, TB39.bm, TB39.gP⟩) (hm := m39) (hu := w39) (hP := n39) (D_law_read := D38) (G_law_read := G_law_read.mono (by decide)) (D_law_heard := D35) (G_law_heard := G_law_heard.mono (by decide)) (D_read_markup := D33) (G_read_markup := G_read_markup.mono (by decide)) (D_from_text := D34) (G_from_text := G_from_text.mono (by decide)) (D_law_signs := D22) (G_law_signs := G_law_signs)
  have G_law := ok_law (Z := Z) (F := DC40) (T := T) (hst := hst) (TB := ⟨TB40.code, TB40.bm, TB40.gP⟩) (hm := m40) (hu := w40) (hP := n40) (D_law_box := D10) (G_law_box := G_law_box.mono (by decide)) (D_law_document := D21) (G_law_document := G_law_document.mono (by decide)) (D_law_signs := D22) (G_law_signs := G_law_signs.mono (by decide)) (D_law_markup := D37) (G_law_markup := G_law_markup.mono (by decide)) (D_markup := D26) (G_markup := G_markup.mono (by decide)) (D_markup_of := D27) (G_markup_of := G_markup_of.mono (by decide)) (D_from_text := D34) (G_from_text := G_from_text.mono (by decide)) (D_document_of := D20) (G_document_of := G_document_of.mono (by decide)) (D_read_markup := D33) (G_read_markup := G_read_markup.mono (by decide)) (D_law_take := D11) (G_law_take := G_law_take.mono (by decide)) (D_law_text_right := D39) (G_law_text_right := G_law_text_right) (D_law_pick := D12) (G_law_pick := G_law_pick.mono (by decide)) (D_law_heard := D35) (G_law_heard := G_law_heard.mono (by decide))
  exact law_go G_law ⟨rfl, by decide, by decide⟩ fun ns Q er l q => ⟨ns, rfl, Nat.le_trans l (by decide), q _⟩
theorem walk {l : PySem.W.OpenLaw} {q : Program} {loose : List Str} {XP : (Str → Option Value) → Heap → Prop} {YP : World → Heap → Prop} {d : DefRec} {K : Params → PySem.W.Frag} (hn : l.most = some 63) (hdf : d.params.defaults = [])
    (r0 : ((recsOf q).find? fun e => e.name == ("is_label" : Str)).isSome = true) (r1 : ((recsOf q).find? fun e => e.name == ("_law_text_right" : Str)).isSome = true) (r2 : ((recsOf q).find? fun e => e.name == ("law" : Str)).isSome = true) (hY : ∀ (w : World) (h : Heap), YP w h → (K w.params).In h)
    (F : ∀ (w : World) (mg : Str → Option Value) (fa : Addr) (h : Heap), (K w.params).In h → h.Ns mainGlobals mg → mg d.name = some (.ref fa) → Known l.prog w (K w.params) mg fa) :
    PySem.W.WalkO q loose XP YP l.row.toRowW d [] (fun f vs => PySem.call f vs) := by
  refine Att.attach_callB hn hdf fun w s₀ s₁ mg mb fa o pm cd doc a vs ns G Y ho hd hcd hmg hobj hints hlen hbits hg => ?_
  have KX := hY w _ Y
  obtain ⟨c0, P0, c1, P1, c2, P2, fd, ht0, n0, ht1, n1, ht2, n2, hb, hF⟩ := F w mg fa _ KX G.T.g hmg
  obtain ⟨dr0, e0⟩ := Option.isSome_iff_exists.mp r0
  obtain ⟨Ch0, hT0⟩ := PySem.W.tab_of G.T KX e0 ht0
  obtain ⟨dr1, e1⟩ := Option.isSome_iff_exists.mp r1
  obtain ⟨Ch1, hT1⟩ := PySem.W.tab_of G.T KX e1 ht1
  obtain ⟨dr2, e2⟩ := Option.isSome_iff_exists.mp r2
  obtain ⟨Ch2, hT2⟩ := PySem.W.tab_of G.T KX e2 ht2
  have all : ∀ {X : Addr × Addr → Prop}, X (c0, P0) → X (c1, P1) → X (c2, P2) → ∀ p ∈ [(c0, P0), (c1, P1), (c2, P2)], X p := by
    intro X x0 x1 x2 p hp
    simp only [List.mem_cons, List.not_mem_nil, or_false] at hp
    rcases hp with rfl | rfl | rfl
    · exact x0
    · exact x1
    · exact x2
  refine SoG3.law_end (cs := [(c0, P0), (c1, P1), (c2, P2)]) KX G.T.g G.T.b G.T.builtins G.T.nolimit hg (all hT0 hT1 hT2) (all n0 n1 n2) (all Ch0 Ch1 Ch2) G.T.bmain hobj hints (Nat.le_trans hlen (by decide))
    (fun base b1 b2 tb => hF base b1 b2 (tb (c0, P0) (by simp)) (tb (c1, P1) (by simp)) (tb (c2, P2) (by simp))) hb fun H hH hS => ?_
  refine ⟨a, ns, rfl, fun P hP => ?_, hS, hlen, fun _ => rfl⟩
  unfold tabL at hP
  simp only [List.mem_cons, List.not_mem_nil, or_false] at hP
  rcases hP with rfl | rfl | rfl
  · exact hH (c0, _) (by simp)
  · exact hH (c1, _) (by simp)
  · exact hH (c2, _) (by simp)
end K6
set_option Elab.async false
set_option linter.all false
set_option maxRecDepth 100000
open PySem PySem.W PyProof.Rows
set_option maxRecDepth 100000 in
set_option maxHeartbeats 0 in
theorem PySem.Challenge.cw_stillopen_k05_whole_markup_cut_anywhere_holds : PySem.Challenge.rw_stillopen_k05_whole_markup_cut_anywhere.Holds := by
  w_on; o_law; k_head; (case hw => w_witness2)
  k_fill
  refine K6.walk (l := PySem.Challenge.rw_stillopen_k05_whole_markup_cut_anywhere) rfl rfl (by decide +kernel) (by decide +kernel) (by decide +kernel) (fun w h Y => Y.1) ?F
  case F =>
    intro w mg fa h KX G hmg
    refine' K6.all_mk KX G hmg ?a1 ?l1 ?c1 ?k1 ?a2 ?l2 ?c2 ?k2 ?a3 ?l3 ?c3 ?k3 ?a4 ?l4 ?c4 ?k4 ?a5 ?l5 ?c5 ?k5 ?a6 ?l6 ?c6 ?k6 ?a7 ?l7 ?c7 ?k7 ?a8 ?l8 ?c8 ?k8 ?a9 ?l9 ?c9 ?k9 ?a10 ?l10 ?c10 ?k10 ?a11 ?l11 ?c11 ?k11 ?a12 ?l12 ?c12 ?k12 ?a13 ?l13 ?c13 ?k13 ?a14 ?l14 ?c14 ?k14 ?a15 ?l15 ?c15 ?k15 ?a16 ?l16 ?c16 ?k16 ?a17 ?l17 ?c17 ?k17 ?a18 ?l18 ?c18 ?k18 ?a19 ?l19 ?c19 ?k19 ?a20 ?l20 ?c20 ?k20 ?a21 ?l21 ?c21 ?k21 ?a22 ?l22 ?c22 ?k22 ?a23 ?l23 ?c23 ?k23 ?a24 ?l24 ?c24 ?k24 ?a25 ?l25 ?c25 ?k25 ?a26 ?l26 ?c26 ?k26 ?a27 ?l27 ?c27 ?k27 ?a28 ?l28 ?c28 ?k28 ?a29 ?l29 ?c29 ?k29 ?a30 ?l30 ?c30 ?k30 ?a31 ?l31 ?c31 ?k31 ?a32 ?l32 ?c32 ?k32 ?a33 ?l33 ?c33 ?k33 ?a34 ?l34 ?c34 ?k34 ?a35 ?l35 ?c35 ?k35 ?a36 ?l36 ?c36 ?k36 ?a37 ?l37 ?c37 ?k37 ?a38 ?l38 ?c38 ?k38 ?a39 ?l39 ?c39 ?k39 ?a40 ?l40 ?c40 ?k40 ?lc4 ?hp4 ?nT4 ?lc39 ?hp39 ?nT39 ?lc40 ?hp40 ?nT40 ?d4x39 ?d4x40 ?d39x40 ?z_abs ?z_all ?z_enumerate ?z_int ?z_isinstance ?z_len ?z_list ?z_max ?z_min ?z_range ?z_repr ?z_reversed ?z_str ?z_tuple ?v_LETTERS ?v_LABEL_MOST ?v_TEXT_MOST ?hkd ?aO ?cg ?ctk ?aC_BadForm ?xL_BadForm ?sa_BadForm ?na_BadForm ?aI_BadForm ?tI_BadForm ?lI_BadForm ?cI_BadForm ?kI_BadForm ?kC_BadForm ?eC_BadForm ?tC_BadForm ?iC_BadForm ?sC_BadForm ?ga_BadForm ?gg_BadForm ?hd_BadForm ?ca_BadForm ?mo_BadForm ?op_BadForm ?aC_BadStream ?xL_BadStream ?sa_BadStream ?na_BadStream ?aI_BadStream ?tI_BadStream ?lI_BadStream ?cI_BadStream ?kI_BadStream ?kC_BadStream ?eC_BadStream ?tC_BadStream ?iC_BadStream ?sC_BadStream ?ga_BadStream ?gg_BadStream ?hd_BadStream ?ca_BadStream ?mo_BadStream ?op_BadStream ?aC_BadText ?xL_BadText ?sa_BadText ?na_BadText ?aI_BadText ?tI_BadText ?lI_BadText ?cI_BadText ?kI_BadText ?kC_BadText ?eC_BadText ?tC_BadText ?iC_BadText ?sC_BadText ?ga_BadText ?gg_BadText ?hd_BadText ?ca_BadText ?mo_BadText ?op_BadText ?ns_BadStream_BadForm ?ns_BadText_BadForm ?ns_BadText_BadStream
    (case a1 => k_is)
    (case l1 => k_is)
    (case c1 => k_is)
    (case k1 => k_is)
    (case a2 => k_is)
    (case l2 => k_is)
    (case c2 => k_is)
    (case k2 => k_is)
    (case a3 => k_is)
    (case l3 => k_is)
    (case c3 => k_is)
    (case k3 => k_is)
    (case a4 => k_is)
    (case l4 => k_is)
    (case c4 => k_is)
    (case k4 => k_is)
    (case a5 => k_is)
    (case l5 => k_is)
    (case c5 => k_is)
    (case k5 => k_is)
    (case a6 => k_is)
    (case l6 => k_is)
    (case c6 => k_is)
    (case k6 => k_is)
    (case a7 => k_is)
    (case l7 => k_is)
    (case c7 => k_is)
    (case k7 => k_is)
    (case a8 => k_is)
    (case l8 => k_is)
    (case c8 => k_is)
    (case k8 => k_is)
    (case a9 => k_is)
    (case l9 => k_is)
    (case c9 => k_is)
    (case k9 => k_is)
    (case a10 => k_is)
    (case l10 => k_is)
    (case c10 => k_is)
    (case k10 => k_is)
    (case a11 => k_is)
    (case l11 => k_is)
    (case c11 => k_is)
    (case k11 => k_is)
    (case a12 => k_is)
    (case l12 => k_is)
    (case c12 => k_is)
    (case k12 => k_is)
    (case a13 => k_is)
    (case l13 => k_is)
    (case c13 => k_is)
    (case k13 => k_is)
    (case a14 => k_is)
    (case l14 => k_is)
    (case c14 => k_is)
    (case k14 => k_is)
    (case a15 => k_is)
    (case l15 => k_is)
    (case c15 => k_is)
    (case k15 => k_is)
    (case a16 => k_is)
    (case l16 => k_is)
    (case c16 => k_is)
    (case k16 => k_is)
    (case a17 => k_is)
    (case l17 => k_is)
    (case c17 => k_is)
    (case k17 => k_is)
    (case a18 => k_is)
    (case l18 => k_is)
    (case c18 => k_is)
    (case k18 => k_is)
    (case a19 => k_is)
    (case l19 => k_is)
    (case c19 => k_is)
    (case k19 => k_is)
    (case a20 => k_is)
    (case l20 => k_is)
    (case c20 => k_is)
    (case k20 => k_is)
    (case a21 => k_is)
    (case l21 => k_is)
    (case c21 => k_is)
    (case k21 => k_is)
    (case a22 => k_is)
    (case l22 => k_is)
    (case c22 => k_is)
    (case k22 => k_is)
    (case a23 => k_is)
    (case l23 => k_is)
    (case c23 => k_is)
    (case k23 => k_is)
    (case a24 => k_is)
    (case l24 => k_is)
    (case c24 => k_is)
    (case k24 => k_is)
    (case a25 => k_is)
    (case l25 => k_is)
    (case c25 => k_is)
    (case k25 => k_is)
    (case a26 => k_is)
    (case l26 => k_is)
    (case c26 => k_is)
    (case k26 => k_is)
    (case a27 => k_is)
    (case l27 => k_is)
    (case c27 => k_is)
    (case k27 => k_is)
    (case a28 => k_is)
    (case l28 => k_is)
    (case c28 => k_is)
    (case k28 => k_is)
    (case a29 => k_is)
    (case l29 => k_is)
    (case c29 => k_is)
    (case k29 => k_is)
    (case a30 => k_is)
    (case l30 => k_is)
    (case c30 => k_is)
    (case k30 => k_is)
    (case a31 => k_is)
    (case l31 => k_is)
    (case c31 => k_is)
    (case k31 => k_is)
    (case a32 => k_is)
    (case l32 => k_is)
    (case c32 => k_is)
    (case k32 => k_is)
    (case a33 => k_is)
    (case l33 => k_is)
    (case c33 => k_is)
    (case k33 => k_is)
    (case a34 => k_is)
    (case l34 => k_is)
    (case c34 => k_is)
    (case k34 => k_is)
    (case a35 => k_is)
    (case l35 => k_is)
    (case c35 => k_is)
    (case k35 => k_is)
    (case a36 => k_is)
    (case l36 => k_is)
    (case c36 => k_is)
    (case k36 => k_is)
    (case a37 => k_is)
    (case l37 => k_is)
    (case c37 => k_is)
    (case k37 => k_is)
    (case a38 => k_is)
    (case l38 => k_is)
    (case c38 => k_is)
    (case k38 => k_is)
    (case a39 => k_is)
    (case l39 => k_is)
    (case c39 => k_is)
    (case k39 => k_is)
    (case a40 => k_is)
    (case l40 => k_is)
    (case c40 => k_is)
    (case k40 => k_is)
    (case lc4 => k_is)
    (case hp4 => rfl)
    (case nT4 => first | rfl | kernel_rfl)
    (case lc39 => k_is)
    (case hp39 => rfl)
    (case nT39 => first | rfl | kernel_rfl)
    (case lc40 => k_is)
    (case hp40 => rfl)
    (case nT40 => first | rfl | kernel_rfl)
    (case d4x39 => decide)
    (case d4x40 => decide)
    (case d39x40 => decide)
    (case z_abs => k_is)
    (case z_all => k_is)
    (case z_enumerate => k_is)
    (case z_int => k_is)
    (case z_isinstance => k_is)
    (case z_len => k_is)
    (case z_list => k_is)
    (case z_max => k_is)
    (case z_min => k_is)
    (case z_range => k_is)
    (case z_repr => k_is)
    (case z_reversed => k_is)
    (case z_str => k_is)
    (case z_tuple => k_is)
    (case v_LETTERS => k_is)
    (case v_LABEL_MOST => k_is)
    (case v_TEXT_MOST => k_is)
    (case hkd => first | kernel_rfl | rfl | k_is)
    (case aO => k_is)
    (case cg => first | k_is | rfl | kernel_rfl)
    (case ctk => first | k_is | rfl | kernel_rfl)
    (case aC_BadForm => k_is)
    (case xL_BadForm => k_is)
    (case sa_BadForm => k_is)
    (case na_BadForm => k_is)
    (case aI_BadForm => k_is)
    (case tI_BadForm => k_is)
    (case lI_BadForm => k_is)
    (case cI_BadForm => k_is)
    (case kI_BadForm => k_is)
    (case kC_BadForm => k_is)
    (case eC_BadForm => k_is)
    (case tC_BadForm => k_is)
    (case iC_BadForm => k_is)
    (case sC_BadForm => first | rfl | k_is)
    (case ga_BadForm => k_is)
    (case gg_BadForm => k_is)
    (case hd_BadForm => first | k_is | rfl | kernel_rfl)
    (case ca_BadForm => k_is)
    (case mo_BadForm => first | k_is | rfl | kernel_rfl)
    (case op_BadForm => first | k_is | rfl | kernel_rfl)
    (case aC_BadStream => k_is)
    (case xL_BadStream => k_is)
    (case sa_BadStream => k_is)
    (case na_BadStream => k_is)
    (case aI_BadStream => k_is)
    (case tI_BadStream => k_is)
    (case lI_BadStream => k_is)
    (case cI_BadStream => k_is)
    (case kI_BadStream => k_is)
    (case kC_BadStream => k_is)
    (case eC_BadStream => k_is)
    (case tC_BadStream => k_is)
    (case iC_BadStream => k_is)
    (case sC_BadStream => first | rfl | k_is)
    (case ga_BadStream => k_is)
    (case gg_BadStream => k_is)
    (case hd_BadStream => first | k_is | rfl | kernel_rfl)
    (case ca_BadStream => k_is)
    (case mo_BadStream => first | k_is | rfl | kernel_rfl)
    (case op_BadStream => first | k_is | rfl | kernel_rfl)
    (case aC_BadText => k_is)
    (case xL_BadText => k_is)
    (case sa_BadText => k_is)
    (case na_BadText => k_is)
    (case aI_BadText => k_is)
    (case tI_BadText => k_is)
    (case lI_BadText => k_is)
    (case cI_BadText => k_is)
    (case kI_BadText => k_is)
    (case kC_BadText => k_is)
    (case eC_BadText => k_is)
    (case tC_BadText => k_is)
    (case iC_BadText => k_is)
    (case sC_BadText => first | rfl | k_is)
    (case ga_BadText => k_is)
    (case gg_BadText => k_is)
    (case hd_BadText => first | k_is | rfl | kernel_rfl)
    (case ca_BadText => k_is)
    (case mo_BadText => first | k_is | rfl | kernel_rfl)
    (case op_BadText => first | k_is | rfl | kernel_rfl)
    (case ns_BadStream_BadForm => first | k_is | rfl | kernel_rfl)
    (case ns_BadText_BadForm => first | k_is | rfl | kernel_rfl)
    (case ns_BadText_BadStream => first | k_is | rfl | kernel_rfl)
