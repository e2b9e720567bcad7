from leapcard.answers import Answer, Found, Parted, SumFound, SumParted
from leapcard.machine import Machine
from tests.helpers import LeapTest

MACHINE = Machine.read(".a|0,1|2,3!|2,4!|1,4|4,4")
ONE = Machine.everything(".a")


class AnswerTest(LeapTest):
    def test_answer(self):
        self.assertEqual(Answer.verdict, "")
        self.assertEqual(Answer([]).told(), "0 guesses")
        self.assertEqual(Answer([(ONE, "")]).told(), "1 guesses")
        self.assertEqual(Answer([(ONE, "")]).guesses, [(ONE, "")])

    def test_found(self):
        for answer_class, verdict in ((Found, "found"), (SumFound, "sum found")):
            self.assertEqual(answer_class.verdict, verdict)
            answer = answer_class(MACHINE, [(ONE, ""), (MACHINE, "a")])
            self.assertEqual(answer.told(), "found 5 states, 2 guesses")
            self.assertEqual(answer.verdict, verdict)
            self.assertEqual(answer.machine, MACHINE)
            self.assertEqual(answer_class(ONE, []).told(), "found 1 states, 0 guesses")
            self.assertIsInstance(answer, Answer)

    def test_parted(self):
        for answer_class, verdict in ((Parted, "parted"), (SumParted, "sum parted")):
            self.assertEqual(answer_class.verdict, verdict)
            answer = answer_class(["", "a", "aa"], [[], ["."], ["a", ""]], [(ONE, "a")])
            self.assertEqual(answer.told(), "more than 2 states, 1 guesses")
            self.assertEqual(answer.verdict, verdict)
            self.assertEqual((answer.rows, answer.endings), (["", "a", "aa"], [[], ["."], ["a", ""]]))
            self.assertEqual(answer_class(["", "a"], [[], [""]], []).told(), "more than 1 states, 0 guesses")
            self.assertIsInstance(answer, Answer)

    def test_classes_are_not_below_one_another(self):
        for answer_class in (Found, Parted, SumFound, SumParted):
            self.assertEqual(answer_class.__bases__, (Answer,))
            self.assertIn("told", vars(answer_class))

    def test_lists_are_copied(self):
        guesses, rows, endings = [(ONE, "")], ["", "a"], [[], [""]]
        answers = [Answer(guesses), Found(MACHINE, guesses), SumFound(MACHINE, guesses), Parted(rows, endings, guesses),
                   SumParted(rows, endings, guesses)]
        guesses.append((ONE, "a"))
        rows.clear()
        endings[1].append("a")
        endings.append([])
        for answer in answers:
            self.assertEqual(answer.guesses, [(ONE, "")])
        for answer in answers[3:]:
            self.assertEqual((answer.rows, answer.endings), (["", "a"], [[], [""]]))

    def test_tuples_are_taken(self):
        answer = Parted(("", "a"), ((), ("",)), ())
        self.assertEqual((answer.rows, answer.endings, answer.guesses), (["", "a"], [[], [""]], []))
